import PyProof.Rows.All
import Wide.All
import OpenK.AllK
import Wide.FinOn
import HandS.Base
import HandS.Call
import HandS.List
import HandS.Comp
import HandS.Ends
import HandS.Words
import HandS.WordsList
import HandS.Wide
import HandS.Zip
import HandS.Iter
import HandS.Gcd
import HandS.IsInst
import HandS.Evl
import HandS.TryOnly
import HandS.Defaults
import KE.KRevSl
import KE.GoesZip
import KE.GoesMore
import HandS.TupAny
import HandS.Flow
import HandS.More
import HandS.ExcIs
import HandS.HotCalls
import HandS.ExcCtx
import HandS.ExcInit
import HandS.ExcField
import HandS.ExcValue
import KE.KExcIs
import HandS.Text
import HandS.Deep
import HandS.Star
import PySem.Challenge.RW_everypoint_k00_ratio_in_lowest_terms
set_option Elab.async false
set_option maxRecDepth 100000
namespace My
open PySem L2

/-! bits -/
structure B (k : Nat) (i : Int) : Prop where
  lt : i.natAbs < 2 ^ k
theorem B.le {a b : Nat} {x : Int} (h : B a x) (ab : a ≤ b) : B b x := ⟨Nat.lt_of_lt_of_le h.lt (Nat.pow_le_pow_right (by decide) ab)⟩
theorem B.add {a b : Nat} {x y : Int} (ha : B a x) (hb : B b y) : B (max a b + 1) (x + y) := by
  have h1 : B (max a b) x := ha.le (Nat.le_max_left _ _)
  have h2 : B (max a b) y := hb.le (Nat.le_max_right _ _)
  have h3 := h1.lt
  have h4 := h2.lt
  refine ⟨?_⟩
  rw [Nat.pow_succ]
  omega
theorem B.neg {a : Nat} {x : Int} (ha : B a x) : B a (-x) := ⟨by
  have := ha.lt
  omega⟩
theorem B.sub {a b : Nat} {x y : Int} (ha : B a x) (hb : B b y) : B (max a b + 1) (x - y) := by
  have := B.add ha hb.neg
  rw [Int.sub_eq_add_neg]
  exact this
theorem B.mul {a b : Nat} {x y : Int} (ha : B a x) (hb : B b y) : B (a + b) (x * y) := ⟨wide_lt ha.lt hb.lt⟩
theorem B.lit {x : Int} {k : Nat} (h : decide (x.natAbs < 2 ^ k) = true) : B k x := ⟨of_decide_eq_true (p := x.natAbs < 2 ^ k) h⟩
theorem B.of_le {k : Nat} {x y : Int} (h : x.natAbs ≤ y.natAbs) (hb : B k y) : B k x := ⟨Nat.lt_of_le_of_lt h hb.lt⟩
theorem B.rng {k : Nat} {x : Int} (lo : -(2 ^ k) < x) (hi : x < 2 ^ k) : B k x := ⟨by
  have e : ((2 ^ k : Nat) : Int) = 2 ^ k := by simp
  omega⟩
theorem B.cmul {a b : Nat} {x y : Int} (ha : B a x) (hb : B b y) (h : a + b + 2 ≤ 1000000) : CMulW x y :=
  wide_mul (a := a + 1) (b := b + 1) (ha.le (Nat.le_succ a)).lt (hb.le (Nat.le_succ b)).lt (Nat.succ_pos _) (Nat.succ_pos _) (by omega)
/-- // by a divisor of any sign -/
def CDivZ (_ j : Int) : Prop := j ≠ 0 ∧ j.natAbs.log2 < 9000
theorem op_fdivZ {X : Cx} : OpR X (binaryOp .FloorDiv) (rI CDivZ fun i j => .int (i.fdiv j)) := opI fun _ _ _ _ _ _ _ hc q =>
  PyProof.Rows.floordiv_int hc.1 q (.inl (PyProof.noPylong_of_log2 hc.2))
theorem B.cdiv {b : Nat} {x y : Int} (h0 : y ≠ 0) (hb : B b y) (h : b + 1 ≤ 9000) : CDivZ x y :=
  ⟨h0, PySem.Flt.log2_lt_of (k := b + 1) (Nat.succ_pos _) (hb.le (Nat.le_succ b)).lt |> fun q => Nat.lt_of_lt_of_le q h⟩

/-! heaps -/
theorem Same.rd {H H' : Hp} {a : Addr} {u : HO} (e : Same H H') (h : Rd H a u) : Rd H' a u := by
  rcases h with h | ⟨o, h⟩
  · exact .inl (e a _ h)
  · exact .inr ⟨o, e a _ h⟩
theorem Same.tup {K : PySem.W.Frag} {H H' : Hp} {a : Addr} {xs : List V} (e : Same H H') (h : SqT K H a xs) : SqT K H' a xs := by
  rcases h with h | h
  · exact .inl (Same.rd e h)
  · exact .inr h
theorem Same.new {H : Hp} {p : Addr} {o : HO} (h : H p = none) : Same H (upd H p o) := fun a u e => by
  rw [upd_ne (ne_of_none e h)]
  exact e
theorem Same.mut {H H' : Hp} {p : Addr} {o : HO} (e : Same H H') (h : H p = none) : Same H (upd H' p o) := fun a u ha => by
  rw [upd_ne (ne_of_none ha h)]
  exact e a u ha
/-- all but what stands at s is as it was; the list at s begins as it began -/
structure Fr (s : Addr) (H H' : Hp) : Prop where
  keep : ∀ b o, b ≠ s → H b = some o → H' b = some o
  hd : ∀ xs, H s = some (.lst xs) → ∃ ys, H' s = some (.lst ys) ∧ ys.head? = xs.head?
theorem Fr.refl (s : Addr) (H : Hp) : Fr s H H := ⟨fun _ _ _ h => h, fun xs h => ⟨xs, h, rfl⟩⟩
theorem Fr.trans {s : Addr} {H H1 H2 : Hp} (a : Fr s H H1) (b : Fr s H1 H2) : Fr s H H2 := ⟨fun c o n h => b.keep c o n (a.keep c o n h), fun xs h => by
  obtain ⟨ys, h1, e1⟩ := a.hd xs h
  obtain ⟨zs, h2, e2⟩ := b.hd ys h1
  exact ⟨zs, h2, e2.trans e1⟩⟩
theorem Same.fr {s : Addr} {H H' : Hp} (e : Same H H') : Fr s H H' := ⟨fun b o _ h => e b o h, fun xs h => ⟨xs, e _ _ h, rfl⟩⟩
theorem Fr.upd {s : Addr} {H : Hp} {xs ys : List V} (h : H s = some (.lst xs)) (e : ys.head? = xs.head?) : Fr s H (upd H s (.lst ys)) := ⟨fun b u n h => by
  rw [upd_ne n]
  exact h, fun zs hz => by
  rw [h] at hz
  cases hz
  exact ⟨ys, upd_same, e⟩⟩
theorem Fr.mut {s : Addr} {H H' : Hp} {p : Addr} {o : HO} (e : Fr s H H') (h : H p = none) (hs : H s ≠ none) : Fr s H (L2.upd H' p o) := ⟨fun b u n hb => by
  rw [upd_ne (ne_of_none hb h)]
  exact e.keep b u n hb, fun xs hx => by
  rw [upd_ne (ne_of_none hx h)]
  exact e.hd xs hx⟩
theorem Fr.new {s : Addr} {H : Hp} {p : Addr} {o : HO} (h : H p = none) : Fr s H (L2.upd H p o) := Same.fr (Same.new h)
/-- the store of a law's draws -/
structure StD (K : PySem.W.Frag) (H : Hp) (s l : Addr) (ns : List Int) (i1 i2 i3 i4 i5 i6 : Int) : Prop where
  at_ : H s = some (.lst [.ref l, .int i1, .int i2, .int i3, .int i4, .int i5, .int i6])
  ne : l ≠ s
  lst : H l = some (.lst (ns.map V.int))
  nn : 0 ≤ i1
def St (K : PySem.W.Frag) (H : Hp) (s : Addr) : Prop := ∃ l ns i1 i2 i3 i4 i5 i6, StD K H s l ns i1 i2 i3 i4 i5 i6
theorem St.same {K : PySem.W.Frag} {H H' : Hp} {s : Addr} (e : Same H H') (h : St K H s) : St K H' s := by
  obtain ⟨l, ns, i1, i2, i3, i4, i5, i6, h⟩ := h
  exact ⟨l, ns, i1, i2, i3, i4, i5, i6, e _ _ h.at_, h.ne, e _ _ h.lst, h.nn⟩
theorem Fr.tup {K : PySem.W.Frag} {H H' : Hp} {s a : Addr} {xs : List V} (e : Fr s H H') (st : St K H s) (h : SqT K H a xs) : SqT K H' a xs := by
  obtain ⟨l, ns, i1, i2, i3, i4, i5, i6, st⟩ := st
  rcases h with (h | ⟨o, h⟩) | h
  · refine .inl (.inl (e.keep _ _ (fun q => ?_) h))
    rw [q, st.at_] at h
    cases h
  · refine .inl (.inr ⟨o, e.keep _ _ (fun q => ?_) h⟩)
    rw [q, st.at_] at h
    cases h
  · exact .inr h

theorem St.some {K : PySem.W.Frag} {H : Hp} {s : Addr} (h : St K H s) : H s ≠ none := by
  obtain ⟨l, ns, i1, i2, i3, i4, i5, i6, h⟩ := h
  rw [h.at_]
  intro q
  cases q
/-- an object that was not there at the beginning may change -/
theorem St.mut {K : PySem.W.Frag} {H H1 : Hp} {s p : Addr} {o : HO} (h : St K H s) (e : Fr s H H1) (h1 : St K H1 s) (hp : H p = none) : St K (upd H1 p o) s := by
  obtain ⟨l, ns, i1, i2, i3, i4, i5, i6, h⟩ := h
  obtain ⟨l', ns', j1, j2, j3, j4, j5, j6, h1⟩ := h1
  obtain ⟨ys, hy, e2⟩ := e.hd _ h.at_
  rw [h1.at_] at hy
  cases hy
  have el : l' = l := by simpa using e2
  subst el
  exact ⟨l', ns', j1, j2, j3, j4, j5, j6, (upd_ne (ne_of_none h.at_ hp)).trans h1.at_, h1.ne, (upd_ne (ne_of_none h.lst hp)).trans h1.lst, h1.nn⟩
/-! rules in short -/
section
variable {X : Cx}
structure Cal (P : Program) (w : World) (K : PySem.W.Frag) (mg : Str → Option Value) (base : Heap) (x : Str) (k : Nat) (ps : List Str) (sp : Sp) : Prop where
  ex : ∃ (f : Addr) (fd : FuncData), FnOk P w K mg base CX0 k f fd ps sp ∧ mg x = some (.ref f) ∧ PySem.W.keepIn K (.ref f) = true ∧ Binds K fd ps []
variable {x : Str} {p pos : Pos} {e : Expr} {es : List Expr} {t : TA} {k : Nat} {ps : List Str} {sp : Sp}
theorem pc (C : Cal X.prog X.w X.K X.mg X.base x k ps sp) (hr : Room k X.A) (hg : Gl X x) (ha : PA X (e :: es) t) (hdb : (x == ("__debug__" : Str)) = false := by decide)
    (he : starEach (e :: es) X.env = (false, eval e X.env) :: starEach es X.env := by rfl) (hpl : (backTo pos (starEach es X.env)).any (·.1) = false := by rfl) :
    PE X (.Call (.Name x p) (e :: es) [] pos) (tCall sp [] E0 t) := by
  obtain ⟨f, fd, F, hm, hk, hb⟩ := C.ex
  exact pe_call F hr hg hm hk hb .nil pass0 ha hdb he hpl
theorem pc0 (C : Cal X.prog X.w X.K X.mg X.base x k ps sp) (hr : Room k X.A) (hg : Gl X x) (hdb : (x == ("__debug__" : Str)) = false := by decide) :
    PE X (.Call (.Name x p) [] [] pos) (tCall sp [] E0 tNil) := by
  obtain ⟨f, fd, F, hm, hk, hb⟩ := C.ex
  exact pe_call0 F hr hg hm hk hb .nil pass0 hdb
end
/-- a new tuple -/
theorem mk_tup {K : PySem.W.Frag} {H : Hp} {xs : List V} {Q : VK} (hl : xs.length ≤ 100000) (h : ∀ (p : Addr) (H1 : Hp), H p = none → Same H H1 → SqT K H1 p xs → Q (.ref p) H1) :
    xs.length ≤ sizeLine ∧ ∀ p, H p = none → Q (.ref p) (upd H p (.tup xs)) :=
  ⟨Nat.le_trans hl (by decide), fun p np => h p _ np (Same.new np) (SqT.of upd_same)⟩
theorem mk_lst {H : Hp} {xs : List V} {Q : VK} (hl : xs.length ≤ 100000) (h : ∀ (p : Addr) (H1 : Hp), H p = none → Same H H1 → H1 p = some (.lst xs) → Q (.ref p) H1) :
    xs.length ≤ sizeLine ∧ ∀ p, H p = none → Q (.ref p) (upd H p (.lst xs)) :=
  ⟨Nat.le_trans hl (by decide), fun p np => h p _ np (Same.new np) upd_same⟩
structure Blt (mg : Str → Option Value) : Prop where
  len : mg "len" = none
  int : mg "int" = none
  abs : mg "abs" = none
  max : mg "max" = none
  min : mg "min" = none
  range : mg "range" = none
  isinstance : mg "isinstance" = none
  list : mg "list" = none
  tuple : mg "tuple" = none
  bool : mg "bool" = none
  str : mg "str" = none
  zip : mg "zip" = none
  enumerate : mg "enumerate" = none
  sum : mg "sum" = none
  gcd : mg "gcd" = some (.builtin "math.gcd")
theorem if_eqI {a b : Int} {A B : Prop} (h1 : a = b → A) (h2 : a ≠ b → B) : if decide (V.int a = V.int b) = true then A else B := by
  by_cases h : a = b
  · rw [if_pos (decide_eq_true (congrArg V.int h))]; exact h1 h
  · rw [if_neg (fun q => h (V.int.inj (of_decide_eq_true q)))]; exact h2 h
theorem if_neI {a b : Int} {A B : Prop} (h1 : a ≠ b → A) (h2 : a = b → B) : if (!decide (V.int a = V.int b)) = true then A else B := by
  by_cases h : a = b
  · rw [if_neg (by rw [decide_eq_true (congrArg V.int h)]; decide)]; exact h2 h
  · rw [if_pos (by rw [decide_eq_false (fun q => h (V.int.inj q))]; rfl)]; exact h1 h
theorem if_dec {p : Prop} [Decidable p] {A B : Prop} (h1 : p → A) (h2 : ¬ p → B) : if decide p = true then A else B := by
  by_cases h : p
  · rw [if_pos (decide_eq_true h)]; exact h1 h
  · rw [if_neg (by rw [decide_eq_false h]; decide)]; exact h2 h
theorem if_ndec {p : Prop} [Decidable p] {A B : Prop} (h1 : ¬ p → A) (h2 : p → B) : if (!decide p) = true then A else B := by
  by_cases h : p
  · rw [if_neg (by rw [decide_eq_true h]; decide)]; exact h2 h
  · rw [if_pos (by rw [decide_eq_false h]; rfl)]; exact h1 h
theorem if_b {b : Bool} {A B : Prop} (h1 : b = true → A) (h2 : b = false → B) : if b = true then A else B := by
  cases b
  · rw [if_neg (by decide)]; exact h2 rfl
  · rw [if_pos rfl]; exact h1 rfl
theorem if_nb {b : Bool} {A B : Prop} (h1 : b = false → A) (h2 : b = true → B) : if (!b) = true then A else B := by
  cases b
  · exact (if_pos (c := (!false) = true) rfl).mpr (h1 rfl)
  · exact (if_neg (c := (!true) = true) (by decide)).mpr (h2 rfl)
end My
/-! the readings, one step each -/
namespace My
open PySem L2
section
variable {K : PySem.W.Frag} {σ : L2.St} {H : Hp} {D : Ends} {te ta tb to ti : TE} {tt t2 : TT} {t u w : TS} {Q : VK} {i : Nat} {v x y : V} {r : R2}
theorem w_seqA (h : te σ H fun x H1 => u D (σ.set i (some x)) H1) : tSeq (tAsg te (gName i)) u D σ H := h
theorem w_asg (h : te σ H fun x H1 => D.nx (σ.set i (some x)) H1) : tAsg te (gName i) D σ H := h
theorem w_seqG {g : TG} (h : te σ H fun x H1 => g x σ H1 (u D)) : tSeq (tAsg te g) u D σ H := h
theorem w_asgG {g : TG} (h : te σ H fun x H1 => g x σ H1 D.nx) : tAsg te g D σ H := h
theorem w_seqI (h : tt σ H fun b H1 => if b = true then t { D with nx := w D } σ H1 else u { D with nx := w D } σ H1) : tSeq (tIfS tt t u) w D σ H := h
theorem w_ifS (h : tt σ H fun b H1 => if b = true then t D σ H1 else u D σ H1) : tIfS tt t u D σ H := h
theorem w_seqD (h : te σ H fun _ H1 => u D σ H1) : tSeq (tDrop te) u D σ H := h
theorem w_drop (h : te σ H fun _ H1 => D.nx σ H1) : tDrop te D σ H := h
theorem w_seqN {n : L2.St → Hp → Prop} (h : u D σ H) : tSeq tNext u D σ H := h
theorem w_next (h : D.nx σ H) : tNext D σ H := h
theorem w_ret (h : te σ H D.rt) : tRet te D σ H := h
theorem w_nx {n : L2.St → Hp → Prop} {rt : VK} {bk ct : L2.St → Hp → Prop} (h : n σ H) : Ends.nx { nx := n, rt := rt, bk := bk, ct := ct } σ H := h
theorem w_rt {n : L2.St → Hp → Prop} {rt : VK} {bk ct : L2.St → Hp → Prop} (h : rt v H) : Ends.rt { nx := n, rt := rt, bk := bk, ct := ct } v H := h
theorem w_never (h : False) : tNever D σ H := h
theorem w_var (e : σ[i]? = some (some v)) (h : Q v H) : tVar i σ H Q := ⟨v, e, h⟩
theorem w_c (h : Q v H) : tC v σ H Q := h
theorem w_op (h : ta σ H fun x H1 => tb σ H1 fun y H2 => r x y H2 Q) : tOp r ta tb σ H Q := h
theorem w_un {r : V → Hp → VK → Prop} (h : ta σ H fun x H1 => r x H1 Q) : tUn r ta σ H Q := h
theorem w_test {Q : Bool → Hp → Prop} (h : te σ H fun x H' => ∃ k, x = .bl k ∧ Q k H') : tTest te σ H Q := h
theorem w_tB {Q : Bool → Hp → Prop} (h : te σ H fun x H' => ∃ k, x = .bl k ∧ Q k H') : tB te σ H Q := h
theorem w_ex {b : Bool} {Q : Bool → Prop} (h : Q b) : ∃ k, V.bl b = .bl k ∧ Q k := ⟨b, rfl, h⟩
theorem w_and {Q : Bool → Hp → Prop} (h : tt σ H fun c H1 => if c = true then t2 σ H1 Q else Q false H1) : tAnd tt t2 σ H Q := h
theorem w_or {Q : Bool → Hp → Prop} (h : tt σ H fun c H1 => if c = true then Q true H1 else t2 σ H1 Q) : tOr tt t2 σ H Q := h
theorem w_not {Q : Bool → Hp → Prop} (h : tt σ H fun c H1 => Q (!c) H1) : tNot tt σ H Q := h
theorem w_andV (h : ta σ H fun x H1 => ∃ c, x = .bl c ∧ if c = true then tb σ H1 Q else Q (.bl false) H1) : tAndV ta tb σ H Q := h
theorem w_orV (h : ta σ H fun x H1 => ∃ c, x = .bl c ∧ if c = true then Q (.bl true) H1 else tb σ H1 Q) : tOrV ta tb σ H Q := h
theorem w_notV (h : ta σ H fun x H1 => ∃ c, x = .bl c ∧ Q (.bl (!c)) H1) : tNotV ta σ H Q := h
theorem w_ifE (h : tt σ H fun c H1 => if c = true then ta σ H1 Q else tb σ H1 Q) : tIf tt ta tb σ H Q := h
theorem w_nil {Q : List V → Hp → Prop} (h : Q [] H) : tNil σ H Q := h
theorem w_cons {tr : TA} {Q : List V → Hp → Prop} (h : ta σ H fun x H1 => tr σ H1 fun xs H2 => Q (x :: xs) H2) : tCons ta tr σ H Q := h
theorem w_cb {r : List V → Hp → VK → Prop} {t : TA} (h : t σ H fun vs H1 => r vs H1 Q) : tCB r t σ H Q := h
theorem w_call {sp : Sp} {E : XK} {t : TA} (h : t σ H fun vs H1 => sp vs H1 Q E) : tCall sp [] E t σ H Q := by
  have e : (fun (vs : List V) H1 => sp (vs ++ []) H1 Q E) = fun vs H1 => sp vs H1 Q E := by
    funext vs H1
    rw [List.append_nil]
  show t σ H fun vs H1 => sp (vs ++ []) H1 Q E
  rw [e]
  exact h
/-- what a new tuple, a new list wants -/
def mkT (xs : List V) (H : Hp) (Q : VK) : Prop := xs.length ≤ sizeLine ∧ ∀ p, H p = none → Q (.ref p) (upd H p (.tup xs))
def mkL (xs : List V) (H : Hp) (Q : VK) : Prop := xs.length ≤ sizeLine ∧ ∀ p, H p = none → Q (.ref p) (upd H p (.lst xs))
theorem w_tup {t : TA} (h : t σ H fun xs H1 => mkT xs H1 Q) : tTup t σ H Q := h
theorem w_lst {t : TA} (h : t σ H fun xs H1 => mkL xs H1 Q) : tLst t σ H Q := h
theorem a_tup {xs : List V} (hl : decide (xs.length ≤ 100000) = true) (h : ∀ (p : Addr) (H1 : Hp), H p = none → Same H H1 → H1 p = some (.tup xs) → Q (.ref p) H1) : mkT xs H Q :=
  ⟨Nat.le_trans (of_decide_eq_true hl) (by decide), fun p np => h p _ np (Same.new np) upd_same⟩
theorem a_lst {xs : List V} (hl : decide (xs.length ≤ 100000) = true) (h : ∀ (p : Addr) (H1 : Hp), H p = none → Same H H1 → H1 p = some (.lst xs) → Q (.ref p) H1) : mkL xs H Q := mk_lst (of_decide_eq_true hl) h
theorem r_I0 {g : Int → Int → V} {i j : Int} (h : Q (g i j) H) : rI0 g (.int i) (.int j) H Q := ⟨i, j, rfl, rfl, h⟩
theorem r_I {C : Int → Int → Prop} {g : Int → Int → V} {i j : Int} (c : C i j) (h : Q (g i j) H) : rI C g (.int i) (.int j) H Q := ⟨i, j, rfl, rfl, c, h⟩
theorem r_U {g : Int → V} {i : Int} (h : Q (g i) H) : rU g (.int i) H Q := ⟨i, rfl, h⟩
theorem r_eq (c : scal x y = true) (h : Q (.bl (decide (x = y))) H) : rEq x y H Q := ⟨c, h⟩
theorem r_ne (c : scal x y = true) (h : Q (.bl (!decide (x = y))) H) : rNe x y H Q := ⟨c, h⟩
theorem r_ixT {p : Addr} {xs : List V} {i : Int} (q : SqT K H p xs) (a : atI xs i = some v) (h : Q v H) : rIxT K (.ref p) (.int i) H Q := ⟨p, xs, i, v, rfl, rfl, q, a, h⟩
theorem r_ixL {p : Addr} {xs : List V} {i : Int} (q : SqL K H p xs) (a : atI xs i = some v) (h : Q v H) : rIxL K (.ref p) (.int i) H Q := ⟨p, xs, i, v, rfl, rfl, q, a, h⟩
theorem r_gcd {a b : Int} (h : Q (.int ((Nat.gcd a.natAbs b.natAbs : Nat) : Int)) H) : rGcd [.int a, .int b] H Q := ⟨a, b, rfl, h⟩
end
end My
namespace My
open PySem L2
theorem gcd_parts (t b : Int) (hb : b ≠ 0) : ∃ (g : Nat) (t' b' : Int), g = Nat.gcd t.natAbs b.natAbs ∧ 0 < g ∧ t = (g : Int) * t' ∧ b = (g : Int) * b' ∧ Nat.gcd t'.natAbs b'.natAbs = 1 := by
  have h1 : ((Nat.gcd t.natAbs b.natAbs : Nat) : Int) ∣ t := Int.ofNat_dvd_left.2 (Nat.gcd_dvd_left _ _)
  have h2 : ((Nat.gcd t.natAbs b.natAbs : Nat) : Int) ∣ b := Int.ofNat_dvd_left.2 (Nat.gcd_dvd_right _ _)
  have hg : 0 < Nat.gcd t.natAbs b.natAbs := Nat.gcd_pos_of_pos_right _ (by omega)
  obtain ⟨t', e1⟩ := h1
  obtain ⟨b', e2⟩ := h2
  refine ⟨_, t', b', rfl, hg, e1, e2, ?_⟩
  have e3 : t.natAbs = Nat.gcd t.natAbs b.natAbs * t'.natAbs := by
    have := congrArg Int.natAbs e1
    rw [Int.natAbs_mul] at this
    simpa using this
  have e4 : b.natAbs = Nat.gcd t.natAbs b.natAbs * b'.natAbs := by
    have := congrArg Int.natAbs e2
    rw [Int.natAbs_mul] at this
    simpa using this
  have e5 : Nat.gcd t.natAbs b.natAbs = Nat.gcd t.natAbs b.natAbs * Nat.gcd t'.natAbs b'.natAbs := by
    rw [← Nat.gcd_mul_left, ← e3, ← e4]
  generalize Nat.gcd t.natAbs b.natAbs = g at *
  have : g * 1 = g * Nat.gcd t'.natAbs b'.natAbs := by omega
  exact (Nat.eq_of_mul_eq_mul_left hg this).symm
/-- the parts of a reduced fraction -/
structure Red (t b n d : Int) : Prop where
  eq : n * b = t * d
  pos : 0 < d
  cop : Nat.gcd n.natAbs d.natAbs = 1
  ln : n.natAbs ≤ t.natAbs
  ld : d.natAbs ≤ b.natAbs
theorem red_of {t b s : Int} (hb : b ≠ 0) (h1 : 0 < b → s = (Nat.gcd t.natAbs b.natAbs : Nat)) (h2 : b < 0 → s = -((Nat.gcd t.natAbs b.natAbs : Nat) : Int)) :
    Red t b (t.fdiv s) (b.fdiv s) := by
  obtain ⟨g, t', b', hg, h0, e1, e2, hc⟩ := gcd_parts t b hb
  rw [← hg] at h1 h2
  have gi : (g : Int) ≠ 0 := by omega
  have hle : ∀ z : Int, z.natAbs ≤ ((g : Int) * z).natAbs := fun z => by
    rw [Int.natAbs_mul]
    exact Nat.le_mul_of_pos_left _ (by simpa using h0)
  rcases Int.lt_or_gt_of_ne hb with hn | hp
  · have es := h2 hn
    have d1 : t.fdiv s = -t' := by
      rw [es, e1, show (g : Int) * t' = (-(g : Int)) * (-t') by rw [Int.neg_mul_neg]]
      exact Int.mul_fdiv_cancel_left _ (by omega)
    have d2 : b.fdiv s = -b' := by
      rw [es, e2, show (g : Int) * b' = (-(g : Int)) * (-b') by rw [Int.neg_mul_neg]]
      exact Int.mul_fdiv_cancel_left _ (by omega)
    rw [d1, d2]
    refine ⟨?_, ?_, by simpa using hc, ?_, ?_⟩
    · rw [e1, e2]; grind
    · have : (g : Int) * b' < 0 := e2 ▸ hn
      have := Int.neg_of_mul_neg_right (a := (g:Int)) (b := b') this (by omega)
      omega
    · rw [e1, Int.natAbs_neg]; exact hle t'
    · rw [e2, Int.natAbs_neg]; exact hle b'
  · have es := h1 hp
    have d1 : t.fdiv s = t' := by
      rw [es, e1]
      exact Int.mul_fdiv_cancel_left _ gi
    have d2 : b.fdiv s = b' := by
      rw [es, e2]
      exact Int.mul_fdiv_cancel_left _ gi
    rw [d1, d2]
    refine ⟨?_, ?_, hc, ?_, ?_⟩
    · rw [e1, e2]; grind
    · have : 0 < (g : Int) * b' := e2 ▸ hp
      exact Int.pos_of_mul_pos_right (a := (g:Int)) this (by omega)
    · rw [e1]; exact hle t'
    · rw [e2]; exact hle b'
theorem dvd_cop {d n m : Int} (c : Nat.gcd d.natAbs n.natAbs = 1) (h : d ∣ n * m) : d ∣ m := by
  have h2 : d.natAbs ∣ n.natAbs * m.natAbs := by
    rw [← Int.natAbs_mul]
    exact Int.natAbs_dvd_natAbs.2 h
  exact Int.natAbs_dvd_natAbs.1 (Nat.Coprime.dvd_of_dvd_mul_left (k := d.natAbs) (m := n.natAbs) c h2)
/-- two reduced fractions of one value are one -/
theorem red_uniq {n d n' d' : Int} (p : 0 < d) (p' : 0 < d') (c : Nat.gcd n.natAbs d.natAbs = 1) (c' : Nat.gcd n'.natAbs d'.natAbs = 1) (e : n * d' = n' * d) : n = n' ∧ d = d' := by
  have hd : d ∣ d' := by
    have : d ∣ n * d' := ⟨n', by rw [e, Int.mul_comm]⟩
    exact dvd_cop (by rw [Nat.gcd_comm]; exact c) this
  have hd' : d' ∣ d := by
    have : d' ∣ n' * d := ⟨n, by rw [← e, Int.mul_comm]⟩
    exact dvd_cop (by rw [Nat.gcd_comm]; exact c') this
  have e2 : d = d' := Int.dvd_antisymm (by omega) (by omega) hd hd'
  subst e2
  exact ⟨Int.eq_of_mul_eq_mul_right (by omega) e, rfl⟩
end My
namespace My
open PySem L2
theorem B.redn {t b n d : Int} {k : Nat} (r : Red t b n d) (h : B k t) : B k n := B.of_le r.ln h
theorem B.redd {t b n d : Int} {k : Nat} (r : Red t b n d) (h : B k b) : B k d := B.of_le r.ld h
/-! loops -/
/-- what is left of a for once its walk is known -/
def forT (J : It) (g : TG) (tb : TS) (D : Ends) (σ : L2.St) (H : Hp) : Prop := ∃ W : Nat → Nat → L2.St → Hp → Prop, (∃ m, W 0 m σ H) ∧ ∀ i m σ H, W i m σ H →
  (J.stop i H ∧ D.nx σ H) ∨ (J.go i H ∧ ∃ N : L2.St → Hp → Prop, (∀ σ' H', N σ' H' → ∃ m', m' < m ∧ W (i + 1) m' σ' H') ∧ ∀ x H', J.yld i H x H' → g x σ H' fun σ2 H2 => tb { D with nx := N, ct := N, bk := D.nx } σ2 H2)
section
variable {K : PySem.W.Frag} {σ : L2.St} {H : Hp} {D : Ends} {te ta tb to ti : TE} {tt t2 : TT} {t u w : TS} {Q : VK} {i : Nat} {v x y : V} {r : R2} {g : TG} {wi : TI}
theorem w_seqF (h : wi σ H fun J H1 => forT J g t { D with nx := u D } σ H1) : tSeq (tFor wi g t) u D σ H := h
theorem w_for (h : wi σ H fun J H1 => forT J g t D σ H1) : tFor wi g t D σ H := h
def iL (K : PySem.W.Frag) (x : V) (H : Hp) (R : It → Hp → Prop) : Prop := ∃ a, x = .ref a ∧ (∃ xs, SqL K H a xs) ∧ R (Itl K a) H
def iT (K : PySem.W.Frag) (x : V) (H : Hp) (R : It → Hp → Prop) : Prop := ∃ a, x = .ref a ∧ (∃ xs, SqT K H a xs) ∧ R (Itt K a) H
theorem w_iL {R : It → Hp → Prop} (h : te σ H fun x H1 => iL K x H1 R) : iList K te σ H R := h
theorem w_iT {R : It → Hp → Prop} (h : te σ H fun x H1 => iT K x H1 R) : iTup K te σ H R := h
theorem r_iL {R : It → Hp → Prop} {a : Addr} {xs : List V} (q : SqL K H a xs) (h : R (Itl K a) H) : iL K (.ref a) H R := ⟨a, rfl, ⟨xs, q⟩, h⟩
theorem r_iT {R : It → Hp → Prop} {a : Addr} {xs : List V} (q : SqT K H a xs) (h : R (Itt K a) H) : iT K (.ref a) H R := ⟨a, rfl, ⟨xs, q⟩, h⟩
def iR1 (vs : List V) (H : Hp) (R : It → Hp → Prop) : Prop := ∃ j : Int, vs = [.int j] ∧ -(2 ^ 62) ≤ j ∧ j < 2 ^ 62 ∧ R (Itr 0 j.toNat) H
theorem w_iR1 {R : It → Hp → Prop} {t : TA} (h : t σ H fun vs H1 => iR1 vs H1 R) : iRng1 t σ H R := h
theorem r_iR1 {R : It → Hp → Prop} {j : Int} (h1 : -1000000 ≤ j ∧ j ≤ 1000000) (h : R (Itr 0 j.toNat) H) : iR1 [.int j] H R := ⟨j, rfl, by omega, by omega, h⟩
theorem f_list {a : Addr} {xs : List V} (Pv : Nat → L2.St → Hp → Prop) (h0 : Pv 0 σ H) (hl : ∀ i σ H, i ≤ xs.length → Pv i σ H → SqL K H a xs)
    (hs : ∀ i x σ H, xs[i]? = some x → Pv i σ H → g x σ H fun σ2 H2 => t { D with nx := Pv (i + 1), ct := Pv (i + 1), bk := D.nx } σ2 H2) (hd : ∀ σ H, Pv xs.length σ H → D.nx σ H) : forT (Itl K a) g t D σ H := for_list Pv h0 hl hs hd
theorem f_tup {a : Addr} {xs : List V} (Pv : Nat → L2.St → Hp → Prop) (h0 : Pv 0 σ H) (hl : ∀ i σ H, i ≤ xs.length → Pv i σ H → SqT K H a xs)
    (hs : ∀ i x σ H, xs[i]? = some x → Pv i σ H → g x σ H fun σ2 H2 => t { D with nx := Pv (i + 1), ct := Pv (i + 1), bk := D.nx } σ2 H2) (hd : ∀ σ H, Pv xs.length σ H → D.nx σ H) : forT (Itt K a) g t D σ H := for_tup Pv h0 hl hs hd
theorem f_range {lo : Int} {n : Nat} (Pv : Nat → L2.St → Hp → Prop) (h0 : Pv 0 σ H)
    (hs : ∀ i σ H, i < n → Pv i σ H → g (.int (lo + i)) σ H fun σ2 H2 => t { D with nx := Pv (i + 1), ct := Pv (i + 1), bk := D.nx } σ2 H2) (hd : ∀ σ H, Pv n σ H → D.nx σ H) : forT (Itr lo n) g t D σ H := for_range Pv h0 hs hd
theorem w_gName (h : D.nx (σ.set i (some v)) H) : gName i v σ H D.nx := h
theorem w_gN {Q : L2.St → Hp → Prop} (h : Q (σ.set i (some v)) H) : gName i v σ H Q := h
theorem w_gTup {Q : L2.St → Hp → Prop} {n : Nat} {gs : TGs} {a : Addr} {xs : List V} (q : SqT K H a xs) (hn : xs.length = n) (h : gs xs σ H Q) : gTup K n gs (.ref a) σ H Q := ⟨a, xs, rfl, q, hn, h⟩
theorem w_gCons {Q : L2.St → Hp → Prop} {gs : TGs} {vs : List V} (h : g v σ H fun σ' H' => gs vs σ' H' Q) : gCons g gs (v :: vs) σ H Q := ⟨v, vs, rfl, h⟩
theorem w_gNil {Q : L2.St → Hp → Prop} (h : Q σ H) : gNil [] σ H Q := ⟨rfl, h⟩
def whP (W : Nat → L2.St → Hp → Prop) (m : Nat) (t u : TS) (D : Ends) (σ : L2.St) (b : Bool) (H1 : Hp) : Prop :=
  if b = true then ∃ N : L2.St → Hp → Prop, (∀ σ' H', N σ' H' → ∃ m', m' < m ∧ W m' σ' H') ∧ t { D with nx := N, ct := N, bk := u D } σ H1 else u D σ H1
theorem w_seqW (W : Nat → L2.St → Hp → Prop) (m0 : Nat) (h0 : W m0 σ H) (hs : ∀ m σ H, W m σ H → tt σ H fun b H1 => whP W m t u D σ b H1) : tSeq (tWhile tt t) u D σ H := ⟨W, ⟨m0, h0⟩, hs⟩
theorem r_whP {W : Nat → L2.St → Hp → Prop} {m : Nat} {b : Bool} (h1 : b = true → t { D with nx := fun σ2 H2 => ∃ m', m' < m ∧ W m' σ2 H2, ct := fun σ2 H2 => ∃ m', m' < m ∧ W m' σ2 H2, bk := u D } σ H) (h2 : b = false → u D σ H) : whP W m t u D σ b H := by
  cases b with
  | true => exact ⟨_, fun _ _ z => z, h1 rfl⟩
  | false => exact h2 rfl
/-! comprehensions -/
def lcT (J : It) (g : TG) (tt : TT) (te : TE) (vs : List Nat) (σ : L2.St) (H1 : Hp) (D : Addr) (Qd : Hp → Prop) : Prop := ∃ W : Nat → Nat → Hp → Prop, (∃ m, W 0 m (upd H1 D (.lst []))) ∧ ∀ i m H, W i m H →
  (J.stop i H ∧ Qd H) ∨ (J.go i H ∧ ∃ Nx : Hp → Prop, (∀ H', Nx H' → ∃ m', m' < m ∧ W (i + 1) m' H') ∧ ∀ x H', J.yld i H x H' → g x (wipe σ vs) H' fun σ2 H2 => wipe σ2 vs = wipe σ vs ∧ tt σ2 H2 fun b H3 =>
    if b = true then te σ2 H3 fun y H4 => ∃ acc, H4 D = some (.lst acc) ∧ acc.length < sizeLine ∧ Nx (upd H4 D (.lst (acc ++ [y]))) else Nx H3)
theorem w_lc {vs : List Nat} (h : wi σ H fun J H1 => ∀ D, H1 D = none → lcT J g tt te vs σ H1 D (Q (.ref D))) : tLc wi g tt te vs σ H Q := h
/-- what an item of a comprehension must bring -/
def lcP (Da : Addr) (i : Nat) (I : Nat → List V → Hp → Prop) (y : V) (H : Hp) : Prop :=
  ∃ acc, H Da = some (.lst acc) ∧ acc.length < sizeLine ∧ ∃ acc2, acc2.length = i + 1 ∧ (upd H Da (.lst (acc ++ [y]))) Da = some (.lst acc2) ∧ I (i + 1) acc2 (upd H Da (.lst (acc ++ [y])))
theorem r_lcP {Da : Addr} {I : Nat → List V → Hp → Prop} {acc : List V} (hD : H Da = some (.lst acc)) (hi : acc.length = i) (hn : i < 100000) (h : I (i + 1) (acc ++ [y]) (upd H Da (.lst (acc ++ [y])))) : lcP Da i I y H :=
  ⟨acc, hD, Nat.lt_of_lt_of_le (m := 100000) (by omega) (by decide), acc ++ [y], by simp [hi], upd_same, h⟩
theorem lc_rng {lo : Int} {n : Nat} {j : Nat} {vs : List Nat} {Da : Addr} {Qd : Hp → Prop} (I : Nat → List V → Hp → Prop) (h0 : I 0 [] (upd H Da (.lst [])))
    (hw : ∀ x, wipe ((wipe σ vs).set j (some x)) vs = wipe σ vs)
    (hs : ∀ i acc H1, i < n → acc.length = i → H1 Da = some (.lst acc) → I i acc H1 → te ((wipe σ vs).set j (some (.int (lo + i)))) H1 fun y H2 => lcP Da i I y H2)
    (hd : ∀ acc H1, acc.length = n → H1 Da = some (.lst acc) → I n acc H1 → Qd H1) : lcT (Itr lo n) (gName j) tYes te vs σ H Da Qd := by
  have z := lc_range (lo := lo) (n := n) (g := gName j) (tt := tYes) (te := te) (vs := vs) (σ := σ) (H1 := H) (D := Da) (Qd := Qd) (fun i H1 => ∃ acc, acc.length = i ∧ H1 Da = some (.lst acc) ∧ I i acc H1) ⟨[], rfl, upd_same, h0⟩ (by
    rintro i H1 hi ⟨acc, ha, hD, p⟩
    exact ⟨hw _, hs i acc H1 hi ha hD p⟩) (by
    rintro H1 ⟨acc, ha, hD, p⟩
    exact hd acc H1 ha hD p)
  exact z
theorem lc_lst {a : Addr} {xs : List V} {j : Nat} {vs : List Nat} {Da : Addr} {Qd : Hp → Prop} (I : Nat → List V → Hp → Prop) (h0 : I 0 [] (upd H Da (.lst [])))
    (hw : ∀ x, wipe ((wipe σ vs).set j (some x)) vs = wipe σ vs) (hl : ∀ i acc H1, i ≤ xs.length → H1 Da = some (.lst acc) → I i acc H1 → SqL K H1 a xs)
    (hs : ∀ i x acc H1, xs[i]? = some x → acc.length = i → H1 Da = some (.lst acc) → I i acc H1 → te ((wipe σ vs).set j (some x)) H1 fun y H2 => lcP Da i I y H2)
    (hd : ∀ acc H1, acc.length = xs.length → H1 Da = some (.lst acc) → I xs.length acc H1 → Qd H1) : lcT (Itl K a) (gName j) tYes te vs σ H Da Qd := by
  have z := lc_list (K := K) (a := a) (xs := xs) (g := gName j) (tt := tYes) (te := te) (vs := vs) (σ := σ) (H1 := H) (D := Da) (Qd := Qd) (fun i H1 => ∃ acc, acc.length = i ∧ H1 Da = some (.lst acc) ∧ I i acc H1) ⟨[], rfl, upd_same, h0⟩ (by
    rintro i H1 hi ⟨acc, ha, hD, p⟩
    exact hl i acc H1 hi hD p) (by
    rintro i x H1 hi ⟨acc, ha, hD, p⟩
    exact ⟨hw _, hs i x acc H1 hi ha hD p⟩) (by
    rintro H1 ⟨acc, ha, hD, p⟩
    exact hd acc H1 ha hD p)
  exact z
/-! isinstance -/
theorem SqT.tyx {a : Addr} {xs : List V} (h : SqT K H a xs) : TyX K H (.ref a) (.type "tuple") := by
  rcases h with (h | ⟨o, h⟩) | ⟨o, its, n, h1, h2, _⟩
  · exact .base (.tup h)
  · exact .fTuple h
  · exact .kTuple h1 h2
theorem SqL.tyx {a : Addr} {xs : List V} (h : SqL K H a xs) : TyX K H (.ref a) (.type "list") := by
  rcases h with (h | ⟨o, h⟩) | ⟨o, its, n, h1, h2, _⟩
  · exact .base (.lst h)
  · exact .base (.frz h)
  · exact .kList h1 h2
theorem r_isi {x c : V} {t u : Value} {b : Bool} (hc : ClsV c u) (ht : TyX K H x t) (e : PySem.W.kitOne K t u = some b) (h : Q (.bl b) H) : rIsi K [x, c] H Q := ⟨x, c, t, u, b, rfl, hc, ht, e, h⟩
end
end My
namespace My
open PySem L2
section
variable {K : PySem.W.Frag} {σ : L2.St} {H : Hp} {Q : VK} {x y : V}
theorem r_eqD {d e : PyData} (hd : Dp K H x d) (he : Dp K H y e) (sd : SeqAt.shaped d = true) (se : SeqAt.shaped e = true) (h : Q (.bl (PyData.eqv d e)) H) : rEqD K x y H Q := ⟨d, e, hd, he, sd, se, h⟩
theorem r_neD {d e : PyData} (hd : Dp K H x d) (he : Dp K H y e) (sd : SeqAt.shaped d = true) (se : SeqAt.shaped e = true) (h : Q (.bl (!PyData.eqv d e)) H) : rNeD K x y H Q := ⟨d, e, hd, he, sd, se, h⟩
theorem eqv_I (a b : Int) : PyData.eqv (.int a) (.int b) = decide (a = b) := by
  simp only [PyData.eqv]
  rw [Bool.beq_eq_decide_eq]
theorem eqv_T (xs ys : List PyData) : PyData.eqv (.tuple xs) (.tuple ys) = PyData.eqvAll xs ys := by simp only [PyData.eqv]
theorem eqv_C (x y : PyData) (xs ys : List PyData) : PyData.eqvAll (x :: xs) (y :: ys) = (PyData.eqv x y && PyData.eqvAll xs ys) := by rw [PyData.eqvAll]
theorem eqv_N : PyData.eqvAll [] [] = true := by simp only [PyData.eqvAll]
end
end My
theorem My.hu_of64 {A : PySem.Around} {k : Nat} (hr : L2.Room k A) : A.units + 64 < PySem.cLine := by
  have := hr.un
  omega
/-! the rules that hang on the written part, with K told -/
namespace My
open PySem L2
section
variable {X : Cx} {K : PySem.W.Frag} {e o i : Expr} {es : List Expr} {te to ti : TE} {t : TA} {pos p : Pos} {tg : Expr}
theorem kx_tup (h : X.K = K) : IxR X (rIxT K) := h ▸ ix_tup
theorem kx_list (h : X.K = K) : IxR X (rIxL K) := h ▸ ix_list
theorem ko_eqD (h : X.K = K) (hu : X.A.units + 64 < cLine) : OpR X (compareOp .Eq) (rEqD K) := h ▸ op_eqD hu
theorem ko_neD (h : X.K = K) (hu : X.A.units + 64 < cLine) : OpR X (compareOp .NotEq) (rNeD K) := h ▸ op_neD hu
theorem ko_catT (h : X.K = K) : OpR X (binaryOp .Add) (rCatT K) := h ▸ op_catT
def rLen (K : PySem.W.Frag) : List V → Hp → VK → Prop := fun xs H Q => ∃ p ys, xs = [.ref p] ∧ (SqL K H p ys ∨ SqT K H p ys) ∧ Q (.int ys.length) H
theorem kc_len (h : X.K = K) : CallR X (.builtin "len") (rLen K) := h ▸ call_len_seq
def rLst (K : PySem.W.Frag) : List V → Hp → VK → Prop := fun xs H Q => ∃ p ys, xs = [.ref p] ∧ (SqL K H p ys ∨ SqT K H p ys) ∧ ∀ l, H l = none → Q (.ref l) (upd H l (.lst ys))
theorem kc_list (h : X.K = K) : CallR X (.type "list") (rLst K) := h ▸ call_list_of
def rTpl (K : PySem.W.Frag) : List V → Hp → VK → Prop := fun xs H Q => ∃ p ys, xs = [.ref p] ∧ ((SqL K H p ys ∧ ∀ l, H l = none → Q (.ref l) (upd H l (.tup ys))) ∨ (SqT K H p ys ∧ Q (.ref p) H))
theorem kc_tuple (h : X.K = K) : CallR X (.type "tuple") (rTpl K) := h ▸ call_tuple_of
theorem kc_isi (h : X.K = K) : CallR X (.builtin "isinstance") (rIsi K) := h ▸ call_isi
theorem kp_list (h : X.K = K) (he : PE X e te) : PI X tg e (iList K te) := h ▸ pi_list he
theorem kp_tup (h : X.K = K) (he : PE X e te) : PI X tg e (iTup K te) := h ▸ pi_tup he
theorem kg_tup (h : X.K = K) {k n : Nat} {t : TGs} (hc : X.calm = true) (hp : PGs X es t) (hn : (assignEach es X.env).length = n := by rfl) (hst : (assignEach es X.env).findIdx? (·.1) = none := by rfl) : PG X (.Tuple es k pos) (gTup K n t) := h ▸ pg_tup hc hp hn hst
theorem ks_list (h : X.K = K) : SlR X (rSlL K) := h ▸ sl_list
theorem ks_tup (h : X.K = K) : SlR X (rSlT K) := h ▸ sl_tup
section
variable {T name id : String} {apos cpos : Pos} {r : V → List V → Hp → VK → Prop}
theorem k_bm (h : X.K = K) {T : String} {name : Str} {id : String} (pa : PlainAttrs T) (slot : Slot T name id) (hty : typeOf (.builtin id) = pure (.type "method_descriptor")) (hm : MtR X id r) (ho : PE X o to) (ha : PA X (e :: es) t)
    (hbase : attributeBase o name X.env (eval o X.env) = eval o X.env := by rfl)
    (hfew : ((backTo cpos (starEach (e :: es) X.env)).all (fun x => !x.1) && (backToKw cpos (keywordEach [] X.env)).all (fun x => x.1.isSome)
      && decide ((e :: es).length + ([] : List Keyword).length + (if ([] : List Keyword).isEmpty then 0 else 1) < 30)) = true := by rfl)
    (hline : (apos.endLine == cpos.line) = true := by rfl) (hs : starEach (e :: es) X.env = (false, eval e X.env) :: starEach es X.env := by rfl) (hplain : (backTo cpos (starEach es X.env)).any (·.1) = false := by rfl) :
    PE X (.Call (.Attribute o name apos) (e :: es) [] cpos) (tBM K T r to t) := h ▸ pe_bm pa slot hty hm ho ha hbase hfew hline hs hplain
end
end
section
variable {K : PySem.W.Frag} {σ : L2.St} {H : Hp} {Q : VK} {x y : V}
theorem r_lenT {p : Addr} {xs : List V} (q : SqT K H p xs) (h : Q (.int (xs.length : Int)) H) : rLen K [.ref p] H Q := ⟨p, xs, rfl, .inr q, h⟩
theorem r_lenL' {p : Addr} {xs : List V} (q : SqL K H p xs) (h : Q (.int (xs.length : Int)) H) : rLen K [.ref p] H Q := ⟨p, xs, rfl, .inl q, h⟩
theorem r_lstL {p : Addr} {xs : List V} (q : SqL K H p xs) (h : ∀ (l : Addr) (H1 : Hp), H l = none → Same H H1 → H1 l = some (.lst xs) → Q (.ref l) H1) : rLst K [.ref p] H Q := ⟨p, xs, rfl, .inl q, fun l hl => h l _ hl (Same.new hl) upd_same⟩
theorem r_lstT {p : Addr} {xs : List V} (q : SqT K H p xs) (h : ∀ (l : Addr) (H1 : Hp), H l = none → Same H H1 → H1 l = some (.lst xs) → Q (.ref l) H1) : rLst K [.ref p] H Q := ⟨p, xs, rfl, .inr q, fun l hl => h l _ hl (Same.new hl) upd_same⟩
theorem r_tplL {p : Addr} {xs : List V} (q : SqL K H p xs) (h : ∀ (l : Addr) (H1 : Hp), H l = none → Same H H1 → H1 l = some (.tup xs) → Q (.ref l) H1) : rTpl K [.ref p] H Q := ⟨p, xs, rfl, .inl ⟨q, fun l hl => h l _ hl (Same.new hl) upd_same⟩⟩
end
end My
/-! comprehensions and loops that make values -/
namespace My
open PySem L2
/-- every tuple stays -/
def TK (K : PySem.W.Frag) (H H' : Hp) : Prop := ∀ a xs, SqT K H a xs → SqT K H' a xs
theorem TK.refl (K : PySem.W.Frag) (H : Hp) : TK K H H := fun _ _ h => h
theorem TK.trans {K : PySem.W.Frag} {H H1 H2 : Hp} (a : TK K H H1) (b : TK K H1 H2) : TK K H H2 := fun p xs h => b p xs (a p xs h)
theorem TK.same {K : PySem.W.Frag} {H H' : Hp} (e : Same H H') : TK K H H' := fun _ _ h => Same.tup e h
theorem TK.upd {K : PySem.W.Frag} {H : Hp} {l : Addr} {xs : List V} {o : HO} (h : H l = some (.lst xs)) : TK K H (upd H l o) := fun a ys t => by
  rcases t with (t | ⟨z, t⟩) | t
  · refine .inl (.inl ((upd_ne fun q => ?_).trans t))
    rw [q, h] at t
    cases t
  · refine .inl (.inr ⟨z, (upd_ne fun q => ?_).trans t⟩)
    rw [q, h] at t
    cases t
  · exact .inr t
theorem TK.fr {K : PySem.W.Frag} {H H' : Hp} {s : Addr} (e : Fr s H H') (st : St K H s) : TK K H H' := fun _ _ h => Fr.tup e st h
section
variable {K : PySem.W.Frag} {σ : L2.St} {H : Hp} {te : TE}
/-- the state of a comprehension that makes the list at Da: G is what stays, J what is told of the items -/
def lcPv (Da : Addr) (G : Hp → Prop) (J : Nat → List V → Hp → Prop) (i : Nat) (H1 : Hp) : Prop := ∃ acc, acc.length = i ∧ H1 Da = some (.lst acc) ∧ G H1 ∧ J i acc H1
def lcQ (Da : Addr) (G : Hp → Prop) (J : Nat → List V → Hp → Prop) (i : Nat) (y : V) (H2 : Hp) : Prop := ∃ acc, H2 Da = some (.lst acc) ∧ acc.length < sizeLine ∧ lcPv Da G J (i + 1) (upd H2 Da (.lst (acc ++ [y])))
structure LcG (K : PySem.W.Frag) (Da : Addr) (G : Hp → Prop) (J : Nat → List V → Hp → Prop) : Prop where
  g : ∀ H1 acc o, H1 Da = some (.lst acc) → G H1 → G (upd H1 Da o)
  j : ∀ i acc H1 H2, TK K H1 H2 → J i acc H1 → J i acc H2
theorem r_lcQ {Da : Addr} {G : Hp → Prop} {J : Nat → List V → Hp → Prop} {i : Nat} {y : V} {H2 : Hp} {acc : List V} (L : LcG K Da G J) (hi : i < 100000) (ha : acc.length = i) (hDa : H2 Da = some (.lst acc)) (g : G H2) (q : J (i + 1) (acc ++ [y]) H2) : lcQ Da G J i y H2 :=
  ⟨acc, hDa, Nat.lt_of_lt_of_le (m := 100000) (by omega) (by decide), acc ++ [y], by simp [ha], upd_same, L.g _ _ _ hDa g, L.j _ _ _ _ (TK.upd hDa) q⟩
theorem lc_rngG {lo : Int} {n : Nat} {j : Nat} {vs : List Nat} {Da : Addr} {Qd : Hp → Prop} {G : Hp → Prop} {J : Nat → List V → Hp → Prop} (L : LcG K Da G J) (h0 : G (upd H Da (.lst []))) (hj : J 0 [] (upd H Da (.lst [])))
    (hw : ∀ x, wipe ((wipe σ vs).set j (some x)) vs = wipe σ vs)
    (hs : ∀ i acc H1, i < n → acc.length = i → H1 Da = some (.lst acc) → G H1 → J i acc H1 → te ((wipe σ vs).set j (some (.int (lo + i)))) H1 fun y H2 => lcQ Da G J i y H2)
    (hd : ∀ acc H1, acc.length = n → H1 Da = some (.lst acc) → G H1 → J n acc H1 → Qd H1) : lcT (Itr lo n) (gName j) tYes te vs σ H Da Qd := by
  have z := lc_range (lo := lo) (n := n) (g := gName j) (tt := tYes) (te := te) (vs := vs) (σ := σ) (H1 := H) (D := Da) (Qd := Qd) (lcPv Da G J)
    ⟨[], rfl, upd_same, h0, hj⟩ (by
    rintro i H1 hi ⟨acc, ha, hDa, s1, p⟩
    exact ⟨hw _, hs i acc H1 hi ha hDa s1 p⟩) (by
    rintro H1 ⟨acc, ha, hDa, s1, p⟩
    exact hd acc H1 ha hDa s1 p)
  exact z
theorem lc_lstG {a : Addr} {xs : List V} {j : Nat} {vs : List Nat} {Da : Addr} {Qd : Hp → Prop} {G : Hp → Prop} {J : Nat → List V → Hp → Prop} (L : LcG K Da G J) (h0 : G (upd H Da (.lst []))) (hj : J 0 [] (upd H Da (.lst [])))
    (hl : ∀ H1 acc, H1 Da = some (.lst acc) → G H1 → SqL K H1 a xs) (hw : ∀ x, wipe ((wipe σ vs).set j (some x)) vs = wipe σ vs)
    (hs : ∀ i x acc H1, xs[i]? = some x → acc.length = i → H1 Da = some (.lst acc) → G H1 → J i acc H1 → te ((wipe σ vs).set j (some x)) H1 fun y H2 => lcQ Da G J i y H2)
    (hd : ∀ acc H1, acc.length = xs.length → H1 Da = some (.lst acc) → G H1 → J xs.length acc H1 → Qd H1) : lcT (Itl K a) (gName j) tYes te vs σ H Da Qd := by
  have z := lc_list (K := K) (a := a) (xs := xs) (g := gName j) (tt := tYes) (te := te) (vs := vs) (σ := σ) (H1 := H) (D := Da) (Qd := Qd) (lcPv Da G J)
    ⟨[], rfl, upd_same, h0, hj⟩ (by
    rintro i H1 hi ⟨acc, ha, hDa, s1, p⟩
    exact hl H1 acc hDa s1) (by
    rintro i x H1 hi ⟨acc, ha, hDa, s1, p⟩
    exact ⟨hw _, hs i x acc H1 hi ha hDa s1 p⟩) (by
    rintro H1 ⟨acc, ha, hDa, s1, p⟩
    exact hd acc H1 ha hDa s1 p)
  exact z
/-- G of a pure comprehension, of one that draws -/
theorem lcG_same {Da : Addr} {J : Nat → List V → Hp → Prop} (hD : H Da = none) (j : ∀ i acc H1 H2, TK K H1 H2 → J i acc H1 → J i acc H2) : LcG K Da (Same H) J := ⟨fun _ _ _ _ g => Same.mut g hD, j⟩
def Go (K : PySem.W.Frag) (s : Addr) (H H1 : Hp) : Prop := Fr s H H1 ∧ St K H1 s
theorem lcG_go {Da s : Addr} {J : Nat → List V → Hp → Prop} (hD : H Da = none) (st : St K H s) (j : ∀ i acc H1 H2, TK K H1 H2 → J i acc H1 → J i acc H2) : LcG K Da (Go K s H) J :=
  ⟨fun _ _ _ _ g => ⟨Fr.mut g.1 hD st.some, St.mut st g.1 g.2 hD⟩, j⟩
theorem go_new {Da s : Addr} {o : HO} (hD : H Da = none) (st : St K H s) : Go K s H (upd H Da o) := ⟨Fr.new hD, St.same (Same.new hD) st⟩
end
end My
namespace My
open PySem L2
section
variable {X : Cx}
def rInt1 : List V → Hp → VK → Prop := fun xs H Q => (∃ i, xs = [.int i] ∧ Q (.int i) H) ∨ ∃ k, xs = [.bl k] ∧ Q (.int (if k then 1 else 0)) H
theorem kc_int : CallR X (.type "int") rInt1 := call_int1
def rAbs1 : List V → Hp → VK → Prop := fun xs H Q => ∃ i : Int, xs = [.int i] ∧ Q (.int (i.natAbs : Int)) H
theorem kc_abs : CallR X (.builtin "abs") rAbs1 := by
  intro pins s σ H xs us Q I r h
  obtain ⟨i, e, q⟩ := h
  refine call_abs pins s σ H xs us Q I r ⟨i, e, ?_⟩
  have e2 : (if i < 0 then -i else i) = (i.natAbs : Int) := by split <;> omega
  rw [e2]
  exact q
def rMax2 : List V → Hp → VK → Prop := fun xs H Q => ∃ i j : Int, xs = [.int i, .int j] ∧ Q (.int (max i j)) H
theorem kc_max (hc : X.calm = true) : CallR X (.builtin "max") rMax2 := by
  intro pins s σ H xs us Q I r h
  obtain ⟨i, j, e, q⟩ := h
  refine call_max2 hc pins s σ H xs us Q I r ⟨i, j, e, ?_⟩
  have e2 : (if j > i then j else i) = max i j := by split <;> omega
  rw [e2]
  exact q
def rMin2 : List V → Hp → VK → Prop := fun xs H Q => ∃ i j : Int, xs = [.int i, .int j] ∧ Q (.int (min i j)) H
theorem kc_min (hc : X.calm = true) : CallR X (.builtin "min") rMin2 := by
  intro pins s σ H xs us Q I r h
  obtain ⟨i, j, e, q⟩ := h
  refine call_min2 hc pins s σ H xs us Q I r ⟨i, j, e, ?_⟩
  have e2 : (if j < i then j else i) = min i j := by split <;> omega
  rw [e2]
  exact q
end
section
variable {K : PySem.W.Frag} {σ : L2.St} {H : Hp} {Q : VK} {x y v : V}
theorem r_int1 {i : Int} (h : Q (.int i) H) : rInt1 [.int i] H Q := .inl ⟨i, rfl, h⟩
theorem r_int1b {k : Bool} (h : Q (.int (if k then 1 else 0)) H) : rInt1 [.bl k] H Q := .inr ⟨k, rfl, h⟩
theorem r_abs1 {i : Int} (h : Q (.int (i.natAbs : Int)) H) : rAbs1 [.int i] H Q := ⟨i, rfl, h⟩
theorem r_max2 {i j : Int} (h : Q (.int (max i j)) H) : rMax2 [.int i, .int j] H Q := ⟨i, j, rfl, h⟩
theorem r_min2 {i j : Int} (h : Q (.int (min i j)) H) : rMin2 [.int i, .int j] H Q := ⟨i, j, rfl, h⟩
theorem w_gSub {Q : L2.St → Hp → Prop} {to ti : TE} {t : TSet} (h : to σ H fun o H1 => ti σ H1 fun i H2 => t o i v H2 fun H3 => Q σ H3) : gSub to ti t v σ H Q := h
theorem r_setL {Q : Hp → Prop} {p : Addr} {xs ys : List V} {k : Int} {j : Nat} (h : H p = some (.lst xs)) (e : ixN xs.length k = some j) (ey : xs.set j v = ys) (q : Q (upd H p (.lst ys))) : rSetL (.ref p) (.int k) v H Q := ⟨p, xs, k, j, rfl, rfl, h, e, ey ▸ q⟩
variable {s l : Addr} {ns : List Int} {i1 i2 i3 i4 i5 i6 j1 j2 j3 j4 j5 j6 : Int}
theorem StD.st (h : StD K H s l ns i1 i2 i3 i4 i5 i6) : St K H s := ⟨l, ns, i1, i2, i3, i4, i5, i6, h⟩
theorem r_setS {Q : Hp → Prop} {k : Int} {j : Nat} (h : StD K H s l ns i1 i2 i3 i4 i5 i6) (e : ixN 7 k = some j) (ey : ([.ref l, .int i1, .int i2, .int i3, .int i4, .int i5, .int i6] : List V).set j v = [.ref l, .int j1, .int j2, .int j3, .int j4, .int j5, .int j6]) (hj : 0 ≤ j1)
    (q : ∀ H1, Fr s H H1 → 0 ≤ j1 → StD K H1 s l ns j1 j2 j3 j4 j5 j6 → Q H1) : rSetL (.ref s) (.int k) v H Q :=
  r_setL h.at_ e ey (q _ (Fr.upd h.at_ rfl) hj ⟨upd_same, h.ne, (upd_ne h.ne).trans h.lst, hj⟩)
theorem r_ixS {i : Int} (h : StD K H s l ns i1 i2 i3 i4 i5 i6) (e : atI ([.ref l, .int i1, .int i2, .int i3, .int i4, .int i5, .int i6] : List V) i = some v) (q : Q v H) : rIxL K (.ref s) (.int i) H Q := r_ixL (SqL.of h.at_) e q
theorem atI_in {α : Type} {xs : List α} {i : Int} (h0 : 0 ≤ i) (h1 : i < (xs.length : Int)) : ∃ v, atI xs i = some v ∧ v ∈ xs ∧ xs[i.toNat]? = some v := by
  obtain ⟨n, rfl⟩ := Int.eq_ofNat_of_zero_le h0
  have hn : n < xs.length := by omega
  exact ⟨xs[n], atI_nat (List.getElem?_eq_getElem hn), List.getElem_mem hn, by simp [hn]⟩
theorem r_ixC (h : StD K H s l ns i1 i2 i3 i4 i5 i6) (hl : i1 < ((ns.map V.int).length : Int)) (q : ∀ z, Q (.int z) H) : rIxL K (.ref l) (.int i1) H Q := by
  obtain ⟨v, e, hv, _⟩ := atI_in (xs := ns.map V.int) h.nn hl
  obtain ⟨z, _, rfl⟩ := List.mem_map.mp hv
  exact r_ixL (SqL.of h.lst) e (q z)
end
end My
theorem My.w_cut {t u : L2.TS} {D : L2.Ends} {σ : L2.St} {H : L2.Hp} (M : L2.St → L2.Hp → Prop) (h : t { D with nx := M } σ H) (k : ∀ σ' H', M σ' H' → u D σ' H') : Evl.tCut t u D σ H := ⟨M, h, k⟩
theorem My.StD.same {K : PySem.W.Frag} {H H' : L2.Hp} {s l : PySem.Addr} {ns : List Int} {i1 i2 i3 i4 i5 i6 : Int} (e : L2.Same H H') (h : My.StD K H s l ns i1 i2 i3 i4 i5 i6) : My.StD K H' s l ns i1 i2 i3 i4 i5 i6 := ⟨e _ _ h.at_, h.ne, e _ _ h.lst, h.nn⟩
namespace My
open PySem L2
section
variable {X : Cx}
def rIsNo : R2 := fun x y H Q => y = .non ∧ Q (.bl (decide (x = .non))) H
def rNotNo : R2 := fun x y H Q => y = .non ∧ Q (.bl (!decide (x = .non))) H
theorem ko_isN : OpR X (compareOp .Is) rIsNo := op_isN
theorem ko_notN : OpR X (compareOp .IsNot) rNotNo := op_notN
section
variable {H : Hp} {Q : VK}
theorem r_isN0 (h : Q (.bl true) H) : rIsNo .non .non H Q := ⟨rfl, h⟩
theorem r_isNr {a : Addr} (h : Q (.bl false) H) : rIsNo (.ref a) .non H Q := ⟨rfl, h⟩
theorem r_notN0 (h : Q (.bl false) H) : rNotNo .non .non H Q := ⟨rfl, h⟩
theorem r_notNr {a : Addr} (h : Q (.bl true) H) : rNotNo (.ref a) .non H Q := ⟨rfl, h⟩
end
/-! unpacking a list -/
def gUnL (K : PySem.W.Frag) (n : Nat) (t : TGs) : TG := fun v σ H Q => ∃ a xs, v = .ref a ∧ SqL K H a xs ∧ xs.length = n ∧ t xs σ H Q
theorem kg_lst {K : PySem.W.Frag} (hK : X.K = K) {es : List Expr} {k n : Nat} {t : TGs} {pos : Pos} (hc : X.calm = true) (h : PGs X es t)
    (hn : (assignEach es X.env).length = n := by rfl) (hst : (assignEach es X.env).findIdx? (·.1) = none := by rfl) : PG X (.Tuple es k pos) (gUnL K n t) := hK ▸ pg_lst hc h hn hst
theorem w_gUnL {K : PySem.W.Frag} {σ : L2.St} {H : Hp} {Q : L2.St → Hp → Prop} {n : Nat} {gs : TGs} {a : Addr} {xs : List V} (q : SqL K H a xs) (hn : xs.length = n) (h : gs xs σ H Q) : gUnL K n gs (.ref a) σ H Q := ⟨a, xs, rfl, q, hn, h⟩
/-! calls by keywords -/
def pkV (idx : List Nat) (dvs vs zs : List V) : List V := idx.map fun i => (vs ++ zs ++ dvs).getD i .non
def pkU (idx : List Nat) (ds us ws : List Value) : List Value := idx.map fun i => (us ++ ws ++ ds).getD i .none
theorem vals_getD {xs : List V} {us : List Value} (r : Vals xs us) (i : Nat) : RelV (xs.getD i .non) (us.getD i .none) := by
  rw [List.getD_eq_getElem?_getD, List.getD_eq_getElem?_getD]
  cases h : xs[i]? with
  | none =>
    rw [Vals.none_of r h]
    rfl
  | some x =>
    obtain ⟨u, h1, h2⟩ := Vals.get r h
    rw [h1]
    exact h2
theorem pk_rel {dvs vs zs : List V} {ds us ws : List Value} (rd : Vals dvs ds) (r1 : Vals vs us) (r2 : Vals zs ws) : ∀ idx, Vals (pkV idx dvs vs zs) (pkU idx ds us ws)
  | [] => .nil
  | i :: r => .cons (vals_getD (Vals.append (Vals.append r1 r2) rd) i) (pk_rel rd r1 r2 r)
structure KCal (P : Program) (w : World) (K : PySem.W.Frag) (mg : Str → Option Value) (base : Heap) (x : Str) (k : Nat) (ps : List Str) (sp : Sp) (n : Nat) (ks : List Str) (gV : List V → List V → List V) : Prop where
  ex : ∃ (f : Addr) (fd : FuncData), FnOk P w K mg base CX0 k f fd ps sp ∧ mg x = some (.ref f) ∧ PySem.W.keepIn K (.ref f) = true ∧ ∃ g, KBn K fd ps n ks g gV
variable {x : Str} {p pos : Pos} {e : Expr} {es : List Expr} {t tk : TA} {k n : Nat} {ps ks : List Str} {sp : Sp} {kws : List Keyword} {gV : List V → List V → List V}
theorem pcK (C : KCal X.prog X.w X.K X.mg X.base x k ps sp n ks gV) (hr : Room k X.A) (hg : Gl X x) (ha : PA X (e :: es) t) (hkw : PK X kws tk) (hall : (backToKw pos (keywordEach kws X.env)).all (·.1.isSome) = true := by rfl) (hks : (backToKw pos (keywordEach kws X.env)).filterMap (·.1) = ks := by rfl)
    (hdb : (x == ("__debug__" : Str)) = false := by decide) (he : starEach (e :: es) X.env = (false, eval e X.env) :: starEach es X.env := by rfl)
    (hpl : ((backTo pos (starEach (e :: es) X.env)).any (·.1) || (backToKw pos (keywordEach kws X.env)).any (·.1.isNone)) = false := by rfl) :
    PE X (.Call (.Name x p) (e :: es) kws pos) (tCallN n ks.length sp gV E0 t tk) := by
  obtain ⟨f, fd, F, hm, hk, g, hb⟩ := C.ex
  exact pe_callN F hr hg hm hk hb pass0 ha hkw hall hks hdb he hpl
theorem pcK0 (C : KCal X.prog X.w X.K X.mg X.base x k ps sp 0 ks gV) (hr : Room k X.A) (hg : Gl X x) (hkw : PK X kws tk) (hall : (backToKw pos (keywordEach kws X.env)).all (·.1.isSome) = true := by rfl) (hks : (backToKw pos (keywordEach kws X.env)).filterMap (·.1) = ks := by rfl)
    (hdb : (x == ("__debug__" : Str)) = false := by decide)
    (hpl : ((backTo pos (starEach [] X.env)).any (·.1) || (backToKw pos (keywordEach kws X.env)).any (·.1.isNone)) = false := by rfl) :
    PE X (.Call (.Name x p) [] kws pos) (tCallN 0 ks.length sp gV E0 tNil tk) := by
  obtain ⟨f, fd, F, hm, hk, g, hb⟩ := C.ex
  refine ⟨fun pins s σ H Q I h => ?_⟩
  refine wpAny_Call_Name_kw (ld_glob I hg hm ?_ hdb)
  refine PySem.W.callWith_KW0 (h₀ := X.base) I.ok.mod.kin hk hall ?_ hpl
  refine thn (hkw.run pos pins s σ H _ I h) fun ws s2 ⟨zs, H2, I2, rz, l1, l2, q2⟩ => ⟨I2.kIn, ?_⟩
  rw [hks]
  exact run_fnN F hr hb pass0 I2 .nil rz l1 l2 q2
def cN (n m : Nat) (sp : Sp) (gV : List V → List V → List V) (vs zs : List V) (H : Hp) (Q : VK) : Prop := vs.length = n ∧ zs.length = m ∧ sp (gV vs zs) H Q E0
theorem w_callN {m : Nat} {σ : L2.St} {H : Hp} {Q : VK} (h : t σ H fun vs H1 => tk σ H1 fun zs H2 => cN n m sp gV vs zs H2 Q) : tCallN n m sp gV E0 t tk σ H Q := h
theorem r_cN {m : Nat} {vs zs us : List V} {H : Hp} {Q : VK} (l1 : vs.length = n) (l2 : zs.length = m) (e : gV vs zs = us) (h : sp us H Q E0) : cN n m sp gV vs zs H Q := ⟨l1, l2, e ▸ h⟩
end
/-- rational numbers in lowest terms, of k bits -/
structure Rt (k : Nat) (n d : Int) : Prop where
  pos : 0 < d
  cop : Nat.gcd n.natAbs d.natAbs = 1
  bn : B k n
  bd : B k d
theorem Red.rt {t b n d : Int} {k : Nat} (r : Red t b n d) (h1 : B k t) (h2 : B k b) : Rt k n d := ⟨r.pos, r.cop, B.redn r h1, B.redd r h2⟩
theorem map_get {ns : List Int} {i : Nat} {x : V} (h : (ns.map V.int)[i]? = some x) : ∃ z, x = .int z ∧ ns[i]? = some z := by
  rw [List.getElem?_map] at h
  cases e : ns[i]? with
  | none =>
    rw [e] at h
    cases h
  | some u =>
    rw [e] at h
    exact ⟨u, (Option.some.inj h).symm, rfl⟩
end My
theorem My.p10 {i n : Nat} (h : i ≤ n) : (10 : Int) ^ i ≤ 10 ^ n := by
  have q := Nat.pow_le_pow_right (n := 10) (by decide) h
  exact_mod_cast q
namespace My
open PySem L2
section
variable {A B : Prop} {a b : Int}
theorem if_nT (h : B) : if (!true) = true then A else B := h
theorem if_nF (h : A) : if (!false) = true then A else B := h
theorem if_eqT (e : (a == b) = true) (h : A) : if decide (V.int a = V.int b) = true then A else B := if_eqI (fun _ => h) (fun q => absurd (by simpa using e) q)
theorem if_eqF (e : (a == b) = false) (h : B) : if decide (V.int a = V.int b) = true then A else B := if_eqI (fun q => absurd q (by simpa using e)) (fun _ => h)
theorem if_neT (e : (a == b) = true) (h : B) : if (!decide (V.int a = V.int b)) = true then A else B := if_neI (fun q => absurd (by simpa using e) q) (fun _ => h)
theorem if_neF (e : (a == b) = false) (h : A) : if (!decide (V.int a = V.int b)) = true then A else B := if_neI (fun _ => h) (fun q => absurd q (by simpa using e))
theorem if_decT {p : Prop} [Decidable p] (e : p) (h : A) : if decide p = true then A else B := if_dec (fun _ => h) (fun q => absurd e q)
theorem if_decF {p : Prop} [Decidable p] (e : ¬ p) (h : B) : if decide p = true then A else B := if_dec (fun q => absurd q e) (fun _ => h)
theorem if_ndecT {p : Prop} [Decidable p] (e : p) (h : B) : if (!decide p) = true then A else B := if_ndec (fun q => absurd e q) (fun _ => h)
theorem if_ndecF {p : Prop} [Decidable p] (e : ¬ p) (h : A) : if (!decide p) = true then A else B := if_ndec (fun _ => h) (fun q => absurd q e)
variable {K : PySem.W.Frag} {H : Hp} {Q : VK} {p : Addr} {x y z u : V}
theorem r_lenT2 (q : SqT K H p [x, y]) (h : Q (.int 2) H) : rLen K [.ref p] H Q := r_lenT q h
theorem r_lenT3 (q : SqT K H p [x, y, z]) (h : Q (.int 3) H) : rLen K [.ref p] H Q := r_lenT q h
theorem r_lenT4 (q : SqT K H p [x, y, z, u]) (h : Q (.int 4) H) : rLen K [.ref p] H Q := r_lenT q h
end
end My
namespace My
open PySem L2
theorem fdiv_ex {a s : Int} (h : s ∣ a) : a = a.fdiv s * s := (Int.fdiv_mul_cancel h).symm
theorem nat_le_mul {a p s : Int} (hs : s ≠ 0) (e : a = p * s) : p.natAbs ≤ a.natAbs := by
  rw [e, Int.natAbs_mul]
  exact Nat.le_mul_of_pos_right _ (by omega)
/-- four numbers are those of a plane times s -/
structure Scl (a b c d p0 p1 p2 p3 s : Int) : Prop where
  e0 : a = p0 * s
  e1 : b = p1 * s
  e2 : c = p2 * s
  e3 : d = p3 * s
  nz : s ≠ 0
theorem B.scl0 {k : Nat} {a b c d p0 p1 p2 p3 s : Int} (h : Scl a b c d p0 p1 p2 p3 s) (q : B k a) : B k p0 := B.of_le (nat_le_mul h.nz h.e0) q
theorem B.scl1 {k : Nat} {a b c d p0 p1 p2 p3 s : Int} (h : Scl a b c d p0 p1 p2 p3 s) (q : B k b) : B k p1 := B.of_le (nat_le_mul h.nz h.e1) q
theorem B.scl2 {k : Nat} {a b c d p0 p1 p2 p3 s : Int} (h : Scl a b c d p0 p1 p2 p3 s) (q : B k c) : B k p2 := B.of_le (nat_le_mul h.nz h.e2) q
theorem B.scl3 {k : Nat} {a b c d p0 p1 p2 p3 s : Int} (h : Scl a b c d p0 p1 p2 p3 s) (q : B k d) : B k p3 := B.of_le (nat_le_mul h.nz h.e3) q
end My
namespace My
open PySem L2
theorem Fr.seq {K : PySem.W.Frag} {H H' : Hp} {s a : Addr} {xs : List V} (e : Fr s H H') (st : St K H s) (h : SqL K H a xs) (hx : (xs.length == 7) = false) : SqL K H' a xs := by
  obtain ⟨l, ns, i1, i2, i3, i4, i5, i6, st⟩ := st
  rcases h with (h | ⟨o, h⟩) | h
  · refine .inl (.inl (e.keep _ _ (fun q => ?_) h))
    rw [q, st.at_] at h
    cases h
    cases hx
  · refine .inl (.inr ⟨o, e.keep _ _ (fun q => ?_) h⟩)
    rw [q, st.at_] at h
    cases h
  · exact .inr h
end My
namespace My
open PySem L2
theorem lcm_step {C x : Int} (hC : 0 < C) (hx : 0 < x) : C ∣ C * (x.fdiv ((Nat.gcd C.natAbs x.natAbs : Nat) : Int)) ∧ x ∣ C * (x.fdiv ((Nat.gcd C.natAbs x.natAbs : Nat) : Int)) ∧ 0 < C * (x.fdiv ((Nat.gcd C.natAbs x.natAbs : Nat) : Int)) := by
  obtain ⟨g, c', x', hg, h0, e1, e2, _⟩ := gcd_parts C x (by omega)
  rw [← hg]
  have e3 : x.fdiv (g : Int) = x' := by
    rw [e2]
    exact Int.mul_fdiv_cancel_left _ (by omega)
  rw [e3]
  refine ⟨Int.dvd_mul_right _ _, ?_, ?_⟩
  · rw [e1, e2]
    exact ⟨c', by grind⟩
  · refine Int.mul_pos hC ?_
    have : 0 < (g : Int) * x' := e2 ▸ hx
    exact Int.pos_of_mul_pos_right (a := (g : Int)) this (by omega)
theorem B.fdiv {k : Nat} {a b : Int} (hb : 0 < b) (h : B k a) (ha : 0 ≤ a) : B k (a.fdiv b) := B.of_le (y := a) (by
  rw [Int.fdiv_eq_ediv_of_nonneg _ (by omega)]
  have h1 := Int.ediv_nonneg ha (by omega : 0 ≤ b)
  have h2 := Int.ediv_le_self b ha
  omega) h
theorem mul_fdiv {C d : Int} (hd : 0 < d) (h : d ∣ C) : C.fdiv d * d = C := Int.fdiv_mul_cancel h
end My
namespace My
open PySem L2
theorem Scl.nzp {a b c d p0 p1 p2 p3 s : Int} (h : Scl a b c d p0 p1 p2 p3 s) (n : ¬ (a = 0 ∧ b = 0 ∧ c = 0)) : ¬ (p0 = 0 ∧ p1 = 0 ∧ p2 = 0) := by
  rintro ⟨e0, e1, e2⟩
  exact n ⟨by rw [h.e0, e0]; simp, by rw [h.e1, e1]; simp, by rw [h.e2, e2]; simp⟩
section
variable {K : PySem.W.Frag} {σ : L2.St} {H : Hp} {Q : VK} {to : TE} {t : TA}
def bmP (K : PySem.W.Frag) (T : String) (x : V) (H : Hp) (P : Prop) : Prop := tyV K T x H ∧ P
theorem w_bm {T : String} {r : V → List V → Hp → VK → Prop} (h : to σ H fun x H1 => bmP K T x H1 (t σ H1 fun xs H2 => r x xs H2 Q)) : tBM K T r to t σ H Q := h
theorem r_bmL {l : Addr} {xs : List V} {P : Prop} (h : SqL K H l xs) (p : P) : bmP K "list" (.ref l) H P := ⟨.inl ⟨rfl, _, h⟩, p⟩
theorem r_app {l : Addr} {xs : List V} {y : V} (h : H l = some (.lst xs)) (hz : xs.length < 100000) (q : Q .non (upd H l (.lst (xs ++ [y])))) : rAppend (.ref l) [y] H Q := ⟨l, xs, y, rfl, rfl, h, Nat.lt_of_lt_of_le hz (by decide), q⟩
theorem r_popAt {l : Addr} {xs : List V} {i : Int} (h : H l = some (.lst xs)) (h0 : 0 ≤ i) (h1 : i < (xs.length : Int)) (hz : xs.length ≤ 1000) (q : ∀ (k : Nat) (y : V), xs[k]? = some y → i = (k : Int) → Q y (upd H l (.lst (xs.eraseIdx k)))) : rPopAt (.ref l) [.int i] H Q := by
  obtain ⟨n, rfl⟩ := Int.eq_ofNat_of_zero_le h0
  have hn : n < xs.length := by omega
  have e := List.getElem?_eq_getElem hn
  exact ⟨l, xs, n, n, xs[n], rfl, rfl, h, by omega, by omega, (ixN_seq (n := xs.length) (i := (n : Int)) (j := n) (by unfold ixN; rw [if_pos h0, if_pos h1]; rfl)).1, e, q n _ e rfl⟩
end
end My
namespace My
theorem plane_at_zero {a b c n d p0 p1 p2 p3 s C n0 n1 n2 d0 d1 d2 : Int} (r : Red (a * n0 * d1 * d2 + b * n1 * d0 * d2 + c * n2 * d0 * d1 + 0 * (d0 * d1 * d2)) (d0 * d1 * d2) n d) (e0 : a * C = p0 * s * 1) (e1 : b * C = p1 * s * 1) (e2 : c * C = p2 * s * 1) (e3 : -n * C = p3 * s * d) (hs : s ≠ 0) : p0 * n0 * d1 * d2 + p1 * n1 * d0 * d2 + p2 * n2 * d0 * d1 + p3 * (d0 * d1 * d2) = 0 := by
  have h := r.eq
  have h1 : s * d * (p0 * n0 * d1 * d2 + p1 * n1 * d0 * d2 + p2 * n2 * d0 * d1 + p3 * (d0 * d1 * d2)) = 0 := by grind
  rcases Int.mul_eq_zero.1 h1 with h2 | h2
  · rcases Int.mul_eq_zero.1 h2 with h3 | h3
    · exact absurd h3 hs
    · have := r.pos
      omega
  · exact h2
theorem plane_at_nz {a b c p0 p1 p2 s C : Int} (nz : ¬ (a = 0 ∧ b = 0 ∧ c = 0)) (e0 : a * C = p0 * s * 1) (e1 : b * C = p1 * s * 1) (e2 : c * C = p2 * s * 1) (hC : C ≠ 0) : ¬ (p0 = 0 ∧ p1 = 0 ∧ p2 = 0) := by
  rintro ⟨z0, z1, z2⟩
  have w : ∀ x p : Int, x * C = p * s * 1 → p = 0 → x = 0 := fun x p e z => by
    rw [z] at e
    have e2 : x * C = 0 := by omega
    rcases Int.mul_eq_zero.1 e2 with h | h
    · exact h
    · exact absurd h hC
  exact nz ⟨w _ _ e0 z0, w _ _ e1 z1, w _ _ e2 z2⟩
/-- two rows' sums: the rule of Cramer -/
theorem cramer {a0 a1 a2 a3 b0 b1 b2 b3 c0 c1 c2 c3 X Y Z W : Int} (ha : a0 * X + a1 * Y + a2 * Z + a3 * W = 0) (hb : b0 * X + b1 * Y + b2 * Z + b3 * W = 0) (hc : c0 * X + c1 * Y + c2 * Z + c3 * W = 0) :
    (a0 * (b1 * c2 - b2 * c1) + a1 * (b2 * c0 - b0 * c2) + a2 * (b0 * c1 - b1 * c0)) * X = (-(a3 * (b1 * c2 - b2 * c1) + b3 * (c1 * a2 - c2 * a1) + c3 * (a1 * b2 - a2 * b1))) * W ∧
    (a0 * (b1 * c2 - b2 * c1) + a1 * (b2 * c0 - b0 * c2) + a2 * (b0 * c1 - b1 * c0)) * Y = (-(a3 * (b2 * c0 - b0 * c2) + b3 * (c2 * a0 - c0 * a2) + c3 * (a2 * b0 - a0 * b2))) * W ∧
    (a0 * (b1 * c2 - b2 * c1) + a1 * (b2 * c0 - b0 * c2) + a2 * (b0 * c1 - b1 * c0)) * Z = (-(a3 * (b0 * c1 - b1 * c0) + b3 * (c0 * a1 - c1 * a0) + c3 * (a0 * b1 - a1 * b0))) * W := by
  refine ⟨?_, ?_, ?_⟩ <;> grind
end My
namespace My
open PySem L2
theorem Fr.lst {K : PySem.W.Frag} {H H' : Hp} {s a : Addr} {xs : List V} (e : Fr s H H') (st : St K H s) (h : H a = some (.lst xs)) (hx : (xs.length == 7) = false) : H' a = some (.lst xs) := by
  obtain ⟨l, ns, i1, i2, i3, i4, i5, i6, st⟩ := st
  refine e.keep _ _ (fun q => ?_) h
  rw [q, st.at_] at h
  cases h
  cases hx
theorem Same.lst {H H' : Hp} {a : Addr} {xs : List V} (e : Same H H') (h : H a = some (.lst xs)) : H' a = some (.lst xs) := e _ _ h
section
variable {K : PySem.W.Frag} {H H0 : Hp} {s l : Addr} {xs ys : List V} {y v : V}
/-- a list of the def's own changes: H0 is the heap ahead of its making -/
theorem r_setM {Q : Hp → Prop} {k : Int} {j : Nat} (nl : H0 l = none) (st0 : St K H0 s) (e : Fr s H0 H) (st : St K H s) (h : H l = some (.lst xs)) (ix : ixN xs.length k = some j) (ey : xs.set j v = ys)
    (q : ∀ H1, Fr s H0 H1 → St K H1 s → H1 l = some (.lst ys) → Q H1) : rSetL (.ref l) (.int k) v H Q :=
  r_setL h ix ey (q _ (Fr.mut e nl st0.some) (St.mut st0 e st nl) upd_same)
theorem r_setP {Q : Hp → Prop} {k : Int} {j : Nat} (nl : H0 l = none) (e : Same H0 H) (h : H l = some (.lst xs)) (ix : ixN xs.length k = some j) (ey : xs.set j v = ys)
    (q : ∀ H1, Same H0 H1 → H1 l = some (.lst ys) → Q H1) : rSetL (.ref l) (.int k) v H Q :=
  r_setL h ix ey (q _ (Same.mut e nl) upd_same)
theorem r_appM {Q : VK} (nl : H0 l = none) (st0 : St K H0 s) (e : Fr s H0 H) (st : St K H s) (h : H l = some (.lst xs)) (hz : xs.length < 100000)
    (q : ∀ H1, Fr s H0 H1 → St K H1 s → H1 l = some (.lst (xs ++ [y])) → Q .non H1) : rAppend (.ref l) [y] H Q :=
  r_app h hz (q _ (Fr.mut e nl st0.some) (St.mut st0 e st nl) upd_same)
theorem r_appP {Q : VK} (nl : H0 l = none) (e : Same H0 H) (h : H l = some (.lst xs)) (hz : xs.length < 100000)
    (q : ∀ H1, Same H0 H1 → H1 l = some (.lst (xs ++ [y])) → Q .non H1) : rAppend (.ref l) [y] H Q := r_app h hz (q _ (Same.mut e nl) upd_same)
end
end My
theorem My.perm_erase {α : Type} : ∀ {L : List α} {k : Nat} {y : α}, L[k]? = some y → (y :: L.eraseIdx k).Perm L
  | [], k, y, h => by simp at h
  | a :: r, 0, y, h => by
    have e : a = y := by simpa using h
    subst e
    exact List.Perm.refl _
  | a :: r, k + 1, y, h => by
    have ih := My.perm_erase (L := r) (k := k) (y := y) (by simpa using h)
    exact (List.Perm.swap a y _).trans (List.Perm.cons a ih)
namespace My
open PySem L2
/-- a plane's tuple; one whose value is zero at a point -/
def PlV (K : PySem.W.Frag) (H : Hp) (x : V) : Prop := ∃ a p0 p1 p2 p3, x = .ref a ∧ SqT K H a [.int p0, .int p1, .int p2, .int p3] ∧ B 1300 p0 ∧ B 1300 p1 ∧ B 1300 p2 ∧ B 1300 p3
def PlZ (K : PySem.W.Frag) (n0 d0 n1 d1 n2 d2 : Int) (H : Hp) (x : V) : Prop := ∃ a p0 p1 p2 p3, x = .ref a ∧ SqT K H a [.int p0, .int p1, .int p2, .int p3] ∧ B 1300 p0 ∧ B 1300 p1 ∧ B 1300 p2 ∧ B 1300 p3 ∧
  p0 * n0 * d1 * d2 + p1 * n1 * d0 * d2 + p2 * n2 * d0 * d1 + p3 * (d0 * d1 * d2) = 0
theorem PlV.tk {K : PySem.W.Frag} {H H' : Hp} {x : V} (e : TK K H H') (h : PlV K H x) : PlV K H' x := by
  obtain ⟨a, p0, p1, p2, p3, rfl, h, r⟩ := h
  exact ⟨a, p0, p1, p2, p3, rfl, e _ _ h, r⟩
theorem PlZ.tk {K : PySem.W.Frag} {H H' : Hp} {x : V} {n0 d0 n1 d1 n2 d2 : Int} (e : TK K H H') (h : PlZ K n0 d0 n1 d1 n2 d2 H x) : PlZ K n0 d0 n1 d1 n2 d2 H' x := by
  obtain ⟨a, p0, p1, p2, p3, rfl, h, r⟩ := h
  exact ⟨a, p0, p1, p2, p3, rfl, e _ _ h, r⟩
theorem PlZ.v {K : PySem.W.Frag} {H : Hp} {x : V} {n0 d0 n1 d1 n2 d2 : Int} (h : PlZ K n0 d0 n1 d1 n2 d2 H x) : PlV K H x := by
  obtain ⟨a, p0, p1, p2, p3, rfl, h, b0, b1, b2, b3, _⟩ := h
  exact ⟨a, p0, p1, p2, p3, rfl, h, b0, b1, b2, b3⟩
/-- all items of a list -/
def AllV (P : Hp → V → Prop) (acc : List V) (H : Hp) : Prop := ∀ x ∈ acc, P H x
theorem AllV.nil {P : Hp → V → Prop} {H : Hp} : AllV P [] H := fun _ h => by cases h
theorem AllV.snoc {P : Hp → V → Prop} {H : Hp} {acc : List V} {y : V} (h : AllV P acc H) (p : P H y) : AllV P (acc ++ [y]) H := fun x hx => by
  rcases List.mem_append.mp hx with q | q
  · exact h x q
  · rw [List.mem_singleton.mp q]
    exact p
theorem AllV.tk {K : PySem.W.Frag} {P : Hp → V → Prop} (hP : ∀ H H' x, TK K H H' → P H x → P H' x) {H H' : Hp} {acc : List V} (e : TK K H H') (h : AllV P acc H) : AllV P acc H' := fun x hx => hP _ _ _ e (h x hx)
theorem AllV.perm {P : Hp → V → Prop} {H : Hp} {xs ys : List V} (p : ys.Perm xs) (h : AllV P xs H) : AllV P ys H := fun x hx => h x (p.subset hx)
/-- a chain of heaps leaves the tuples -/
theorem red_same {t b t' b' n d n' d' : Int} (r : Red t b n d) (r' : Red t' b' n' d') (hb : b ≠ 0) (hb' : b' ≠ 0) (e : t * b' = t' * b) : n = n' ∧ d = d' := by
  refine red_uniq r.pos r'.pos r.cop r'.cop ?_
  have h1 := r.eq
  have h2 := r'.eq
  have h3 : (b * b') * (n * d' - n' * d) = 0 := by grind
  rcases Int.mul_eq_zero.1 h3 with h | h
  · rcases Int.mul_eq_zero.1 h with q | q
    · exact absurd q hb
    · exact absurd q hb'
  · omega
end My
namespace My
theorem met_on {D t0 t1 t2 a0 a1 a2 a3 n0 d0 n1 d1 n2 d2 : Int} (h : a0 * t0 + a1 * t1 + a2 * t2 + a3 * D = 0) (hD : D ≠ 0) (r0 : Red t0 D n0 d0) (r1 : Red t1 D n1 d1) (r2 : Red t2 D n2 d2) :
    a0 * n0 * d1 * d2 + a1 * n1 * d0 * d2 + a2 * n2 * d0 * d1 + a3 * (d0 * d1 * d2) = 0 := by
  have e0 := r0.eq
  have e1 := r1.eq
  have e2 := r2.eq
  have q : D * (a0 * n0 * d1 * d2 + a1 * n1 * d0 * d2 + a2 * n2 * d0 * d1 + a3 * (d0 * d1 * d2)) = 0 := by grind
  rcases Int.mul_eq_zero.1 q with z | z
  · exact absurd z hD
  · exact z
theorem met_pt {D t n d m e u : Int} (hc : D * (m * u) = t * (e * u)) (hu : 0 < u) (hD : D ≠ 0) (r : Red t D n d) (he : 0 < e) (c : Nat.gcd m.natAbs e.natAbs = 1) : n = m ∧ d = e := by
  have e0 := r.eq
  have h1 : u * (D * m - t * e) = 0 := by grind
  have h2 : D * m - t * e = 0 := by
    rcases Int.mul_eq_zero.1 h1 with z | z
    · omega
    · exact z
  refine red_uniq r.pos he r.cop c ?_
  have h3 : D * (n * e - m * d) = 0 := by grind
  rcases Int.mul_eq_zero.1 h3 with z | z
  · exact absurd z hD
  · omega
theorem met_all {a0 a1 a2 a3 b0 b1 b2 b3 c0 c1 c2 c3 n0 d0 n1 d1 n2 d2 m0 e0 m1 e1 m2 e2 : Int}
    (za : a0 * m0 * e1 * e2 + a1 * m1 * e0 * e2 + a2 * m2 * e0 * e1 + a3 * (e0 * e1 * e2) = 0) (zb : b0 * m0 * e1 * e2 + b1 * m1 * e0 * e2 + b2 * m2 * e0 * e1 + b3 * (e0 * e1 * e2) = 0) (zc : c0 * m0 * e1 * e2 + c1 * m1 * e0 * e2 + c2 * m2 * e0 * e1 + c3 * (e0 * e1 * e2) = 0)
    (hD : (a0 * (b1 * c2 - b2 * c1) + a1 * (b2 * c0 - b0 * c2) + a2 * (b0 * c1 - b1 * c0)) ≠ 0)
    (r0 : Red (-(a3 * (b1 * c2 - b2 * c1) + b3 * (c1 * a2 - c2 * a1) + c3 * (a1 * b2 - a2 * b1))) (a0 * (b1 * c2 - b2 * c1) + a1 * (b2 * c0 - b0 * c2) + a2 * (b0 * c1 - b1 * c0)) n0 d0)
    (r1 : Red (-(a3 * (b2 * c0 - b0 * c2) + b3 * (c2 * a0 - c0 * a2) + c3 * (a2 * b0 - a0 * b2))) (a0 * (b1 * c2 - b2 * c1) + a1 * (b2 * c0 - b0 * c2) + a2 * (b0 * c1 - b1 * c0)) n1 d1)
    (r2 : Red (-(a3 * (b0 * c1 - b1 * c0) + b3 * (c0 * a1 - c1 * a0) + c3 * (a0 * b1 - a1 * b0))) (a0 * (b1 * c2 - b2 * c1) + a1 * (b2 * c0 - b0 * c2) + a2 * (b0 * c1 - b1 * c0)) n2 d2)
    (q0 : Rt 6 m0 e0) (q1 : Rt 6 m1 e1) (q2 : Rt 6 m2 e2) : n0 = m0 ∧ d0 = e0 ∧ n1 = m1 ∧ d1 = e1 ∧ n2 = m2 ∧ d2 = e2 := by
  obtain ⟨h0, h1, h2⟩ := cramer (X := m0 * (e1 * e2)) (Y := m1 * (e0 * e2)) (Z := m2 * (e0 * e1)) (W := e0 * (e1 * e2)) (a0 := a0) (a1 := a1) (a2 := a2) (a3 := a3) (b0 := b0) (b1 := b1) (b2 := b2) (b3 := b3) (c0 := c0) (c1 := c1) (c2 := c2) (c3 := c3) (by grind) (by grind) (by grind)
  rw [show e0 * (e1 * e2) = e1 * (e0 * e2) by grind] at h1
  rw [show e0 * (e1 * e2) = e2 * (e0 * e1) by grind] at h2
  obtain ⟨x1, x2⟩ := met_pt h0 (Int.mul_pos q1.pos q2.pos) hD r0 q0.pos q0.cop
  obtain ⟨x3, x4⟩ := met_pt h1 (Int.mul_pos q0.pos q2.pos) hD r1 q1.pos q1.cop
  obtain ⟨x5, x6⟩ := met_pt h2 (Int.mul_pos q0.pos q1.pos) hD r2 q2.pos q2.cop
  exact ⟨x1, x2, x3, x4, x5, x6⟩
end My
namespace My
open PySem L2
theorem pm_abc (a0 a1 a2 a3 b0 b1 b2 b3 c0 c1 c2 c3 : Int) : (a0 * (b1 * c2 - b2 * c1) + a1 * (b2 * c0 - b0 * c2) + a2 * (b0 * c1 - b1 * c0)) = (a0 * (b1 * c2 - b2 * c1) + a1 * (b2 * c0 - b0 * c2) + a2 * (b0 * c1 - b1 * c0)) ∧ (-(a3 * (b1 * c2 - b2 * c1) + b3 * (c1 * a2 - c2 * a1) + c3 * (a1 * b2 - a2 * b1))) = (-(a3 * (b1 * c2 - b2 * c1) + b3 * (c1 * a2 - c2 * a1) + c3 * (a1 * b2 - a2 * b1))) ∧ (-(a3 * (b2 * c0 - b0 * c2) + b3 * (c2 * a0 - c0 * a2) + c3 * (a2 * b0 - a0 * b2))) = (-(a3 * (b2 * c0 - b0 * c2) + b3 * (c2 * a0 - c0 * a2) + c3 * (a2 * b0 - a0 * b2))) ∧ (-(a3 * (b0 * c1 - b1 * c0) + b3 * (c0 * a1 - c1 * a0) + c3 * (a0 * b1 - a1 * b0))) = (-(a3 * (b0 * c1 - b1 * c0) + b3 * (c0 * a1 - c1 * a0) + c3 * (a0 * b1 - a1 * b0))) := by
  refine ⟨?_, ?_, ?_, ?_⟩ <;> grind
theorem pm_acb (a0 a1 a2 a3 b0 b1 b2 b3 c0 c1 c2 c3 : Int) : (a0 * (c1 * b2 - c2 * b1) + a1 * (c2 * b0 - c0 * b2) + a2 * (c0 * b1 - c1 * b0)) = -(a0 * (b1 * c2 - b2 * c1) + a1 * (b2 * c0 - b0 * c2) + a2 * (b0 * c1 - b1 * c0)) ∧ (-(a3 * (c1 * b2 - c2 * b1) + c3 * (b1 * a2 - b2 * a1) + b3 * (a1 * c2 - a2 * c1))) = -(-(a3 * (b1 * c2 - b2 * c1) + b3 * (c1 * a2 - c2 * a1) + c3 * (a1 * b2 - a2 * b1))) ∧ (-(a3 * (c2 * b0 - c0 * b2) + c3 * (b2 * a0 - b0 * a2) + b3 * (a2 * c0 - a0 * c2))) = -(-(a3 * (b2 * c0 - b0 * c2) + b3 * (c2 * a0 - c0 * a2) + c3 * (a2 * b0 - a0 * b2))) ∧ (-(a3 * (c0 * b1 - c1 * b0) + c3 * (b0 * a1 - b1 * a0) + b3 * (a0 * c1 - a1 * c0))) = -(-(a3 * (b0 * c1 - b1 * c0) + b3 * (c0 * a1 - c1 * a0) + c3 * (a0 * b1 - a1 * b0))) := by
  refine ⟨?_, ?_, ?_, ?_⟩ <;> grind
theorem pm_bac (a0 a1 a2 a3 b0 b1 b2 b3 c0 c1 c2 c3 : Int) : (b0 * (a1 * c2 - a2 * c1) + b1 * (a2 * c0 - a0 * c2) + b2 * (a0 * c1 - a1 * c0)) = -(a0 * (b1 * c2 - b2 * c1) + a1 * (b2 * c0 - b0 * c2) + a2 * (b0 * c1 - b1 * c0)) ∧ (-(b3 * (a1 * c2 - a2 * c1) + a3 * (c1 * b2 - c2 * b1) + c3 * (b1 * a2 - b2 * a1))) = -(-(a3 * (b1 * c2 - b2 * c1) + b3 * (c1 * a2 - c2 * a1) + c3 * (a1 * b2 - a2 * b1))) ∧ (-(b3 * (a2 * c0 - a0 * c2) + a3 * (c2 * b0 - c0 * b2) + c3 * (b2 * a0 - b0 * a2))) = -(-(a3 * (b2 * c0 - b0 * c2) + b3 * (c2 * a0 - c0 * a2) + c3 * (a2 * b0 - a0 * b2))) ∧ (-(b3 * (a0 * c1 - a1 * c0) + a3 * (c0 * b1 - c1 * b0) + c3 * (b0 * a1 - b1 * a0))) = -(-(a3 * (b0 * c1 - b1 * c0) + b3 * (c0 * a1 - c1 * a0) + c3 * (a0 * b1 - a1 * b0))) := by
  refine ⟨?_, ?_, ?_, ?_⟩ <;> grind
theorem pm_bca (a0 a1 a2 a3 b0 b1 b2 b3 c0 c1 c2 c3 : Int) : (b0 * (c1 * a2 - c2 * a1) + b1 * (c2 * a0 - c0 * a2) + b2 * (c0 * a1 - c1 * a0)) = (a0 * (b1 * c2 - b2 * c1) + a1 * (b2 * c0 - b0 * c2) + a2 * (b0 * c1 - b1 * c0)) ∧ (-(b3 * (c1 * a2 - c2 * a1) + c3 * (a1 * b2 - a2 * b1) + a3 * (b1 * c2 - b2 * c1))) = (-(a3 * (b1 * c2 - b2 * c1) + b3 * (c1 * a2 - c2 * a1) + c3 * (a1 * b2 - a2 * b1))) ∧ (-(b3 * (c2 * a0 - c0 * a2) + c3 * (a2 * b0 - a0 * b2) + a3 * (b2 * c0 - b0 * c2))) = (-(a3 * (b2 * c0 - b0 * c2) + b3 * (c2 * a0 - c0 * a2) + c3 * (a2 * b0 - a0 * b2))) ∧ (-(b3 * (c0 * a1 - c1 * a0) + c3 * (a0 * b1 - a1 * b0) + a3 * (b0 * c1 - b1 * c0))) = (-(a3 * (b0 * c1 - b1 * c0) + b3 * (c0 * a1 - c1 * a0) + c3 * (a0 * b1 - a1 * b0))) := by
  refine ⟨?_, ?_, ?_, ?_⟩ <;> grind
theorem pm_cab (a0 a1 a2 a3 b0 b1 b2 b3 c0 c1 c2 c3 : Int) : (c0 * (a1 * b2 - a2 * b1) + c1 * (a2 * b0 - a0 * b2) + c2 * (a0 * b1 - a1 * b0)) = (a0 * (b1 * c2 - b2 * c1) + a1 * (b2 * c0 - b0 * c2) + a2 * (b0 * c1 - b1 * c0)) ∧ (-(c3 * (a1 * b2 - a2 * b1) + a3 * (b1 * c2 - b2 * c1) + b3 * (c1 * a2 - c2 * a1))) = (-(a3 * (b1 * c2 - b2 * c1) + b3 * (c1 * a2 - c2 * a1) + c3 * (a1 * b2 - a2 * b1))) ∧ (-(c3 * (a2 * b0 - a0 * b2) + a3 * (b2 * c0 - b0 * c2) + b3 * (c2 * a0 - c0 * a2))) = (-(a3 * (b2 * c0 - b0 * c2) + b3 * (c2 * a0 - c0 * a2) + c3 * (a2 * b0 - a0 * b2))) ∧ (-(c3 * (a0 * b1 - a1 * b0) + a3 * (b0 * c1 - b1 * c0) + b3 * (c0 * a1 - c1 * a0))) = (-(a3 * (b0 * c1 - b1 * c0) + b3 * (c0 * a1 - c1 * a0) + c3 * (a0 * b1 - a1 * b0))) := by
  refine ⟨?_, ?_, ?_, ?_⟩ <;> grind
theorem pm_cba (a0 a1 a2 a3 b0 b1 b2 b3 c0 c1 c2 c3 : Int) : (c0 * (b1 * a2 - b2 * a1) + c1 * (b2 * a0 - b0 * a2) + c2 * (b0 * a1 - b1 * a0)) = -(a0 * (b1 * c2 - b2 * c1) + a1 * (b2 * c0 - b0 * c2) + a2 * (b0 * c1 - b1 * c0)) ∧ (-(c3 * (b1 * a2 - b2 * a1) + b3 * (a1 * c2 - a2 * c1) + a3 * (c1 * b2 - c2 * b1))) = -(-(a3 * (b1 * c2 - b2 * c1) + b3 * (c1 * a2 - c2 * a1) + c3 * (a1 * b2 - a2 * b1))) ∧ (-(c3 * (b2 * a0 - b0 * a2) + b3 * (a2 * c0 - a0 * c2) + a3 * (c2 * b0 - c0 * b2))) = -(-(a3 * (b2 * c0 - b0 * c2) + b3 * (c2 * a0 - c0 * a2) + c3 * (a2 * b0 - a0 * b2))) ∧ (-(c3 * (b0 * a1 - b1 * a0) + b3 * (a0 * c1 - a1 * c0) + a3 * (c0 * b1 - c1 * b0))) = -(-(a3 * (b0 * c1 - b1 * c0) + b3 * (c0 * a1 - c1 * a0) + c3 * (a0 * b1 - a1 * b0))) := by
  refine ⟨?_, ?_, ?_, ?_⟩ <;> grind
theorem det_rep1 {x0 x1 x2 y0 y1 y2 : Int} : (x0 * (x1 * y2 - x2 * y1) + x1 * (x2 * y0 - x0 * y2) + x2 * (x0 * y1 - x1 * y0)) = 0 := by grind
theorem det_rep2 {x0 x1 x2 y0 y1 y2 : Int} : (y0 * (x1 * x2 - x2 * x1) + y1 * (x2 * x0 - x0 * x2) + y2 * (x0 * x1 - x1 * x0)) = 0 := by grind
theorem red_sgn {t b t' b' n d n' d' : Int} (r : Red t b n d) (r' : Red t' b' n' d') (hb : b ≠ 0) (e : (b' = b ∧ t' = t) ∨ (b' = -b ∧ t' = -t)) : n' = n ∧ d' = d := by
  have q := red_same r r' hb (by rcases e with ⟨e, _⟩ | ⟨e, _⟩ <;> omega) (by rcases e with ⟨rfl, rfl⟩ | ⟨rfl, rfl⟩ <;> grind)
  exact ⟨q.1.symm, q.2.symm⟩
mutual
theorem Dp.same {K : PySem.W.Frag} {H H' : Hp} (e : Same H H') : ∀ {v : V} {d : PyData}, Dp K H v d → Dp K H' v d
  | _, _, .non => .non
  | _, _, .bl b => .bl b
  | _, _, .int i => .int i
  | _, _, .str x => .str x
  | _, _, .lst h a => .lst (e.seq h) (DpAll.same e a)
  | _, _, .tup h a => .tup (Same.tup e h) (DpAll.same e a)
theorem DpAll.same {K : PySem.W.Frag} {H H' : Hp} (e : Same H H') : ∀ {vs : List V} {ds : List PyData}, DpAll K H vs ds → DpAll K H' vs ds
  | _, _, .nil => .nil
  | _, _, .cons h a => .cons (Dp.same e h) (DpAll.same e a)
end
/-- a value that is None, or a point on three planes -/
def PvP (K : PySem.W.Frag) (H : Hp) (xv : V) (a0 a1 a2 a3 b0 b1 b2 b3 c0 c1 c2 c3 : Int) : Prop := xv = .non ∨ ∃ v v0 v1 v2 m0 e0 m1 e1 m2 e2, xv = .ref v ∧ SqT K H v [.ref v0, .ref v1, .ref v2] ∧ SqT K H v0 [.int m0, .int e0] ∧ SqT K H v1 [.int m1, .int e1] ∧ SqT K H v2 [.int m2, .int e2] ∧ Rt 6 m0 e0 ∧ Rt 6 m1 e1 ∧ Rt 6 m2 e2 ∧ a0 * m0 * e1 * e2 + a1 * m1 * e0 * e2 + a2 * m2 * e0 * e1 + a3 * (e0 * e1 * e2) = 0 ∧ b0 * m0 * e1 * e2 + b1 * m1 * e0 * e2 + b2 * m2 * e0 * e1 + b3 * (e0 * e1 * e2) = 0 ∧ c0 * m0 * e1 * e2 + c1 * m1 * e0 * e2 + c2 * m2 * e0 * e1 + c3 * (e0 * e1 * e2) = 0
theorem PvP.same {K : PySem.W.Frag} {H H' : Hp} {xv : V} {a0 a1 a2 a3 b0 b1 b2 b3 c0 c1 c2 c3 : Int} (e : Same H H') (h : PvP K H xv a0 a1 a2 a3 b0 b1 b2 b3 c0 c1 c2 c3) : PvP K H' xv a0 a1 a2 a3 b0 b1 b2 b3 c0 c1 c2 c3 := by
  rcases h with rfl | ⟨v, v0, v1, v2, m0, e0, m1, e1, m2, e2, rfl, hv, hv0, hv1, hv2, q⟩
  · exact .inl rfl
  · exact .inr ⟨v, v0, v1, v2, m0, e0, m1, e1, m2, e2, rfl, Same.tup e hv, Same.tup e hv0, Same.tup e hv1, Same.tup e hv2, q⟩
theorem PvP.p12 {K : PySem.W.Frag} {H : Hp} {xv : V} {a0 a1 a2 a3 b0 b1 b2 b3 c0 c1 c2 c3 : Int} (h : PvP K H xv a0 a1 a2 a3 b0 b1 b2 b3 c0 c1 c2 c3) : PvP K H xv b0 b1 b2 b3 a0 a1 a2 a3 c0 c1 c2 c3 := by
  rcases h with rfl | ⟨v, v0, v1, v2, m0, e0, m1, e1, m2, e2, rfl, hv, hv0, hv1, hv2, q0, q1, q2, za, zb, zc⟩
  · exact .inl rfl
  · exact .inr ⟨v, v0, v1, v2, m0, e0, m1, e1, m2, e2, rfl, hv, hv0, hv1, hv2, q0, q1, q2, zb, za, zc⟩
theorem PvP.p23 {K : PySem.W.Frag} {H : Hp} {xv : V} {a0 a1 a2 a3 b0 b1 b2 b3 c0 c1 c2 c3 : Int} (h : PvP K H xv a0 a1 a2 a3 b0 b1 b2 b3 c0 c1 c2 c3) : PvP K H xv a0 a1 a2 a3 c0 c1 c2 c3 b0 b1 b2 b3 := by
  rcases h with rfl | ⟨v, v0, v1, v2, m0, e0, m1, e1, m2, e2, rfl, hv, hv0, hv1, hv2, q0, q1, q2, za, zb, zc⟩
  · exact .inl rfl
  · exact .inr ⟨v, v0, v1, v2, m0, e0, m1, e1, m2, e2, rfl, hv, hv0, hv1, hv2, q0, q1, q2, za, zc, zb⟩
/-- the first answer, as data -/
def FstD (D T0 T1 T2 : Int) (d : PyData) : Prop := (D = 0 ∧ d = .none) ∨ (D ≠ 0 ∧ ∃ k0 e0 k1 e1 k2 e2, d = .tuple [.tuple [.int k0, .int e0], .tuple [.int k1, .int e1], .tuple [.int k2, .int e2]] ∧ Red T0 D k0 e0 ∧ Red T1 D k1 e1 ∧ Red T2 D k2 e2)
theorem FstD.no {D T0 T1 T2 D' : Int} {d : PyData} (h : FstD D T0 T1 T2 d) (hs : D' = D ∨ D' = -D) (z : D' = 0) : PyData.eqv .none d = true := by
  rcases h with ⟨_, rfl⟩ | ⟨q, _⟩
  · simp [PyData.eqv]
  · omega
theorem FstD.yes {D T0 T1 T2 D' T0' T1' T2' k0 e0 k1 e1 k2 e2 : Int} {d : PyData} (h : FstD D T0 T1 T2 d) (hs : (D' = D ∧ T0' = T0 ∧ T1' = T1 ∧ T2' = T2) ∨ (D' = -D ∧ T0' = -T0 ∧ T1' = -T1 ∧ T2' = -T2)) (z : D' ≠ 0)
    (r0 : Red T0' D' k0 e0) (r1 : Red T1' D' k1 e1) (r2 : Red T2' D' k2 e2) : PyData.eqv (.tuple [.tuple [.int k0, .int e0], .tuple [.int k1, .int e1], .tuple [.int k2, .int e2]]) d = true := by
  rcases h with ⟨q, _⟩ | ⟨q, j0, f0, j1, f1, j2, f2, rfl, s0, s1, s2⟩
  · omega
  · obtain ⟨rfl, rfl⟩ := red_sgn s0 r0 q (by rcases hs with ⟨a, b, c, d⟩ | ⟨a, b, c, d⟩ <;> simp [a, b])
    obtain ⟨rfl, rfl⟩ := red_sgn s1 r1 q (by rcases hs with ⟨a, b, c, d⟩ | ⟨a, b, c, d⟩ <;> simp [a, c])
    obtain ⟨rfl, rfl⟩ := red_sgn s2 r2 q (by rcases hs with ⟨a, b, c, d⟩ | ⟨a, b, c, d⟩ <;> simp [a, d])
    simp [eqv_T, eqv_C, eqv_N, eqv_I]
end My
theorem My.B.nat {n k : Nat} (h : decide (n < 2 ^ k) = true) : My.B k (@OfNat.ofNat Int n _) := ⟨of_decide_eq_true (p := n < 2 ^ k) h⟩
namespace My
open PySem L2
/-- a def of the text as it stands behind the top, with or without defaults -/
structure FunA (K : PySem.W.Frag) (x qual : Str) (st : Stmt) (f : Addr) (fd : FuncData) : Prop where
  ex : ∃ (oc : Value) (od : Option Addr) (dV kV doc pm : Value) (an : Option Addr) (cdv ct : Value) (osl : Array (Option Value)),
    fd = PySem.W.fnOf x qual (defArgs st) (defBody st) (defScope st) dV kV doc pm an cdv ct ∧ K.lookup f = some ⟨oc, od, .func fd, osl⟩ ∧ PySem.W.codeIn K cdv qual = true
section
variable {P : Program} {w : World} {K : PySem.W.Frag} {mg : Str → Option Value} {base : Heap}
theorem FunA.ok {x qual : Str} {st : Stmt} {f : Addr} {fd : FuncData} {N ps : List Str} {k : Nat} {sp : Sp} (F : FunA K x qual st f fd) (S : FnScope N ps (defScope st)) (len : ∀ vs H Q E, sp vs H Q E → vs.length = ps.length)
    (hbody : ∀ (cdv : Value) (A : Around) (outer : List Env) (s : Shared) (H : Hp) (vs : List V) (Q : VK) (E : XK), Room k (A.deeper (PyProof.Rows.envOfC qual (defScope st) s.heap.objs.size f cdv)) → sp vs H Q E →
      ∃ t, PSs (cxOf CX0 P w K mg base N qual (defScope st) f cdv A outer s H E).nox (defBody st) t ∧ t { nx := fun _ H' => Q .non H', rt := Q } (L2.start N vs) H) : FnOk P w K mg base CX0 (k + 1) f fd ps sp := by
  obtain ⟨oc, od, dV, kV, doc, pm, an, cdv, ct, osl, rfl, lk, hcd⟩ := F.ex
  refine fn_of lk hcd S len fun A outer s H vs Q E hr hsp => ?_
  obtain ⟨t, h, q⟩ := hbody cdv A outer s H vs Q E hr hsp
  exact ⟨t, h.nox, q⟩
theorem funA_mk {x qual : Str} {st : Stmt} {f : Addr} {oc : Value} {od an : Option Addr} {osl : Array (Option Value)} {dV kV doc pm cdv ct : Value} (l : K.lookup f = some ⟨oc, od, .func (PySem.W.fnOf x qual (defArgs st) (defBody st) (defScope st) dV kV doc pm an cdv ct), osl⟩)
    (c : PySem.W.codeIn K cdv qual = true) : FunA K x qual st f (PySem.W.fnOf x qual (defArgs st) (defBody st) (defScope st) dV kV doc pm an cdv ct) := ⟨⟨oc, od, dV, kV, doc, pm, an, cdv, ct, osl, rfl, l, c⟩⟩
end
end My
theorem My.mul_nz {a b : Int} (ha : a ≠ 0) (hb : b ≠ 0) : a * b ≠ 0 := fun h => by
  rcases Int.mul_eq_zero.1 h with q | q
  · exact ha q
  · exact hb q
theorem My.Rt.le {a b : Nat} {n d : Int} (h : My.Rt a n d) (ab : a ≤ b) : My.Rt b n d := ⟨h.pos, h.cop, h.bn.le ab, h.bd.le ab⟩
namespace My
open PySem L2
/-! ratios as rational numbers -/
theorem ndd (q : Rat) : (q.num : Rat) / ((q.den : Int) : Rat) = q := by
  have h := Rat.num_divInt_den q
  rw [Rat.divInt_eq_div] at h
  exact h
theorem icz {d : Int} (h : d ≠ 0) : (d : Rat) ≠ 0 := fun q => h (by exact_mod_cast q)
theorem denI (q : Rat) : (q.den : Int) ≠ 0 := by
  have := q.den_pos
  omega
theorem denP (q : Rat) : 0 < (q.den : Int) := by
  have := q.den_pos
  omega
theorem num_of {n d : Int} {q : Rat} (hd : 0 < d) (c : Nat.gcd n.natAbs d.natAbs = 1) (e : (n : Rat) / (d : Rat) = q) : n = q.num ∧ d = (q.den : Int) := by
  have h1 := ndd q
  have h3 := icz (denI q)
  have h4 : (d : Rat) ≠ 0 := icz (by omega)
  refine red_uniq hd (denP q) c q.reduced ?_
  generalize (q.den : Int) = dd at *
  have h5 : (n : Rat) * (dd : Rat) = (q.num : Rat) * (d : Rat) := by grind
  exact_mod_cast h5
theorem red_q {t b n d : Int} (hb : b ≠ 0) (r : Red t b n d) : n = ((t : Rat) / b).num ∧ d = (((t : Rat) / b).den : Int) := by
  refine num_of r.pos r.cop ?_
  have h1 := icz hb
  have h2 := icz (Int.ne_of_gt r.pos)
  have h3 : (n : Rat) * (b : Rat) = (t : Rat) * d := by exact_mod_cast r.eq
  grind
theorem add_g {a b c d : Int} (hb : b ≠ 0) (hd : d ≠ 0) : ((a * d + c * b : Int) : Rat) / ((b * d : Int) : Rat) = (a : Rat) / b + (c : Rat) / d := by
  have h1 := icz hb
  have h2 := icz hd
  rw [Rat.intCast_add, Rat.intCast_mul, Rat.intCast_mul, Rat.intCast_mul]
  grind
theorem sub_g {a b c d : Int} (hb : b ≠ 0) (hd : d ≠ 0) : ((a * d - c * b : Int) : Rat) / ((b * d : Int) : Rat) = (a : Rat) / b - (c : Rat) / d := by
  have h1 := icz hb
  have h2 := icz hd
  rw [Rat.intCast_sub, Rat.intCast_mul, Rat.intCast_mul, Rat.intCast_mul]
  grind
theorem mul_g {a b c d : Int} (hb : b ≠ 0) (hd : d ≠ 0) : ((a * c : Int) : Rat) / ((b * d : Int) : Rat) = (a : Rat) / b * ((c : Rat) / d) := by
  have h1 := icz hb
  have h2 := icz hd
  rw [Rat.intCast_mul, Rat.intCast_mul]
  grind
theorem div_g {a b c d : Int} (hb : b ≠ 0) (hc : c ≠ 0) (hd : d ≠ 0) : ((a * d : Int) : Rat) / ((b * c : Int) : Rat) = (a : Rat) / b / ((c : Rat) / d) := by
  have h1 := icz hb
  have h2 := icz hd
  have h3 := icz hc
  rw [Rat.intCast_mul, Rat.intCast_mul]
  grind
theorem add_q (p q : Rat) : ((p.num * (q.den : Int) + q.num * (p.den : Int) : Int) : Rat) / (((p.den : Int) * (q.den : Int) : Int) : Rat) = p + q := by
  rw [add_g (denI p) (denI q), ndd, ndd]
theorem sub_q (p q : Rat) : ((p.num * (q.den : Int) - q.num * (p.den : Int) : Int) : Rat) / (((p.den : Int) * (q.den : Int) : Int) : Rat) = p - q := by
  rw [sub_g (denI p) (denI q), ndd, ndd]
theorem mul_q (p q : Rat) : ((p.num * q.num : Int) : Rat) / (((p.den : Int) * (q.den : Int) : Int) : Rat) = p * q := by
  rw [mul_g (denI p) (denI q), ndd, ndd]
theorem numz {q : Rat} (h : q ≠ 0) : q.num ≠ 0 := fun e => h (Rat.num_eq_zero.1 e)
theorem div_q (p q : Rat) (h : q ≠ 0) : ((p.num * (q.den : Int) : Int) : Rat) / (((p.den : Int) * q.num : Int) : Rat) = p / q := by
  rw [div_g (denI p) (numz h) (denI q), ndd, ndd]
/-- both parts of k bits -/
structure BQ (k : Nat) (q : Rat) : Prop where
  n : B k q.num
  d : B k (q.den : Int)
theorem BQ.le {a b : Nat} {q : Rat} (h : BQ a q) (ab : a ≤ b) : BQ b q := ⟨h.n.le ab, h.d.le ab⟩
theorem BQ.dv {k : Nat} {t b : Int} (hb : b ≠ 0) (h1 : B k t) (h2 : B k b) : BQ k ((t : Rat) / b) := by
  have r : ∃ n d, Red t b n d := by
    rcases Int.lt_or_gt_of_ne hb with h | h
    · exact ⟨_, _, red_of hb (fun q => absurd q (by omega)) (fun _ => rfl)⟩
    · exact ⟨_, _, red_of hb (fun _ => rfl) (fun q => absurd q (by omega))⟩
  obtain ⟨n, d, r⟩ := r
  obtain ⟨e1, e2⟩ := red_q hb r
  refine ⟨?_, ?_⟩
  · rw [← e1]; exact B.redn r h1
  · rw [← e2]; exact B.redd r h2
theorem mul0 {a b : Int} (ha : a ≠ 0) (hb : b ≠ 0) : a * b ≠ 0 := fun h => by
  rcases Int.mul_eq_zero.1 h with q | q
  · exact ha q
  · exact hb q
theorem BQ.add {a b : Nat} {p q : Rat} (hp : BQ a p) (hq : BQ b q) : BQ (a + b + 1) (p + q) := by
  rw [← add_q p q]
  exact BQ.dv (mul0 (denI p) (denI q)) ((B.add (B.mul hp.n hq.d) (B.mul hq.n hp.d)).le (by omega)) ((B.mul hp.d hq.d).le (by omega))
theorem BQ.sub {a b : Nat} {p q : Rat} (hp : BQ a p) (hq : BQ b q) : BQ (a + b + 1) (p - q) := by
  rw [← sub_q p q]
  exact BQ.dv (mul0 (denI p) (denI q)) ((B.sub (B.mul hp.n hq.d) (B.mul hq.n hp.d)).le (by omega)) ((B.mul hp.d hq.d).le (by omega))
theorem BQ.mul {a b : Nat} {p q : Rat} (hp : BQ a p) (hq : BQ b q) : BQ (a + b) (p * q) := by
  rw [← mul_q p q]
  exact BQ.dv (mul0 (denI p) (denI q)) (B.mul hp.n hq.n) (B.mul hp.d hq.d)
theorem BQ.div {a b : Nat} {p q : Rat} (hp : BQ a p) (hq : BQ b q) (h : q ≠ 0) : BQ (a + b) (p / q) := by
  rw [← div_q p q h]
  exact BQ.dv (mul0 (denI p) (numz h)) (B.mul hp.n hq.d) (B.mul hp.d hq.n)
theorem BQ.neg {a : Nat} {p : Rat} (hp : BQ a p) : BQ a (-p) := by
  refine ⟨?_, ?_⟩
  · rw [Rat.neg_num]; exact hp.n.neg
  · rw [Rat.neg_den]; exact hp.d
/-- a ratio that is drawn is a rational number -/
theorem rt_q {k : Nat} {n d : Int} (r : Rt k n d) : ∃ q : Rat, n = q.num ∧ d = (q.den : Int) ∧ BQ k q := by
  obtain ⟨e1, e2⟩ := num_of (q := (n : Rat) / d) r.pos r.cop rfl
  exact ⟨_, e1, e2, e1 ▸ r.bn, e2 ▸ r.bd⟩
theorem num_inj {p q : Rat} (h1 : p.num = q.num) (h2 : (p.den : Int) = (q.den : Int)) : p = q := by
  have e1 := ndd p
  have e2 := ndd q
  rw [← e1, ← e2, h1, h2]
theorem num_pos {q : Rat} : 0 < q.num ↔ 0 < q := by
  have h1 := @Rat.num_nonneg q
  have h2 := @Rat.num_eq_zero q
  grind
theorem num_neg {q : Rat} : q.num < 0 ↔ q < 0 := by
  have h1 := @Rat.num_nonneg q
  have h2 := @Rat.num_eq_zero q
  grind
theorem eqv_Q (p q : Rat) : PyData.eqv (.tuple [.int p.num, .int (p.den : Int)]) (.tuple [.int q.num, .int (q.den : Int)]) = decide (p = q) := by
  rw [eqv_T, eqv_C, eqv_C, eqv_N, eqv_I, eqv_I]
  by_cases h : p = q
  · subst h
    simp
  · rw [decide_eq_false h]
    rw [Bool.eq_false_iff]
    intro z
    simp at z
    exact h (num_inj z.1 (by have := z.2; omega))
end My
namespace My
open PySem L2
theorem numI (z : Int) : (z : Rat).num = z := by simp
theorem denII (z : Int) : (((z : Rat).den : Nat) : Int) = 1 := by simp
theorem SqT.ofInt {K : PySem.W.Frag} {H : Hp} {p : Addr} {z : Int} (h : SqT K H p [.int z, .int 1]) : SqT K H p [.int (z : Rat).num, .int ((z : Rat).den : Int)] := by
  rw [numI, denII]
  exact h
theorem BQ.ofInt {k : Nat} {z : Int} (h : B k z) (hk : 1 ≤ k) : BQ k (z : Rat) := ⟨by rw [numI]; exact h, by rw [denII]; exact (B.lit (k := 1) (by decide)).le hk⟩
theorem gcdQ (q : Rat) : Nat.gcd q.num.natAbs (q.den : Int).natAbs = 1 := q.reduced
end My
namespace My
open PySem L2
theorem w_chain {σ : L2.St} {H : Hp} {Q : VK} {r r' : R2} {ta tb tc : TE} (h : ta σ H fun x H1 => tb σ H1 fun y H2 => r x y H2 fun z H3 => ∃ k, z = .bl k ∧ (if k = true then tc σ H3 fun w' H4 => r' y w' H4 Q else Q (.bl false) H3)) : tChain r r' ta tb tc σ H Q := h
end My
namespace My
/-- r lies strictly between p and q -/
def SB (p0 p1 p2 q0 q1 q2 r0 r1 r2 : Rat) : Prop := ¬ (q0 - p0 = 0 ∧ q1 - p1 = 0 ∧ q2 - p2 = 0) ∧ ∃ t : Rat, 0 < t ∧ t < 1 ∧ r0 = p0 + t * (q0 - p0) ∧ r1 = p1 + t * (q1 - p1) ∧ r2 = p2 + t * (q2 - p2)
end My
namespace My
open PySem L2
theorem lt1 {t : Rat} : t.num < (t.den : Int) ↔ t < 1 := by
  rw [Rat.lt_iff]
  simp
theorem SB.i0 {p0 p1 p2 q0 q1 q2 r0 r1 r2 : Rat} (h : q0 - p0 ≠ 0) : SB p0 p1 p2 q0 q1 q2 r0 r1 r2 ↔ (0 < (r0 - p0) / (q0 - p0) ∧ (r0 - p0) / (q0 - p0) < 1 ∧ (p0 + (r0 - p0) / (q0 - p0) * (q0 - p0) = r0 ∧ p1 + (r0 - p0) / (q0 - p0) * (q1 - p1) = r1 ∧ p2 + (r0 - p0) / (q0 - p0) * (q2 - p2) = r2)) := by
  constructor
  · rintro ⟨_, t, h0, h1, e0, e1, e2⟩
    have et : (r0 - p0) / (q0 - p0) = t := by grind
    rw [et]
    exact ⟨h0, h1, e0.symm, e1.symm, e2.symm⟩
  · rintro ⟨h0, h1, e0, e1, e2⟩
    exact ⟨fun z => h z.1, _, h0, h1, e0.symm, e1.symm, e2.symm⟩
theorem SB.i1 {p0 p1 p2 q0 q1 q2 r0 r1 r2 : Rat} (h : q1 - p1 ≠ 0) : SB p0 p1 p2 q0 q1 q2 r0 r1 r2 ↔ (0 < (r1 - p1) / (q1 - p1) ∧ (r1 - p1) / (q1 - p1) < 1 ∧ (p0 + (r1 - p1) / (q1 - p1) * (q0 - p0) = r0 ∧ p1 + (r1 - p1) / (q1 - p1) * (q1 - p1) = r1 ∧ p2 + (r1 - p1) / (q1 - p1) * (q2 - p2) = r2)) := by
  constructor
  · rintro ⟨_, t, h0, h1, e0, e1, e2⟩
    have et : (r1 - p1) / (q1 - p1) = t := by grind
    rw [et]
    exact ⟨h0, h1, e0.symm, e1.symm, e2.symm⟩
  · rintro ⟨h0, h1, e0, e1, e2⟩
    exact ⟨fun z => h z.2.1, _, h0, h1, e0.symm, e1.symm, e2.symm⟩
theorem SB.i2 {p0 p1 p2 q0 q1 q2 r0 r1 r2 : Rat} (h : q2 - p2 ≠ 0) : SB p0 p1 p2 q0 q1 q2 r0 r1 r2 ↔ (0 < (r2 - p2) / (q2 - p2) ∧ (r2 - p2) / (q2 - p2) < 1 ∧ (p0 + (r2 - p2) / (q2 - p2) * (q0 - p0) = r0 ∧ p1 + (r2 - p2) / (q2 - p2) * (q1 - p1) = r1 ∧ p2 + (r2 - p2) / (q2 - p2) * (q2 - p2) = r2)) := by
  constructor
  · rintro ⟨_, t, h0, h1, e0, e1, e2⟩
    have et : (r2 - p2) / (q2 - p2) = t := by grind
    rw [et]
    exact ⟨h0, h1, e0.symm, e1.symm, e2.symm⟩
  · rintro ⟨h0, h1, e0, e1, e2⟩
    exact ⟨fun z => h z.2.2, _, h0, h1, e0.symm, e1.symm, e2.symm⟩
theorem eqv_V (a b c x y z : Rat) : PyData.eqv (.tuple [.tuple [.int a.num, .int (a.den : Int)], .tuple [.int b.num, .int (b.den : Int)], .tuple [.int c.num, .int (c.den : Int)]]) (.tuple [.tuple [.int x.num, .int (x.den : Int)], .tuple [.int y.num, .int (y.den : Int)], .tuple [.int z.num, .int (z.den : Int)]]) = decide (a = x ∧ b = y ∧ c = z) := by
  rw [eqv_T, eqv_C, eqv_C, eqv_C, eqv_N, eqv_Q, eqv_Q, eqv_Q]
  simp [Bool.decide_and]
theorem sgn0 {q : Rat} {r : Int} (h1 : q.num > 0 → r = 1) (h2 : q.num < 0 → r = -1) (h3 : r = 0) : q = 0 := by
  refine Rat.num_eq_zero.1 ?_
  omega
theorem sgnN {q : Rat} {r : Int} (h1 : q.num = 0 → r = 0) (h3 : r ≠ 0) : q ≠ 0 := fun e => h3 (h1 (Rat.num_eq_zero.2 e))
end My
namespace My
open PySem L2
section
variable {K : PySem.W.Frag} {σ : L2.St} {H : Hp} {te : TE}
theorem r_lcQ2 {Da : Addr} {G : Hp → Prop} {J : Nat → List V → Hp → Prop} {i : Nat} {y : V} {H2 : Hp} {acc : List V} (hi : i < 100000) (ha : acc.length = i) (hDa : H2 Da = some (.lst acc)) (g : G (upd H2 Da (.lst (acc ++ [y])))) (q : J (i + 1) (acc ++ [y]) (upd H2 Da (.lst (acc ++ [y])))) : lcQ Da G J i y H2 :=
  ⟨acc, hDa, Nat.lt_of_lt_of_le (m := 100000) (by omega) (by decide), acc ++ [y], by simp [ha], upd_same, g, q⟩
theorem lc_lstH {a : Addr} {xs : List V} {j : Nat} {vs : List Nat} {Da : Addr} {Qd : Hp → Prop} (G : Hp → Prop) (J : Nat → List V → Hp → Prop) (h0 : G (upd H Da (.lst []))) (hj : J 0 [] (upd H Da (.lst [])))
    (hl : ∀ H1 acc, H1 Da = some (.lst acc) → G H1 → SqL K H1 a xs) (hw : ∀ x, wipe ((wipe σ vs).set j (some x)) vs = wipe σ vs)
    (hs : ∀ i x acc H1, xs[i]? = some x → acc.length = i → H1 Da = some (.lst acc) → G H1 → J i acc H1 → te ((wipe σ vs).set j (some x)) H1 fun y H2 => lcQ Da G J i y H2)
    (hd : ∀ acc H1, acc.length = xs.length → H1 Da = some (.lst acc) → G H1 → J xs.length acc H1 → Qd H1) : lcT (Itl K a) (gName j) tYes te vs σ H Da Qd := by
  have z := lc_list (K := K) (a := a) (xs := xs) (g := gName j) (tt := tYes) (te := te) (vs := vs) (σ := σ) (H1 := H) (D := Da) (Qd := Qd) (lcPv Da G J)
    ⟨[], rfl, upd_same, h0, hj⟩ (by
    rintro i H1 hi ⟨acc, ha, hDa, s1, p⟩
    exact hl H1 acc hDa s1) (by
    rintro i x H1 hi ⟨acc, ha, hDa, s1, p⟩
    exact ⟨hw _, hs i x acc H1 hi ha hDa s1 p⟩) (by
    rintro H1 ⟨acc, ha, hDa, s1, p⟩
    exact hd acc H1 ha hDa s1 p)
  exact z
/-- lists that stand apart from the one that is made -/
def LsA (Da : Addr) (rows : List (List V)) (acc : List V) (H : Hp) : Prop := ∃ ls : List Addr, acc = ls.map V.ref ∧ Paired (fun l row => l ≠ Da ∧ H l = some (.lst row)) ls rows
theorem LsA.upd {Da : Addr} {rows : List (List V)} {acc : List V} {H : Hp} {o : HO} (h : LsA Da rows acc H) : LsA Da rows acc (L2.upd H Da o) := by
  obtain ⟨ls, e, p⟩ := h
  refine ⟨ls, e, ?_⟩
  clear e
  induction p with
  | nil => exact .nil
  | cons r _ ih => exact .cons ⟨r.1, (upd_ne r.1).trans r.2⟩ ih
theorem LsA.same {Da : Addr} {rows : List (List V)} {acc : List V} {H H' : Hp} (s : Same H H') (h : LsA Da rows acc H) : LsA Da rows acc H' := by
  obtain ⟨ls, e, p⟩ := h
  refine ⟨ls, e, ?_⟩
  clear e
  induction p with
  | nil => exact .nil
  | cons r _ ih => exact .cons ⟨r.1, s _ _ r.2⟩ ih
theorem LsA.snoc {Da l : Addr} {rows : List (List V)} {row acc : List V} {H : Hp} (h : LsA Da rows acc H) (hn : l ≠ Da) (hl : H l = some (.lst row)) : LsA Da (rows ++ [row]) (acc ++ [.ref l]) H := by
  obtain ⟨ls, rfl, p⟩ := h
  refine ⟨ls ++ [l], by simp, ?_⟩
  induction p with
  | nil => exact .cons ⟨hn, hl⟩ .nil
  | cons r _ ih => exact .cons r ih
end
/-- the line of three points: by four determinants, by three products -/
theorem line_iff {p0 p1 p2 q0 q1 q2 r0 r1 r2 : Rat} :
    (p0 * (q1 * r2 - q2 * r1) + p1 * (q2 * r0 - q0 * r2) + p2 * (q0 * r1 - q1 * r0) = 0 ∧ p0 * (q1 - r1) + p1 * (r0 - q0) + (q0 * r1 - q1 * r0) = 0 ∧ p0 * (q2 - r2) + p2 * (r0 - q0) + (q0 * r2 - q2 * r0) = 0 ∧ p1 * (q2 - r2) + p2 * (r1 - q1) + (q1 * r2 - q2 * r1) = 0) ↔
    ((q1 - p1) * (r2 - p2) - (q2 - p2) * (r1 - p1) = 0 ∧ (q2 - p2) * (r0 - p0) - (q0 - p0) * (r2 - p2) = 0 ∧ (q0 - p0) * (r1 - p1) - (q1 - p1) * (r0 - p0) = 0) := by
  constructor
  · rintro ⟨h0, h1, h2, h3⟩
    refine ⟨by grind, by grind, by grind⟩
  · rintro ⟨h0, h1, h2⟩
    refine ⟨by grind, by grind, by grind, by grind⟩
end My
namespace My
open PySem L2
theorem eqv_L (xs ys : List PyData) : PyData.eqv (.list xs) (.list ys) = PyData.eqvAll xs ys := by simp only [PyData.eqv]
theorem numq (q : Rat) : (q.num : Rat) = q * ((q.den : Int) : Rat) := by
  have h := ndd q
  have h2 := icz (denI q)
  generalize (q.den : Int) = d at *
  grind
/-- the whole numbers that stand for a point -/
theorem whole_q (p0 p1 p2 : Rat) : ((p0.num * (p1.den : Int) * (p2.den : Int) : Int) : Rat) = p0 * (((p0.den : Int) * (p1.den : Int) * (p2.den : Int) : Int) : Rat) ∧ ((p1.num * (p0.den : Int) * (p2.den : Int) : Int) : Rat) = p1 * (((p0.den : Int) * (p1.den : Int) * (p2.den : Int) : Int) : Rat) ∧
    ((p2.num * (p0.den : Int) * (p1.den : Int) : Int) : Rat) = p2 * (((p0.den : Int) * (p1.den : Int) * (p2.den : Int) : Int) : Rat) ∧ (((p0.den : Int) * (p1.den : Int) * (p2.den : Int) : Int) : Rat) ≠ 0 := by
  have h0 := numq p0
  have h1 := numq p1
  have h2 := numq p2
  have z := icz (mul0 (mul0 (denI p0) (denI p1)) (denI p2))
  simp only [Rat.intCast_mul] at *
  generalize ((p0.den : Int) : Rat) = d0 at *
  generalize ((p1.den : Int) : Rat) = d1 at *
  generalize ((p2.den : Int) : Rat) = d2 at *
  rw [h0, h1, h2]
  refine ⟨by grind, by grind, by grind, z⟩
theorem det_z {a0 a1 a2 b0 b1 b2 c0 c1 c2 : Int} {x0 x1 x2 y0 y1 y2 z0 z1 z2 U V W : Rat} (hU : U ≠ 0) (hV : V ≠ 0) (hW : W ≠ 0) (ha0 : (a0 : Rat) = x0 * U) (ha1 : (a1 : Rat) = x1 * U) (ha2 : (a2 : Rat) = x2 * U) (hb0 : (b0 : Rat) = y0 * V) (hb1 : (b1 : Rat) = y1 * V) (hb2 : (b2 : Rat) = y2 * V)
    (hc0 : (c0 : Rat) = z0 * W) (hc1 : (c1 : Rat) = z1 * W) (hc2 : (c2 : Rat) = z2 * W) : (a0 * (b1 * c2 - b2 * c1) + a1 * (b2 * c0 - b0 * c2) + a2 * (b0 * c1 - b1 * c0) = 0 ↔ x0 * (y1 * z2 - y2 * z1) + x1 * (y2 * z0 - y0 * z2) + x2 * (y0 * z1 - y1 * z0) = 0) := by
  have e : ((a0 * (b1 * c2 - b2 * c1) + a1 * (b2 * c0 - b0 * c2) + a2 * (b0 * c1 - b1 * c0) : Int) : Rat) = U * V * W * (x0 * (y1 * z2 - y2 * z1) + x1 * (y2 * z0 - y0 * z2) + x2 * (y0 * z1 - y1 * z0)) := by
    simp only [Rat.intCast_add, Rat.intCast_sub, Rat.intCast_mul]
    rw [ha0, ha1, ha2, hb0, hb1, hb2, hc0, hc1, hc2]
    grind
  constructor
  · intro h
    rw [h] at e
    have e2 : U * V * W * (x0 * (y1 * z2 - y2 * z1) + x1 * (y2 * z0 - y0 * z2) + x2 * (y0 * z1 - y1 * z0)) = 0 := by rw [← e]; simp
    grind
  · intro h
    rw [h] at e
    have e2 : ((a0 * (b1 * c2 - b2 * c1) + a1 * (b2 * c0 - b0 * c2) + a2 * (b0 * c1 - b1 * c0) : Int) : Rat) = 0 := by rw [e]; grind
    exact_mod_cast e2
theorem line_w (p0 p1 p2 q0 q1 q2 r0 r1 r2 : Rat) {d0 d1 d2 d3 : Int}
    {a0 a1 a2 a3 b0 b1 b2 b3 c0 c1 c2 c3 : Int} (ha0 : a0 = p0.num * (p1.den : Int) * (p2.den : Int)) (ha1 : a1 = p1.num * (p0.den : Int) * (p2.den : Int)) (ha2 : a2 = p2.num * (p0.den : Int) * (p1.den : Int)) (ha3 : a3 = (p0.den : Int) * (p1.den : Int) * (p2.den : Int))
    (hb0 : b0 = q0.num * (q1.den : Int) * (q2.den : Int)) (hb1 : b1 = q1.num * (q0.den : Int) * (q2.den : Int)) (hb2 : b2 = q2.num * (q0.den : Int) * (q1.den : Int)) (hb3 : b3 = (q0.den : Int) * (q1.den : Int) * (q2.den : Int))
    (hc0 : c0 = r0.num * (r1.den : Int) * (r2.den : Int)) (hc1 : c1 = r1.num * (r0.den : Int) * (r2.den : Int)) (hc2 : c2 = r2.num * (r0.den : Int) * (r1.den : Int)) (hc3 : c3 = (r0.den : Int) * (r1.den : Int) * (r2.den : Int))
    (h0 : d0 = a0 * (b1 * c2 - b2 * c1) + a1 * (b2 * c0 - b0 * c2) + a2 * (b0 * c1 - b1 * c0)) (h1 : d1 = a0 * (b1 * c3 - b3 * c1) + a1 * (b3 * c0 - b0 * c3) + a3 * (b0 * c1 - b1 * c0))
    (h2 : d2 = a0 * (b2 * c3 - b3 * c2) + a2 * (b3 * c0 - b0 * c3) + a3 * (b0 * c2 - b2 * c0)) (h3 : d3 = a1 * (b2 * c3 - b3 * c2) + a2 * (b3 * c1 - b1 * c3) + a3 * (b1 * c2 - b2 * c1)) :
    (d0 = 0 ∧ d1 = 0 ∧ d2 = 0 ∧ d3 = 0) ↔ ((q1 - p1) * (r2 - p2) - (q2 - p2) * (r1 - p1) = 0 ∧ (q2 - p2) * (r0 - p0) - (q0 - p0) * (r2 - p2) = 0 ∧ (q0 - p0) * (r1 - p1) - (q1 - p1) * (r0 - p0) = 0) := by
  obtain ⟨A0, A1, A2, A3⟩ := whole_q p0 p1 p2
  obtain ⟨B0, B1, B2, B3⟩ := whole_q q0 q1 q2
  obtain ⟨C0, C1, C2, C3⟩ := whole_q r0 r1 r2
  rw [← ha0] at A0; rw [← ha1] at A1; rw [← ha2] at A2; rw [← ha3] at A0 A1 A2 A3
  rw [← hb0] at B0; rw [← hb1] at B1; rw [← hb2] at B2; rw [← hb3] at B0 B1 B2 B3
  rw [← hc0] at C0; rw [← hc1] at C1; rw [← hc2] at C2; rw [← hc3] at C0 C1 C2 C3
  have A4 : (a3 : Rat) = 1 * (a3 : Rat) := by grind
  have B4 : (b3 : Rat) = 1 * (b3 : Rat) := by grind
  have C4 : (c3 : Rat) = 1 * (c3 : Rat) := by grind
  have k0 := det_z A3 B3 C3 A0 A1 A2 B0 B1 B2 C0 C1 C2
  have k1 := det_z A3 B3 C3 A0 A1 A4 B0 B1 B4 C0 C1 C4
  have k2 := det_z A3 B3 C3 A0 A2 A4 B0 B2 B4 C0 C2 C4
  have k3 := det_z A3 B3 C3 A1 A2 A4 B1 B2 B4 C1 C2 C4
  rw [← h0] at k0; rw [← h1] at k1; rw [← h2] at k2; rw [← h3] at k3
  rw [k0, k1, k2, k3, ← line_iff]
  constructor
  · rintro ⟨z0, z1, z2, z3⟩
    exact ⟨z0, by grind, by grind, by grind⟩
  · rintro ⟨z0, z1, z2, z3⟩
    exact ⟨z0, by grind, by grind, by grind⟩
end My
namespace My
open PySem L2
/-- r lies between p and q on one axis, or all three are equal there -/
def Ag (p r q : Rat) : Prop := (p < r ∧ r < q) ∨ (r < p ∧ q < r) ∨ (p = r ∧ r = q)
theorem ag_iff {p r q : Rat} {x y : Int} (h1 : p < r → x = -1) (h2 : r < p → x = 1) (h3 : p = r → x = 0) (g1 : r < q → y = -1) (g2 : q < r → y = 1) (g3 : r = q → y = 0) : (x = y ↔ Ag p r q) ∧ (x ≠ 0 ↔ p ≠ r) := by
  unfold Ag
  have t1 : p < r ∨ r < p ∨ p = r := by grind
  have t2 : r < q ∨ q < r ∨ r = q := by grind
  rcases t1 with a | a | a <;> rcases t2 with b | b | b <;> grind
theorem sb_of {p0 p1 p2 q0 q1 q2 r0 r1 r2 : Rat} (l0 : (q1 - p1) * (r2 - p2) - (q2 - p2) * (r1 - p1) = 0) (l1 : (q2 - p2) * (r0 - p0) - (q0 - p0) * (r2 - p2) = 0) (l2 : (q0 - p0) * (r1 - p1) - (q1 - p1) * (r0 - p0) = 0)
    (a0 : Ag p0 r0 q0) (a1 : Ag p1 r1 q1) (a2 : Ag p2 r2 q2) (h : p0 ≠ r0 ∨ p1 ≠ r1 ∨ p2 ≠ r2) : SB p0 p1 p2 q0 q1 q2 r0 r1 r2 := by
  have key : ∀ p q r : Rat, Ag p r q → p ≠ r → q - p ≠ 0 ∧ 0 < (r - p) / (q - p) ∧ (r - p) / (q - p) < 1 := fun p q r a n => by
    rcases a with ⟨h1, h2⟩ | ⟨h1, h2⟩ | ⟨h1, _⟩
    · have hp : 0 < q - p := by grind
      refine ⟨by grind, ?_, ?_⟩
      · rw [Rat.lt_div_iff hp]; grind
      · rw [Rat.div_lt_iff hp]; grind
    · have hp : 0 < p - q := by grind
      have e : (r - p) / (q - p) = (p - r) / (p - q) := by grind
      rw [e]
      refine ⟨by grind, ?_, ?_⟩
      · rw [Rat.lt_div_iff hp]; grind
      · rw [Rat.div_lt_iff hp]; grind
    · exact absurd h1 n
  rcases h with h | h | h
  · obtain ⟨n, t0, t1⟩ := key _ _ _ a0 h
    rw [SB.i0 n]
    exact ⟨t0, t1, by grind, by grind, by grind⟩
  · obtain ⟨n, t0, t1⟩ := key _ _ _ a1 h
    rw [SB.i1 n]
    exact ⟨t0, t1, by grind, by grind, by grind⟩
  · obtain ⟨n, t0, t1⟩ := key _ _ _ a2 h
    rw [SB.i2 n]
    exact ⟨t0, t1, by grind, by grind, by grind⟩
theorem of_sb {p0 p1 p2 q0 q1 q2 r0 r1 r2 : Rat} (h : SB p0 p1 p2 q0 q1 q2 r0 r1 r2) : ((q1 - p1) * (r2 - p2) - (q2 - p2) * (r1 - p1) = 0 ∧ (q2 - p2) * (r0 - p0) - (q0 - p0) * (r2 - p2) = 0 ∧ (q0 - p0) * (r1 - p1) - (q1 - p1) * (r0 - p0) = 0) ∧ Ag p0 r0 q0 ∧ Ag p1 r1 q1 ∧ Ag p2 r2 q2 ∧ (p0 ≠ r0 ∨ p1 ≠ r1 ∨ p2 ≠ r2) := by
  obtain ⟨n, t, h0, h1, e0, e1, e2⟩ := h
  have ag : ∀ p q r : Rat, r = p + t * (q - p) → Ag p r q := fun p q r e => by
    unfold Ag
    have tr : p < q ∨ q < p ∨ p = q := by grind
    rcases tr with a | a | a
    · have m1 : 0 < t * (q - p) := Rat.mul_pos h0 (by grind)
      have m2 : 0 < (1 - t) * (q - p) := Rat.mul_pos (by grind) (by grind)
      exact .inl ⟨by grind, by grind⟩
    · have m1 : 0 < t * (p - q) := Rat.mul_pos h0 (by grind)
      have m2 : 0 < (1 - t) * (p - q) := Rat.mul_pos (by grind) (by grind)
      exact .inr (.inl ⟨by grind, by grind⟩)
    · subst a
      exact .inr (.inr ⟨by grind, by grind⟩)
  have ne : ∀ p q r : Rat, r = p + t * (q - p) → p = r → q - p = 0 := fun p q r e z => by
    have z2 : t * (q - p) = 0 := by grind
    grind
  refine ⟨⟨by grind, by grind, by grind⟩, ag _ _ _ e0, ag _ _ _ e1, ag _ _ _ e2, ?_⟩
  by_cases c0 : p0 = r0
  · by_cases c1 : p1 = r1
    · by_cases c2 : p2 = r2
      · exact absurd ⟨ne _ _ _ e0 c0, ne _ _ _ e1 c1, ne _ _ _ e2 c2⟩ n
      · exact .inr (.inr c2)
    · exact .inr (.inl c1)
  · exact .inl c0
end My
namespace My
open PySem L2
section
variable {K : PySem.W.Frag} {H H0 : Hp} {s l : Addr} {xs ys : List V} {y v : V}
/-- as r_setM, with what was there just ahead of the change -/
theorem r_setK {Q : Hp → Prop} {k : Int} {j : Nat} (nl : H0 l = none) (st0 : St K H0 s) (e : Fr s H0 H) (st : St K H s) (h : H l = some (.lst xs)) (ix : ixN xs.length k = some j) (ey : xs.set j v = ys)
    (q : ∀ H1, Fr s H0 H1 → St K H1 s → H1 l = some (.lst ys) → (∀ a zs, SqT K H a zs → SqT K H1 a zs) → Q H1) : rSetL (.ref l) (.int k) v H Q :=
  r_setL h ix ey (q _ (Fr.mut e nl st0.some) (St.mut st0 e st nl) upd_same (fun a zs ha => by
    have up : ∀ o : HO, H a = some o → o ≠ .lst xs → (L2.upd H l (.lst ys)) a = some o := fun o ho n => by
      have hn : a ≠ l := fun q => by
        rw [q, h] at ho
        cases ho
        exact n rfl
      simp [L2.upd, hn, ho]
    rcases ha with (ha | ⟨o, ha⟩) | ha
    · exact .inl (.inl (up _ ha (by simp)))
    · exact .inl (.inr ⟨o, up _ ha (by simp)⟩)
    · exact .inr ha))
end
end My
namespace My
theorem SB.sw {p0 p1 p2 q0 q1 q2 r0 r1 r2 : Rat} (h : SB p0 p1 p2 q0 q1 q2 r0 r1 r2) : SB q0 q1 q2 p0 p1 p2 r0 r1 r2 := by
  obtain ⟨n, t, h0, h1, e0, e1, e2⟩ := h
  exact ⟨fun z => n ⟨by grind, by grind, by grind⟩, 1 - t, by grind, by grind, by grind, by grind, by grind⟩
theorem SB.sym {p0 p1 p2 q0 q1 q2 r0 r1 r2 : Rat} : SB p0 p1 p2 q0 q1 q2 r0 r1 r2 ↔ SB q0 q1 q2 p0 p1 p2 r0 r1 r2 := ⟨SB.sw, SB.sw⟩
theorem bb_eq {a b : Bool} {X Y : Prop} (h1 : a = true ↔ X) (h2 : b = true ↔ Y) (h : X ↔ Y) : a = b := by
  rw [Bool.eq_iff_iff, h1, h2, h]
/-- three products of differences are zero: in any order -/
theorem ln_of {p0 p1 p2 q0 q1 q2 r0 r1 r2 : Rat} (l0 : (q1 - p1) * (r2 - p2) - (q2 - p2) * (r1 - p1) = 0) (l1 : (q2 - p2) * (r0 - p0) - (q0 - p0) * (r2 - p2) = 0) (l2 : (q0 - p0) * (r1 - p1) - (q1 - p1) * (r0 - p0) = 0) :
  ((r1 - q1) * (p2 - q2) - (r2 - q2) * (p1 - q1) = 0 ∧ (r2 - q2) * (p0 - q0) - (r0 - q0) * (p2 - q2) = 0 ∧ (r0 - q0) * (p1 - q1) - (r1 - q1) * (p0 - q0) = 0) := ⟨by grind, by grind, by grind⟩
theorem ln_rot {p0 p1 p2 q0 q1 q2 r0 r1 r2 : Rat} : ((q1 - p1) * (r2 - p2) - (q2 - p2) * (r1 - p1) = 0 ∧ (q2 - p2) * (r0 - p0) - (q0 - p0) * (r2 - p2) = 0 ∧ (q0 - p0) * (r1 - p1) - (q1 - p1) * (r0 - p0) = 0) ↔
  ((r1 - q1) * (p2 - q2) - (r2 - q2) * (p1 - q1) = 0 ∧ (r2 - q2) * (p0 - q0) - (r0 - q0) * (p2 - q2) = 0 ∧ (r0 - q0) * (p1 - q1) - (r1 - q1) * (p0 - q0) = 0) := by
  constructor
  · rintro ⟨a, b, c⟩; exact ⟨by grind, by grind, by grind⟩
  · rintro ⟨a, b, c⟩; exact ⟨by grind, by grind, by grind⟩
/-- (three, one, two) as told by in_line(p=three,q=one,r=two) -/
theorem ln_rot2 {p0 p1 p2 q0 q1 q2 r0 r1 r2 : Rat} : ((q1 - p1) * (r2 - p2) - (q2 - p2) * (r1 - p1) = 0 ∧ (q2 - p2) * (r0 - p0) - (q0 - p0) * (r2 - p2) = 0 ∧ (q0 - p0) * (r1 - p1) - (q1 - p1) * (r0 - p0) = 0) ↔
  ((p1 - r1) * (q2 - r2) - (p2 - r2) * (q1 - r1) = 0 ∧ (p2 - r2) * (q0 - r0) - (p0 - r0) * (q2 - r2) = 0 ∧ (p0 - r0) * (q1 - r1) - (p1 - r1) * (q0 - r0) = 0) := by
  constructor
  · rintro ⟨a, b, c⟩; exact ⟨by grind, by grind, by grind⟩
  · rintro ⟨a, b, c⟩; exact ⟨by grind, by grind, by grind⟩
/-- a part of a blend, over a common denominator -/
theorem at_eq {p q t x : Rat} (h : x = p + t * (q - p)) :
    x.num * (p.den : Int) * (q.den : Int) * (t.den : Int) = (p.num * (q.den : Int) * ((t.den : Int) - t.num) + q.num * (p.den : Int) * t.num) * (x.den : Int) := by
  have hp := ndd p
  have hq := ndd q
  have ht := ndd t
  have hx := ndd x
  have zp := icz (denI p)
  have zq := icz (denI q)
  have zt := icz (denI t)
  have zx := icz (denI x)
  generalize p.num = pn at *
  generalize q.num = qn at *
  generalize t.num = tn at *
  generalize x.num = xn at *
  generalize (p.den : Int) = pd at *
  generalize (q.den : Int) = qd at *
  generalize (t.den : Int) = td at *
  generalize (x.den : Int) = xd at *
  have k : (xn : Rat) * pd * qd * td = (pn * qd * (td - tn) + qn * pd * tn) * xd := by
    have e : (xn : Rat) / xd = pn / pd + tn / td * (qn / qd - pn / pd) := by rw [hx, hp, hq, ht, h]
    grind
  exact_mod_cast k
/-- a blend lies strictly between exactly if .. -/
theorem sb_blend {p0 p1 p2 q0 q1 q2 t : Rat} : SB p0 p1 p2 q0 q1 q2 (p0 + t * (q0 - p0)) (p1 + t * (q1 - p1)) (p2 + t * (q2 - p2)) ↔ ¬ (p0 = q0 ∧ p1 = q1 ∧ p2 = q2) ∧ 0 < t ∧ t < 1 := by
  constructor
  · rintro ⟨n, s, h0, h1, e0, e1, e2⟩
    have z : ∀ p q : Rat, p + t * (q - p) = p + s * (q - p) → t ≠ s → q - p = 0 := fun p q e n => by grind
    have ts : t = s := Classical.byContradiction fun ne => n ⟨z _ _ e0 ne, z _ _ e1 ne, z _ _ e2 ne⟩
    subst ts
    exact ⟨fun y => n ⟨by grind, by grind, by grind⟩, h0, h1⟩
  · rintro ⟨n, h0, h1⟩
    exact ⟨fun y => n ⟨by grind, by grind, by grind⟩, t, h0, h1, rfl, rfl, rfl⟩
theorem ln_blend {p0 p1 p2 q0 q1 q2 t : Rat} {b : Bool} (h : b = true ↔ ((p1 + t * (q1 - p1) - p1) * (q2 - p2) - (p2 + t * (q2 - p2) - p2) * (q1 - p1) = 0 ∧ (p2 + t * (q2 - p2) - p2) * (q0 - p0) - (p0 + t * (q0 - p0) - p0) * (q2 - p2) = 0 ∧ (p0 + t * (q0 - p0) - p0) * (q1 - p1) - (p1 + t * (q1 - p1) - p1) * (q0 - p0) = 0)) : b = true := by
  rw [h]
  exact ⟨by grind, by grind, by grind⟩
end My
namespace My
open PySem L2
section
variable {X : Cx} {K : PySem.W.Frag} {σ : L2.St} {H : Hp} {Q : VK} {te : TE}
def rMaxL (K : PySem.W.Frag) : List V → Hp → VK → Prop := fun vs H Q => ∃ (a : Addr) (ns : List Int), vs = [V.ref a] ∧ SqL K H a (ns.map V.int) ∧ 0 < ns.length ∧ ∀ m, m ∈ ns → (∀ y, y ∈ ns → y ≤ m) → Q (.int m) H
theorem kc_maxL (h : X.K = K) (hc : X.calm = true) : CallR X (.builtin "max") (rMaxL K) := h ▸ cr_max hc
theorem r_maxL {a : Addr} {ns : List Int} (q : SqL K H a (ns.map V.int)) (h0 : 0 < ns.length) (h : ∀ m, m ∈ ns → (∀ y, y ∈ ns → y ≤ m) → Q (.int m) H) : rMaxL K [.ref a] H Q := ⟨a, ns, rfl, q, h0, h⟩
theorem r_catT {a b : Addr} {xs ys zs : List V} {u v : V} {us vs : List V} (ha : SqT K H a xs) (hb : SqT K H b ys) (e1 : xs = u :: us) (e2 : ys = v :: vs) (hn : decide (xs.length + ys.length ≤ 100000) = true) (hz : xs ++ ys = zs) (h : ∀ (p : Addr) (H1 : Hp), H p = none → Same H H1 → H1 p = some (.tup zs) → Q (.ref p) H1) : rCatT K (.ref a) (.ref b) H Q :=
  ⟨a, b, xs, ys, rfl, rfl, ha, hb, by rw [e1]; exact List.cons_ne_nil _ _, Nat.le_trans (of_decide_eq_true hn) (by decide), fun e => absurd (e2.symm.trans e) (List.cons_ne_nil _ _), fun _ p np => h p _ np (Same.new np) (by rw [hz]; exact upd_same)⟩
theorem qt {c : Addr} {a b : Int} {q : Rat} (h : SqT K H c [.int a, .int b]) (e1 : q.num = a) (e2 : (q.den : Int) = b) : SqT K H c [.int q.num, .int (q.den : Int)] := by
  rw [e1, e2]
  exact h
theorem lc_tupH {a : Addr} {xs : List V} {j : Nat} {vs : List Nat} {Da : Addr} {Qd : Hp → Prop} (G : Hp → Prop) (J : Nat → List V → Hp → Prop) (h0 : G (upd H Da (.lst []))) (hj : J 0 [] (upd H Da (.lst [])))
    (hl : ∀ H1 acc, H1 Da = some (.lst acc) → G H1 → SqT K H1 a xs) (hw : ∀ x, wipe ((wipe σ vs).set j (some x)) vs = wipe σ vs)
    (hs : ∀ i x acc H1, xs[i]? = some x → acc.length = i → H1 Da = some (.lst acc) → G H1 → J i acc H1 → te ((wipe σ vs).set j (some x)) H1 fun y H2 => lcQ Da G J i y H2)
    (hd : ∀ acc H1, acc.length = xs.length → H1 Da = some (.lst acc) → G H1 → J xs.length acc H1 → Qd H1) : lcT (Itt K a) (gName j) tYes te vs σ H Da Qd := by
  have z := lc_tup (K := K) (a := a) (xs := xs) (g := gName j) (tt := tYes) (te := te) (vs := vs) (σ := σ) (H1 := H) (D := Da) (Qd := Qd) (lcPv Da G J)
    ⟨[], rfl, upd_same, h0, hj⟩ (by
    rintro i H1 hi ⟨acc, ha, hDa, s1, p⟩
    exact hl H1 acc hDa s1) (by
    rintro i x H1 hi ⟨acc, ha, hDa, s1, p⟩
    exact ⟨hw _, hs i x acc H1 hi ha hDa s1 p⟩) (by
    rintro H1 ⟨acc, ha, hDa, s1, p⟩
    exact hd acc H1 ha hDa s1 p)
  exact z
end
end My
namespace My
open PySem L2
/-! vectors and moves over rational numbers -/
structure V3 where
  x : Rat
  y : Rat
  z : Rat
structure M3 where
  a : V3
  b : V3
  c : V3
  s : V3
def dt (p q : V3) : Rat := p.x * q.x + p.y * q.y + p.z * q.z
def va (p q : V3) : V3 := ⟨p.x + q.x, p.y + q.y, p.z + q.z⟩
def sc (t : Rat) (p : V3) : V3 := ⟨t * p.x, t * p.y, t * p.z⟩
def cr (p q : V3) : V3 := ⟨p.y * q.z - p.z * q.y, p.z * q.x - p.x * q.z, p.x * q.y - p.y * q.x⟩
def mvec (A : M3) (p : V3) : V3 := ⟨dt A.a p, dt A.b p, dt A.c p⟩
def app (A : M3) (p : V3) : V3 := va (mvec A p) A.s
def rowx (r : V3) (A : M3) : V3 := va (va (sc r.x A.a) (sc r.y A.b)) (sc r.z A.c)
/-- A first, then B -/
def comb (A B : M3) : M3 := ⟨rowx B.a A, rowx B.b A, rowx B.c A, app B A.s⟩
def det3 (A : M3) : Rat := dt A.a (cr A.b A.c)
def e0 : V3 := ⟨1, 0, 0⟩
def e1 : V3 := ⟨0, 1, 0⟩
def e2 : V3 := ⟨0, 0, 1⟩
def o3 : V3 := ⟨0, 0, 0⟩
def still : M3 := ⟨e0, e1, e2, o3⟩
/-- the inverse: cofactors over the determinant -/
def minv (A : M3) : M3 :=
  ⟨⟨(cr A.b A.c).x / det3 A, (cr A.c A.a).x / det3 A, (cr A.a A.b).x / det3 A⟩,
   ⟨(cr A.b A.c).y / det3 A, (cr A.c A.a).y / det3 A, (cr A.a A.b).y / det3 A⟩,
   ⟨(cr A.b A.c).z / det3 A, (cr A.c A.a).z / det3 A, (cr A.a A.b).z / det3 A⟩,
   ⟨-((cr A.b A.c).x * A.s.x + (cr A.c A.a).x * A.s.y + (cr A.a A.b).x * A.s.z) / det3 A,
    -((cr A.b A.c).y * A.s.x + (cr A.c A.a).y * A.s.y + (cr A.a A.b).y * A.s.z) / det3 A,
    -((cr A.b A.c).z * A.s.x + (cr A.c A.a).z * A.s.y + (cr A.a A.b).z * A.s.z) / det3 A⟩⟩
theorem V3.ext' {p q : V3} (h1 : p.x = q.x) (h2 : p.y = q.y) (h3 : p.z = q.z) : p = q := by
  cases p
  cases q
  simp only at h1 h2 h3
  rw [h1, h2, h3]
theorem M3.ext' {A B : M3} (h1 : A.a = B.a) (h2 : A.b = B.b) (h3 : A.c = B.c) (h4 : A.s = B.s) : A = B := by
  cases A
  cases B
  simp only at h1 h2 h3 h4
  rw [h1, h2, h3, h4]
theorem rowx_rowx (r : V3) (A B : M3) : rowx (rowx r B) A = rowx r (comb A B) := by
  apply V3.ext' <;> simp only [rowx, comb, va, sc, app, mvec, dt] <;> grind
theorem mvec_comb (A B : M3) (p : V3) : mvec (comb A B) p = mvec B (mvec A p) := by
  apply V3.ext' <;> simp only [mvec, comb, rowx, va, sc, dt] <;> grind
theorem mvec_va (A : M3) (p q : V3) : mvec A (va p q) = va (mvec A p) (mvec A q) := by
  apply V3.ext' <;> simp only [mvec, va, dt] <;> grind
theorem va_assoc (p q r : V3) : va (va p q) r = va p (va q r) := by
  apply V3.ext' <;> simp only [va] <;> grind
theorem app_comb (A B : M3) (p : V3) : app (comb A B) p = app B (app A p) := by
  show va (mvec (comb A B) p) (app B A.s) = va (mvec B (va (mvec A p) A.s)) B.s
  rw [mvec_comb, mvec_va, va_assoc]
  rfl
theorem comb_assoc (A B C : M3) : comb (comb A B) C = comb A (comb B C) := by
  refine M3.ext' ?_ ?_ ?_ ?_
  · exact (rowx_rowx C.a A B).symm
  · exact (rowx_rowx C.b A B).symm
  · exact (rowx_rowx C.c A B).symm
  · exact (app_comb B C A.s).symm
theorem comb_still (A : M3) : comb A still = A := by
  refine M3.ext' ?_ ?_ ?_ ?_ <;> apply V3.ext' <;> simp only [comb, still, rowx, va, sc, app, mvec, dt, e0, e1, e2, o3] <;> grind
theorem still_comb (A : M3) : comb still A = A := by
  refine M3.ext' ?_ ?_ ?_ ?_ <;> apply V3.ext' <;> simp only [comb, still, rowx, va, sc, app, mvec, dt, e0, e1, e2, o3] <;> grind
theorem app_still (p : V3) : app still p = p := by
  apply V3.ext' <;> simp only [still, app, mvec, va, dt, e0, e1, e2, o3] <;> grind
theorem comb_minv {A : M3} (h : det3 A ≠ 0) : comb A (minv A) = still := by
  have hd : det3 A = dt A.a (cr A.b A.c) := rfl
  refine M3.ext' ?_ ?_ ?_ ?_ <;> apply V3.ext' <;> simp only [comb, minv, still, rowx, va, sc, app, mvec, dt, e0, e1, e2, o3] <;> generalize det3 A = D at * <;> simp only [dt, cr] at * <;> grind
theorem minv_comb {A : M3} (h : det3 A ≠ 0) : comb (minv A) A = still := by
  have hd : det3 A = dt A.a (cr A.b A.c) := rfl
  refine M3.ext' ?_ ?_ ?_ ?_ <;> apply V3.ext' <;> simp only [comb, minv, still, rowx, va, sc, app, mvec, dt, e0, e1, e2, o3] <;> generalize det3 A = D at * <;> simp only [dt, cr] at * <;> grind
theorem det_comb (A B : M3) : det3 (comb A B) = det3 A * det3 B := by
  simp only [det3, comb, rowx, va, sc, dt, cr]
  grind
theorem det_still : det3 still = 1 := by
  simp only [det3, still, dt, cr, e0, e1, e2]
  grind
theorem det_minv {A : M3} (h : det3 A ≠ 0) : det3 (minv A) ≠ 0 := fun z => by
  have e := det_comb A (minv A)
  rw [comb_minv h, det_still, z] at e
  grind
theorem det_comb0 {A B : M3} (h1 : det3 A ≠ 0) (h2 : det3 B ≠ 0) : det3 (comb A B) ≠ 0 := by
  rw [det_comb]
  grind
theorem inv_uniq {A B C : M3} (h1 : comb B A = still) (h2 : comb A C = still) : B = C := by
  have e := comb_assoc B A C
  rw [h1, h2, still_comb, comb_still] at e
  exact e.symm
theorem minv_of {A B : M3} (h : det3 A ≠ 0) (e : comb A B = still) : minv A = B := inv_uniq (minv_comb h) e
theorem minv_minv {A : M3} (h : det3 A ≠ 0) : minv (minv A) = A := minv_of (det_minv h) (minv_comb h)
theorem minv_anti {A B : M3} (h1 : det3 A ≠ 0) (h2 : det3 B ≠ 0) : minv (comb A B) = comb (minv B) (minv A) := by
  refine minv_of (det_comb0 h1 h2) ?_
  rw [comb_assoc, ← comb_assoc B, comb_minv h2, still_comb, comb_minv h1]
theorem app_minv {A : M3} (h : det3 A ≠ 0) (p : V3) : app (minv A) (app A p) = p := by
  rw [← app_comb, comb_minv h, app_still]
end My
namespace My
open PySem L2
/-! bits of the two parts apart -/
structure BN (n d : Nat) (q : Rat) : Prop where
  n : B n q.num
  d : B d (q.den : Int)
theorem BN.le {n d n' d' : Nat} {q : Rat} (h : BN n d q) (h1 : n ≤ n') (h2 : d ≤ d') : BN n' d' q := ⟨h.n.le h1, h.d.le h2⟩
theorem BN.bq {k : Nat} {q : Rat} (h : BQ k q) : BN k k q := ⟨h.n, h.d⟩
theorem BN.dv {n d : Nat} {t b : Int} (hb : b ≠ 0) (h1 : B n t) (h2 : B d b) : BN n d ((t : Rat) / b) := by
  have r : ∃ n d, Red t b n d := by
    rcases Int.lt_or_gt_of_ne hb with h | h
    · exact ⟨_, _, red_of hb (fun q => absurd q (by omega)) (fun _ => rfl)⟩
    · exact ⟨_, _, red_of hb (fun _ => rfl) (fun q => absurd q (by omega))⟩
  obtain ⟨n, d, r⟩ := r
  obtain ⟨e1, e2⟩ := red_q hb r
  refine ⟨?_, ?_⟩
  · rw [← e1]; exact B.redn r h1
  · rw [← e2]; exact B.redd r h2
theorem BN.add {n d n' d' : Nat} {p q : Rat} (hp : BN n d p) (hq : BN n' d' q) : BN (n + n' + d + d' + 1) (d + d') (p + q) := by
  rw [← add_q p q]
  exact BN.dv (mul0 (denI p) (denI q)) ((B.add (B.mul hp.n hq.d) (B.mul hq.n hp.d)).le (by omega)) ((B.mul hp.d hq.d).le (by omega))
theorem BN.sub {n d n' d' : Nat} {p q : Rat} (hp : BN n d p) (hq : BN n' d' q) : BN (n + n' + d + d' + 1) (d + d') (p - q) := by
  rw [← sub_q p q]
  exact BN.dv (mul0 (denI p) (denI q)) ((B.sub (B.mul hp.n hq.d) (B.mul hq.n hp.d)).le (by omega)) ((B.mul hp.d hq.d).le (by omega))
theorem BN.mul {n d n' d' : Nat} {p q : Rat} (hp : BN n d p) (hq : BN n' d' q) : BN (n + n') (d + d') (p * q) := by
  rw [← mul_q p q]
  exact BN.dv (mul0 (denI p) (denI q)) (B.mul hp.n hq.n) (B.mul hp.d hq.d)
theorem BN.neg {n d : Nat} {p : Rat} (hp : BN n d p) : BN n d (-p) := by
  refine ⟨?_, ?_⟩
  · rw [Rat.neg_num]; exact hp.n.neg
  · rw [Rat.neg_den]; exact hp.d
theorem BN.int {n : Nat} {z : Int} (h : B n z) : BN n 1 (z : Rat) := ⟨by rw [numI]; exact h, by rw [denII]; exact B.lit (k := 1) (by decide)⟩
structure VN (n d : Nat) (p : V3) : Prop where
  x : BN n d p.x
  y : BN n d p.y
  z : BN n d p.z
theorem VN.le {n d n' d' : Nat} {p : V3} (h : VN n d p) (h1 : n ≤ n') (h2 : d ≤ d') : VN n' d' p := ⟨h.x.le h1 h2, h.y.le h1 h2, h.z.le h1 h2⟩
structure MN (n d : Nat) (A : M3) : Prop where
  a : VN n d A.a
  b : VN n d A.b
  c : VN n d A.c
  s : VN n d A.s
theorem MN.le {n d n' d' : Nat} {A : M3} (h : MN n d A) (h1 : n ≤ n') (h2 : d ≤ d') : MN n' d' A := ⟨h.a.le h1 h2, h.b.le h1 h2, h.c.le h1 h2, h.s.le h1 h2⟩
theorem BN.dt {n d n' d' : Nat} {p q : V3} (hp : VN n d p) (hq : VN n' d' q) : BN (3 * (n + n') + 5 * (d + d') + 2) (3 * (d + d')) (dt p q) :=
  (BN.add (BN.add (BN.mul hp.x hq.x) (BN.mul hp.y hq.y)) (BN.mul hp.z hq.z)).le (by omega) (by omega)
theorem VN.va {n d n' d' : Nat} {p q : V3} (hp : VN n d p) (hq : VN n' d' q) : VN (n + n' + d + d' + 1) (d + d') (va p q) := ⟨hp.x.add hq.x, hp.y.add hq.y, hp.z.add hq.z⟩
theorem VN.sc {n d n' d' : Nat} {t : Rat} {q : V3} (ht : BN n d t) (hq : VN n' d' q) : VN (n + n') (d + d') (sc t q) := ⟨ht.mul hq.x, ht.mul hq.y, ht.mul hq.z⟩
theorem VN.cr {n d n' d' : Nat} {p q : V3} (hp : VN n d p) (hq : VN n' d' q) : VN (2 * (n + n') + 2 * (d + d') + 1) (2 * (d + d')) (cr p q) :=
  ⟨(BN.sub (BN.mul hp.y hq.z) (BN.mul hp.z hq.y)).le (by omega) (by omega), (BN.sub (BN.mul hp.z hq.x) (BN.mul hp.x hq.z)).le (by omega) (by omega), (BN.sub (BN.mul hp.x hq.y) (BN.mul hp.y hq.x)).le (by omega) (by omega)⟩
theorem VN.mvec {n d n' d' : Nat} {A : M3} {p : V3} (hA : MN n d A) (hp : VN n' d' p) : VN (3 * (n + n') + 5 * (d + d') + 2) (3 * (d + d')) (mvec A p) := ⟨BN.dt hA.a hp, BN.dt hA.b hp, BN.dt hA.c hp⟩
theorem VN.app {n d n' d' : Nat} {A : M3} {p : V3} (hA : MN n d A) (hp : VN n' d' p) : VN (4 * n + 3 * n' + 9 * d + 8 * d' + 3) (4 * d + 3 * d') (app A p) := (VN.va (VN.mvec hA hp) hA.s).le (by omega) (by omega)
theorem VN.rowx {n d n' d' : Nat} {r : V3} {A : M3} (hr : VN n' d' r) (hA : MN n d A) : VN (3 * (n + n') + 5 * (d + d') + 2) (3 * (d + d')) (rowx r A) :=
  (VN.va (VN.va (VN.sc hr.x hA.a) (VN.sc hr.y hA.b)) (VN.sc hr.z hA.c)).le (by omega) (by omega)
theorem MN.comb {n d n' d' : Nat} {A C : M3} (hA : MN n d A) (hC : MN n' d' C) : MN (3 * n + 4 * n' + 8 * d + 9 * d' + 3) (3 * d + 4 * d') (comb A C) :=
  ⟨(VN.rowx hC.a hA).le (by omega) (by omega), (VN.rowx hC.b hA).le (by omega) (by omega), (VN.rowx hC.c hA).le (by omega) (by omega), (VN.app hC hA.s).le (by omega) (by omega)⟩
/-! where they stand -/
section
variable {K : PySem.W.Frag} {H H' : Hp}
def Qt (K : PySem.W.Frag) (H : Hp) (a : Addr) (q : Rat) : Prop := SqT K H a [.int q.num, .int (q.den : Int)]
def Vc (K : PySem.W.Frag) (H : Hp) (v : Addr) (p : V3) : Prop := ∃ a b c : Addr, SqT K H v [.ref a, .ref b, .ref c] ∧ SqT K H a [.int p.x.num, .int (p.x.den : Int)] ∧ SqT K H b [.int p.y.num, .int (p.y.den : Int)] ∧ SqT K H c [.int p.z.num, .int (p.z.den : Int)]
def Rw (K : PySem.W.Frag) (H : Hp) (r : Addr) (p q s : V3) : Prop := ∃ a b c : Addr, SqT K H r [.ref a, .ref b, .ref c] ∧ Vc K H a p ∧ Vc K H b q ∧ Vc K H c s
def Mv (K : PySem.W.Frag) (H : Hp) (m : Addr) (A : M3) : Prop := ∃ r s : Addr, SqT K H m [.ref r, .ref s] ∧ Rw K H r A.a A.b A.c ∧ Vc K H s A.s
theorem Vc.tk {v : Addr} {p : V3} (t : TK K H H') (h : Vc K H v p) : Vc K H' v p := by
  obtain ⟨a, b, c, h1, h2, h3, h4⟩ := h
  exact ⟨a, b, c, t _ _ h1, t _ _ h2, t _ _ h3, t _ _ h4⟩
theorem Rw.tk {v : Addr} {p q s : V3} (t : TK K H H') (h : Rw K H v p q s) : Rw K H' v p q s := by
  obtain ⟨a, b, c, h1, h2, h3, h4⟩ := h
  exact ⟨a, b, c, t _ _ h1, h2.tk t, h3.tk t, h4.tk t⟩
theorem Mv.tk {v : Addr} {A : M3} (t : TK K H H') (h : Mv K H v A) : Mv K H' v A := by
  obtain ⟨a, b, h1, h2, h3⟩ := h
  exact ⟨a, b, t _ _ h1, h2.tk t, h3.tk t⟩
/-! as data -/
def qD (q : Rat) : PyData := .tuple [.int q.num, .int (q.den : Int)]
def vD (p : V3) : PyData := .tuple [qD p.x, qD p.y, qD p.z]
def mD (A : M3) : PyData := .tuple [.tuple [vD A.a, vD A.b, vD A.c], vD A.s]
theorem qt_dp {a : Addr} {q : Rat} (h : SqT K H a [.int q.num, .int (q.den : Int)]) : Dp K H (.ref a) (qD q) := .tup h (.cons (.int _) (.cons (.int _) .nil))
theorem Vc.dp {v : Addr} {p : V3} (h : Vc K H v p) : Dp K H (.ref v) (vD p) := by
  obtain ⟨a, b, c, h1, h2, h3, h4⟩ := h
  exact .tup h1 (.cons (qt_dp h2) (.cons (qt_dp h3) (.cons (qt_dp h4) .nil)))
theorem Mv.dp {v : Addr} {A : M3} (h : Mv K H v A) : Dp K H (.ref v) (mD A) := by
  obtain ⟨r, s, h1, ⟨a, b, c, h2, h3, h4, h5⟩, h6⟩ := h
  exact .tup h1 (.cons (.tup h2 (.cons h3.dp (.cons h4.dp (.cons h5.dp .nil)))) (.cons h6.dp .nil))
end
/-- ints and tuples alone, no deeper than n -/
def TI : Nat → PyData → Prop
  | 0, _ => False
  | n + 1, .int _ => True
  | n + 1, .tuple ds => ds.length ≤ 1000 ∧ ∀ d, d ∈ ds → TI n d
  | n + 1, .list ds => ds.length ≤ 1000 ∧ ∀ d, d ∈ ds → TI n d
  | _ + 1, _ => False
theorem ti_q {n : Nat} (q : Rat) : TI (n + 2) (qD q) := by
  refine ⟨(by decide : 2 ≤ 1000), fun d hd => ?_⟩
  simp only [List.mem_cons, List.not_mem_nil, or_false] at hd
  rcases hd with rfl | rfl <;> exact trivial
theorem ti_v {n : Nat} (p : V3) : TI (n + 3) (vD p) := by
  refine ⟨(by decide : 3 ≤ 1000), fun d hd => ?_⟩
  simp only [List.mem_cons, List.not_mem_nil, or_false] at hd
  rcases hd with rfl | rfl | rfl <;> exact ti_q _
theorem ti_m (A : M3) : TI 6 (mD A) := by
  refine ⟨(by decide : 2 ≤ 1000), fun d hd => ?_⟩
  simp only [List.mem_cons, List.not_mem_nil, or_false] at hd
  rcases hd with rfl | rfl
  · refine ⟨(by decide : 3 ≤ 1000), fun d hd => ?_⟩
    simp only [List.mem_cons, List.not_mem_nil, or_false] at hd
    rcases hd with rfl | rfl | rfl <;> exact ti_v (n := 1) _
  · exact ti_v (n := 2) _
section
variable {K : PySem.W.Frag} {H : Hp} {Q : VK}
theorem DpAll.len {xs : List V} {ds : List PyData} (h : DpAll K H xs ds) : xs.length = ds.length := by
  match xs, ds, h with
  | [], [], _ => rfl
  | _ :: _, _ :: _, .cons _ t => exact congrArg (· + 1) (DpAll.len t)
theorem DpAll.get {xs : List V} {ds : List PyData} (h : DpAll K H xs ds) {i : Nat} {d : PyData} (e : ds[i]? = some d) : ∃ x, xs[i]? = some x ∧ Dp K H x d := by
  match xs, ds, h, i with
  | [], [], _, _ => simp at e
  | x :: _, _ :: _, .cons a t, 0 =>
    cases e
    exact ⟨x, rfl, a⟩
  | _ :: _, _ :: _, .cons _ t, i + 1 => exact DpAll.get t e
theorem atI_k {α : Type} {xs : List α} {i : Nat} {x : α} (h : xs[i]? = some x) : atI xs (0 + (i : Int)) = some x := by
  rw [Int.zero_add]
  exact atI_nat h
end
end My
namespace My
open PySem L2 PySem.Calls PyProof.Rows
/-! x is True, x is False -/
section
variable {M : Model} {A : Around} {E : Value → Shared → Prop} {s : Shared} {Q : Value → Shared → Prop}
theorem is_bool_gen {v : Value} {b : Bool} (hn : ∀ id, v ≠ .builtin id) (h : Q (.bool (v == .bool b)) s) : wpAny M A (compareOp .Is v (.bool b)) Q E s := by
  cases v <;> first | exact wpAny_pure h | exact absurd rfl (hn _)
end
def rIsB : R2 := fun x y H Q => ∃ b, y = .bl b ∧ Q (.bl (decide (x = .bl b))) H
theorem op_isB {X : Cx} : OpR X (compareOp .Is) rIsB := by
  intro pins s σ H x y v u Q I rx ry h
  obtain ⟨b, rfl, q⟩ := h
  cases ry
  refine is_bool_gen (fun id e => ?_) (fin_bl I q ?_)
  · subst e
    cases x <;> first
      | (cases rx; done)
      | (obtain ⟨t, z⟩ := rx; cases z; done)
  · cases x <;> first
      | (cases rx; rfl)
      | (cases rx; cases b <;> rename_i z <;> cases z <;> rfl)
      | (obtain ⟨t, rfl⟩ := rx; rfl)
theorem r_isB {H : Hp} {Q : VK} {x : V} {b : Bool} (h : Q (.bl (decide (x = .bl b))) H) : rIsB x (.bl b) H Q := ⟨b, rfl, h⟩
/-! lcm of four -/
theorem run_lcm4 (a b c d : Int) (t1 t2 t3 t4 : Tok) (h1 : ¬(max 1 a.natAbs).log2 / 30 + 1 > 450) (h2 : ¬(max (Nat.lcm 1 a.natAbs) b.natAbs).log2 / 30 + 1 > 450) (h3 : ¬(max ((Nat.lcm 1 a.natAbs).lcm b.natAbs) c.natAbs).log2 / 30 + 1 > 450) (h4 : ¬(max (((Nat.lcm 1 a.natAbs).lcm b.natAbs).lcm c.natAbs) d.natAbs).log2 / 30 + 1 > 450)
    (hz : (((((Nat.lcm 1 a.natAbs).lcm b.natAbs).lcm c.natAbs).lcm d.natAbs : Nat) : Int).natAbs.log2 < bitsLine) :
    Gives (Builtin.«math.lcm» ⟨[.int a t1, .int b t2, .int c t3, .int d t4], []⟩) (.int (((((Nat.lcm 1 a.natAbs).lcm b.natAbs).lcm c.natAbs).lcm d.natAbs : Nat) : Int)) :=
  .of_wp fun M A E s Q h => by
    obtain ⟨hp, gens, drw, tk, os⟩ := s
    wp_walk
    refine wpAny_ite_false (decide_eq_false h2) ?_
    wp_walk
    refine wpAny_ite_false (decide_eq_false h3) ?_
    wp_walk
    refine wpAny_ite_false (decide_eq_false h4) ?_
    wp_walk
    first | done | exact ⟨_, rfl, h⟩ | (refine wpAny_ite_false (decide_eq_false (Nat.not_le.mpr hz)) ?_; wp_walk; exact ⟨_, rfl, h⟩)
theorem args_lcm4 (a b c d : Value) : argsOk "math.lcm" ⟨[a, b, c, d], []⟩ := by unfold argsOk; kernel_rfl
theorem l1 (m : Nat) : Nat.lcm 1 m = m := by simp [Nat.lcm]
theorem lcm_le {a b : Nat} : a.lcm b ≤ a * b := by
  unfold Nat.lcm
  exact Nat.div_le_self _ _
theorem lcm_lt {a b i j : Nat} (h1 : a < 2 ^ i) (h2 : b < 2 ^ j) : a.lcm b < 2 ^ (i + j) := by
  refine Nat.lt_of_le_of_lt lcm_le ?_
  rw [Nat.pow_add]
  exact Nat.mul_lt_mul'' h1 h2
theorem log_lt {n k : Nat} (h : n < 2 ^ (k + 1)) : n.log2 ≤ k := PySem.W.mg_log h
theorem log_mx {a b i : Nat} (h1 : a < 2 ^ (i + 1)) (h2 : b < 2 ^ (i + 1)) (hi : i ≤ 13400) : ¬(max a b).log2 / 30 + 1 > 450 := by
  have : max a b < 2 ^ (i + 1) := by omega
  have := log_lt this
  omega
def rLcm4 : List V → Hp → VK → Prop := fun xs H Q => ∃ (a b c d : Int) (k : Nat), xs = [.int a, .int b, .int c, .int d] ∧ 0 < a ∧ 0 < b ∧ 0 < c ∧ 0 < d ∧ B k a ∧ B k b ∧ B k c ∧ B k d ∧ k ≤ 3000 ∧
  ∀ L : Int, 0 < L → a ∣ L → b ∣ L → c ∣ L → d ∣ L → (∀ D : Int, a ∣ D → b ∣ D → c ∣ D → d ∣ D → L ∣ D) → Q (.int L) H
theorem Vals.int4 {a b c d : Int} {us : List Value} (r : Vals [V.int a, V.int b, V.int c, V.int d] us) : ∃ t1 t2 t3 t4, us = [Value.int a t1, Value.int b t2, Value.int c t3, Value.int d t4] := by
  cases r with
  | cons r1 r =>
    cases r with
    | cons r2 r =>
      cases r with
      | cons r3 r =>
        cases r with
        | cons r4 r =>
          cases r
          obtain ⟨t1, rfl⟩ := r1
          obtain ⟨t2, rfl⟩ := r2
          obtain ⟨t3, rfl⟩ := r3
          obtain ⟨t4, rfl⟩ := r4
          exact ⟨_, _, _, _, rfl⟩
theorem cr_lcm4 {X : Cx} : CallR X (.builtin "math.lcm") rLcm4 := by
  intro pins s σ H vs us Q I r h
  obtain ⟨a, b, c, d, k, rfl, pa, pb, pc, pd, ba, bb, bc, bd, hk, q⟩ := h
  obtain ⟨t1, t2, t3, t4, rfl⟩ := Vals.int4 r
  have e1 := ba.lt
  have e2 := bb.lt
  have e3 := bc.lt
  have e4 := bd.lt
  have m2 := lcm_lt e1 e2
  have m3 := lcm_lt m2 e3
  have m4 := lcm_lt m3 e4
  have up : ∀ {n i j : Nat}, n < 2 ^ i → i ≤ j → n < 2 ^ j := fun h hij => Nat.lt_of_lt_of_le h (Nat.pow_le_pow_right (by decide) hij)
  have o1 : (1 : Nat) < 2 ^ (13400 + 1) := up (i := 1) (by decide) (by decide)
  have g := run_lcm4 a b c d t1 t2 t3 t4 (log_mx o1 (up e1 (by omega)) (Nat.le_refl _))
    (by rw [l1]; exact log_mx (up e1 (by omega)) (up e2 (by omega)) (Nat.le_refl _)) (by rw [l1]; exact log_mx (up m2 (by omega)) (up e3 (by omega)) (Nat.le_refl _))
    (by rw [l1]; exact log_mx (up m3 (by omega)) (up e4 (by omega)) (Nat.le_refl _))
    (by rw [l1, Int.natAbs_natCast]
        refine Nat.lt_of_le_of_lt (log_lt (k := 13400) (up m4 (by omega))) ?_
        decide)
  rw [l1] at g
  refine call_function_meets PySem.W.MGF.kind_lcm PySem.W.MGF.plain_lcm PySem.W.MGF.entry_lcm (args_lcm4 _ _ _ _) g.meets ⟨.int _, H, I.tok _, ⟨_, rfl⟩, q _ ?_ ?_ ?_ ?_ ?_ ?_⟩
  · have z1 : 0 < a.natAbs.lcm b.natAbs := Nat.lcm_pos (by omega) (by omega)
    have z2 := Nat.lcm_pos z1 (show 0 < c.natAbs by omega)
    have z3 := Nat.lcm_pos z2 (show 0 < d.natAbs by omega)
    omega
  · exact Int.natAbs_dvd_natAbs.1 (Nat.dvd_trans (Nat.dvd_lcm_left _ _) (Nat.dvd_trans (Nat.dvd_lcm_left _ _) (Nat.dvd_lcm_left _ _)))
  · exact Int.natAbs_dvd_natAbs.1 (Nat.dvd_trans (Nat.dvd_lcm_right _ _) (Nat.dvd_trans (Nat.dvd_lcm_left _ _) (Nat.dvd_lcm_left _ _)))
  · exact Int.natAbs_dvd_natAbs.1 (Nat.dvd_trans (Nat.dvd_lcm_right _ _) (Nat.dvd_lcm_left _ _))
  · exact Int.natAbs_dvd_natAbs.1 (Nat.dvd_lcm_right _ _)
  · intro D h1 h2 h3 h4
    exact Int.natAbs_dvd_natAbs.1 (Nat.lcm_dvd (Nat.lcm_dvd (Nat.lcm_dvd (Int.natAbs_dvd_natAbs.2 h1) (Int.natAbs_dvd_natAbs.2 h2)) (Int.natAbs_dvd_natAbs.2 h3)) (Int.natAbs_dvd_natAbs.2 h4))
theorem r_lcm4 {H : Hp} {Q : VK} {a b c d : Int} {k : Nat} (pa : 0 < a) (pb : 0 < b) (pc : 0 < c) (pd : 0 < d) (ba : B k a) (bb : B k b) (bc : B k c) (bd : B k d) (hk : k ≤ 3000)
    (q : ∀ L : Int, 0 < L → a ∣ L → b ∣ L → c ∣ L → d ∣ L → (∀ D : Int, a ∣ D → b ∣ D → c ∣ D → d ∣ D → L ∣ D) → Q (.int L) H) : rLcm4 [.int a, .int b, .int c, .int d] H Q := ⟨a, b, c, d, k, rfl, pa, pb, pc, pd, ba, bb, bc, bd, hk, q⟩
/-! chains of what stays -/
section
variable {K : PySem.W.Frag} {H H' H0 : Hp} {s l : Addr} {xs : List V} {y : V}
theorem tkap {a : Addr} {ys : List V} (t : TK K H H') (h : SqT K H a ys) : SqT K H' a ys := t _ _ h
theorem Vc.same {v : Addr} {p : V3} (e : Same H H') (h : Vc K H v p) : Vc K H' v p := h.tk (TK.same e)
theorem Vc.fr {v : Addr} {p : V3} (e : Fr s H H') (st : St K H s) (h : Vc K H v p) : Vc K H' v p := h.tk (TK.fr e st)
theorem Mv.same {v : Addr} {p : M3} (e : Same H H') (h : Mv K H v p) : Mv K H' v p := h.tk (TK.same e)
theorem Mv.fr {v : Addr} {p : M3} (e : Fr s H H') (st : St K H s) (h : Mv K H v p) : Mv K H' v p := h.tk (TK.fr e st)
theorem Rw.same {v : Addr} {p q r : V3} (e : Same H H') (h : Rw K H v p q r) : Rw K H' v p q r := h.tk (TK.same e)
theorem Rw.fr {v : Addr} {p q r : V3} (e : Fr s H H') (st : St K H s) (h : Rw K H v p q r) : Rw K H' v p q r := h.tk (TK.fr e st)
/-- an own list grows, what is younger stays too -/
theorem r_appK {Q : VK} (nl : H0 l = none) (e : Same H0 H) (h : H l = some (.lst xs)) (hz : xs.length < 100000)
    (q : ∀ H1, Same H0 H1 → TK K H H1 → H1 l = some (.lst (xs ++ [y])) → Q .non H1) : rAppend (.ref l) [y] H Q := r_app h hz (q _ (Same.mut e nl) (TK.upd h) upd_same)
end
end My
namespace My
open PySem L2
theorem Vc.mk {K : PySem.W.Frag} {H : Hp} {v a b c : Addr} {x y z : Rat} (h : SqT K H v [.ref a, .ref b, .ref c]) (h1 : SqT K H a [.int x.num, .int (x.den : Int)]) (h2 : SqT K H b [.int y.num, .int (y.den : Int)]) (h3 : SqT K H c [.int z.num, .int (z.den : Int)]) : Vc K H v ⟨x, y, z⟩ := ⟨a, b, c, h, h1, h2, h3⟩
theorem Rw.mk {K : PySem.W.Frag} {H : Hp} {v a b c : Addr} {x y z : V3} (h : SqT K H v [.ref a, .ref b, .ref c]) (h1 : Vc K H a x) (h2 : Vc K H b y) (h3 : Vc K H c z) : Rw K H v x y z := ⟨a, b, c, h, h1, h2, h3⟩
theorem Mv.mk {K : PySem.W.Frag} {H : Hp} {v r t : Addr} {x y z s : V3} (h : SqT K H v [.ref r, .ref t]) (h1 : Rw K H r x y z) (h2 : Vc K H t s) : Mv K H v ⟨x, y, z, s⟩ := ⟨r, t, h, h1, h2⟩
end My
namespace My
open PySem L2
section
variable {K : PySem.W.Frag} {H : Hp} {Q : VK}
theorem r_isNi {i : Int} (h : Q (.bl false) H) : rIsNo (.int i) .non H Q := ⟨rfl, h⟩
theorem r_isBi {i : Int} {b : Bool} (h : Q (.bl false) H) : rIsB (.int i) (.bl b) H Q := ⟨b, rfl, h⟩
theorem r_isBr {a : Addr} {b : Bool} (h : Q (.bl false) H) : rIsB (.ref a) (.bl b) H Q := ⟨b, rfl, h⟩
theorem r_lnT {a : Addr} {xs : List V} (h : SqT K H a xs) (q : Q (.int xs.length) H) : rLen K [.ref a] H Q := ⟨a, xs, rfl, .inr h, q⟩
theorem r_lnL {a : Addr} {xs : List V} (h : SqL K H a xs) (q : Q (.int xs.length) H) : rLen K [.ref a] H Q := ⟨a, xs, rfl, .inl h, q⟩
end
end My
namespace My
open PySem L2
/-! an index into a tuple or a list; name op= e; range of two -/
section
variable {X : Cx} {K : PySem.W.Frag} {σ : L2.St} {H : Hp} {D : Ends} {te : TE} {u : TS} {Q : VK} {i : Nat} {x v : V} {ti : TIp}
def rIxA (K : PySem.W.Frag) : R2 := fun x y H Q => rIxT K x y H Q ∨ rIxL K x y H Q
theorem kx_any (h : X.K = K) : IxR X (rIxA K) := h ▸ IxR.or ix_tup ix_list
theorem r_ixAT {p : Addr} {xs : List V} {i : Int} (q : SqT K H p xs) (a : atI xs i = some v) (h : Q v H) : rIxA K (.ref p) (.int i) H Q := .inl (r_ixT q a h)
theorem r_ixAL {p : Addr} {xs : List V} {i : Int} (q : SqL K H p xs) (a : atI xs i = some v) (h : Q v H) : rIxA K (.ref p) (.int i) H Q := .inr (r_ixL q a h)
theorem w_aug (e : σ[i]? = some (some x)) (h : te σ H fun y H1 => ti x y H1 fun z H2 => D.nx (σ.set i (some z)) H2) : tAug i te ti D σ H := ⟨x, e, h⟩
theorem w_seqAug (e : σ[i]? = some (some x)) (h : te σ H fun y H1 => ti x y H1 fun z H2 => u D (σ.set i (some z)) H2) : tSeq (tAug i te ti) u D σ H := ⟨x, e, h⟩
theorem r_ip {f : Int → Int → Int} {i j : Int} (h : Q (.int (f i j)) H) : ipI f (.int i) (.int j) H Q := ⟨i, j, rfl, rfl, h⟩
def iR2 (vs : List V) (H : Hp) (R : It → Hp → Prop) : Prop := ∃ i j : Int, vs = [.int i, .int j] ∧ (-(2 ^ 62) ≤ i ∧ i < 2 ^ 62 ∧ -(2 ^ 62) ≤ j ∧ j < 2 ^ 62) ∧ R (Itr i (j - i).toNat) H
theorem w_iR2 {R : It → Hp → Prop} {t : TA} (h : t σ H fun vs H1 => iR2 vs H1 R) : iRng2 t σ H R := h
theorem r_iR2 {R : It → Hp → Prop} {i j : Int} (h1 : (-1000000 ≤ i ∧ i ≤ 1000000) ∧ (-1000000 ≤ j ∧ j ≤ 1000000)) (h : R (Itr i (j - i).toNat) H) : iR2 [.int i, .int j] H R := ⟨i, j, rfl, by omega, h⟩
end
/-- not the shape of a store -/
def notS : List V → Bool
  | [.ref _, .int _, .int _, .int _, .int _, .int _, .int _] => false
  | _ => true
theorem st_ne {K : PySem.W.Frag} {H : Hp} {s l : Addr} {xs : List V} (st : St K H s) (h : H l = some (.lst xs)) (hx : notS xs = true) : l ≠ s := by
  rintro rfl
  obtain ⟨l', ns, i1, i2, i3, i4, i5, i6, st⟩ := st
  rw [st.at_] at h
  cases h
  cases hx
theorem Fr.seqN {K : PySem.W.Frag} {H H' : Hp} {s a : Addr} {xs : List V} (e : Fr s H H') (st : St K H s) (h : SqL K H a xs) (hx : notS xs = true) : SqL K H' a xs := by
  obtain ⟨l, ns, i1, i2, i3, i4, i5, i6, st⟩ := st
  rcases h with (h | ⟨o, h⟩) | h
  · refine .inl (.inl (e.keep _ _ (fun q => ?_) h))
    rw [q, st.at_] at h
    cases h
    cases hx
  · refine .inl (.inr ⟨o, e.keep _ _ (fun q => ?_) h⟩)
    rw [q, st.at_] at h
    cases h
  · exact .inr h
theorem Fr.lstN {K : PySem.W.Frag} {H H' : Hp} {s a : Addr} {xs : List V} (e : Fr s H H') (st : St K H s) (h : H a = some (.lst xs)) (hx : notS xs = true) : H' a = some (.lst xs) := e.keep _ _ (st_ne st h hx) h
theorem notS_len {xs : List V} (h : (xs.length == 7) = false) : notS xs = true := by
  unfold notS
  split
  · cases h
  · rfl
/-! levels of light -/
structure Lv (u b : Rat) (z r : Int) : Prop where
  lo : 0 ≤ r
  hi : r ≤ z
  le : ((r * r : Int) : Rat) * u ≤ b
  gt : ∀ k : Int, r < k → k ≤ z → b < ((k * k : Int) : Rat) * u
theorem Lv.uniq {u b : Rat} {z r r' : Int} (h : Lv u b z r) (h' : Lv u b z r') : r = r' := by
  rcases Int.lt_trichotomy r r' with q | q | q
  · have := h.gt r' q h'.hi
    have := h'.le
    grind
  · exact q
  · have := h'.gt r q h.hi
    have := h.le
    grind
def LvV (p q : V3) (z r : Int) : Prop := Lv (dt p p * dt q q) (((z * z : Int) : Rat) * (dt p q * dt p q)) z r
theorem dt_comm (p q : V3) : dt p q = dt q p := by
  simp only [dt]
  grind
theorem LvV.sym {p q : V3} {z r : Int} (h : LvV q p z r) : LvV p q z r := by
  unfold LvV at *
  rw [dt_comm q p, Rat.mul_comm (dt q q)] at h
  exact h
theorem LvV.neg {p q : V3} {z r : Int} (h : LvV (sc ((-1 : Int) : Rat) p) q z r) : LvV p q z r := by
  unfold LvV at *
  rw [show ((-1 : Int) : Rat) = -1 by simp] at h
  have e1 : dt (sc (-1) p) (sc (-1) p) = dt p p := by
    simp only [dt, sc]
    grind
  have e2 : dt (sc (-1) p) q * dt (sc (-1) p) q = dt p q * dt p q := by
    simp only [dt, sc]
    grind
  rw [e1, e2] at h
  exact h
theorem sq_nn (x : Rat) : 0 ≤ x * x := by
  rcases (Rat.le_total : (0 : Rat) ≤ x ∨ x ≤ 0) with h | h
  · exact Rat.mul_nonneg h h
  · have e : x * x = (-x) * (-x) := by grind
    rw [e]
    exact Rat.mul_nonneg (by grind) (by grind)
theorem zz_nn (z : Int) (x : Rat) : 0 ≤ ((z * z : Int) : Rat) * (x * x) := by
  rw [Rat.intCast_mul]
  exact Rat.mul_nonneg (sq_nn _) (sq_nn _)
end My
namespace My
open PySem L2
section
variable {K : PySem.W.Frag} {σ : L2.St} {H H' : Hp} {te : TE}
/-- a written ratio -/
theorem SqT.ofRat {p : Addr} {a b : Int} (h : SqT K H p [.int a, .int b]) (hb : 0 < b) (hc : Nat.gcd a.natAbs b.natAbs = 1) : SqT K H p [.int ((a : Rat) / (b : Rat)).num, .int (((a : Rat) / (b : Rat)).den : Int)] := by
  obtain ⟨e1, e2⟩ := num_of (q := (a : Rat) / b) hb hc rfl
  rw [← e1, ← e2]
  exact h
/-- new tuples -/
def TsA (K : PySem.W.Frag) (rows : List (List V)) (acc : List V) (H : Hp) : Prop := Paired (fun v row => ∃ a, v = V.ref a ∧ SqT K H a row) acc rows
theorem TsA.tk {rows : List (List V)} {acc : List V} (e : TK K H H') (h : TsA K rows acc H) : TsA K rows acc H' := by
  unfold TsA at *
  induction h with
  | nil => exact .nil
  | cons r _ ih =>
    obtain ⟨a, e1, e2⟩ := r
    exact .cons ⟨a, e1, e _ _ e2⟩ ih
theorem TsA.snoc {rows : List (List V)} {acc row : List V} {a : Addr} (h : TsA K rows acc H) (q : SqT K H a row) : TsA K (rows ++ [row]) (acc ++ [.ref a]) H := by
  unfold TsA at *
  induction h with
  | nil => exact .cons ⟨a, rfl, q⟩ .nil
  | cons r _ ih => exact .cons r ih
theorem TsA.three {x y z acc : List V} (h : TsA K [x, y, z] acc H) : ∃ a b c : Addr, acc = [.ref a, .ref b, .ref c] ∧ SqT K H a x ∧ SqT K H b y ∧ SqT K H c z := by
  unfold TsA at h
  cases h with
  | cons r1 h =>
    cases h with
    | cons r2 h =>
      cases h with
      | cons r3 h =>
        cases h
        obtain ⟨a, rfl, ha⟩ := r1
        obtain ⟨b, rfl, hb⟩ := r2
        obtain ⟨c, rfl, hc⟩ := r3
        exact ⟨a, b, c, rfl, ha, hb, hc⟩
theorem lc_tupG {a : Addr} {xs : List V} {j : Nat} {vs : List Nat} {Da : Addr} {Qd : Hp → Prop} {G : Hp → Prop} {J : Nat → List V → Hp → Prop} (L : LcG K Da G J) (h0 : G (upd H Da (.lst []))) (hj : J 0 [] (upd H Da (.lst [])))
    (hl : ∀ H1 acc, H1 Da = some (.lst acc) → G H1 → SqT K H1 a xs) (hw : ∀ x, wipe ((wipe σ vs).set j (some x)) vs = wipe σ vs)
    (hs : ∀ i x acc H1, xs[i]? = some x → acc.length = i → H1 Da = some (.lst acc) → G H1 → J i acc H1 → te ((wipe σ vs).set j (some x)) H1 fun y H2 => lcQ Da G J i y H2)
    (hd : ∀ acc H1, acc.length = xs.length → H1 Da = some (.lst acc) → G H1 → J xs.length acc H1 → Qd H1) : lcT (Itt K a) (gName j) tYes te vs σ H Da Qd :=
  lc_tupH G J h0 hj hl hw hs hd
end
end My
namespace My
theorem rat_tri (a b : Rat) : a < b ∨ a = b ∨ b < a := by grind
end My
namespace My
/-! area vectors: sums of cross products along a closed walk -/
def vsb (p q : V3) : V3 := ⟨p.x - q.x, p.y - q.y, p.z - q.z⟩
def vneg (p : V3) : V3 := sc (-1) p
theorem va_comm (p q : V3) : va p q = va q p := by
  apply V3.ext' <;> simp only [va] <;> grind
theorem va_o (p : V3) : va p o3 = p := by
  apply V3.ext' <;> simp only [va, o3] <;> grind
theorem o_va (p : V3) : va o3 p = p := by
  apply V3.ext' <;> simp only [va, o3] <;> grind
theorem cr_self (p : V3) : cr p p = o3 := by
  apply V3.ext' <;> simp only [cr, o3] <;> grind
theorem cr_anti (p q : V3) : cr p q = sc (-1) (cr q p) := by
  apply V3.ext' <;> simp only [cr, sc] <;> grind
theorem sc_va (t : Rat) (p q : V3) : sc t (va p q) = va (sc t p) (sc t q) := by
  apply V3.ext' <;> simp only [va, sc] <;> grind
theorem sc_o (t : Rat) : sc t o3 = o3 := by
  apply V3.ext' <;> simp only [sc, o3] <;> grind
theorem va_neg (p : V3) : va p (sc (-1) p) = o3 := by
  apply V3.ext' <;> simp only [va, sc, o3] <;> grind
/-- the walk from a along the list -/
def path : V3 → List V3 → V3
  | _, [] => o3
  | a, b :: r => va (cr a b) (path b r)
def cyc : List V3 → V3
  | [] => o3
  | a :: r => path a (r ++ [a])
theorem path_mid (a b : V3) (xs ys : List V3) : path a (xs ++ b :: ys) = va (path a (xs ++ [b])) (path b ys) := by
  induction xs generalizing a with
  | nil =>
    show va (cr a b) (path b ys) = va (va (cr a b) o3) (path b ys)
    rw [va_o]
  | cons c r ih =>
    show va (cr a c) (path c (r ++ b :: ys)) = va (va (cr a c) (path c (r ++ [b]))) (path b ys)
    rw [ih, va_assoc]
theorem cyc_rot (xs ys : List V3) : cyc (ys ++ xs) = cyc (xs ++ ys) := by
  cases xs with
  | nil => simp
  | cons a r =>
    cases ys with
    | nil => simp
    | cons b q =>
      show path b ((q ++ a :: r) ++ [b]) = path a ((r ++ b :: q) ++ [a])
      rw [List.append_assoc, List.append_assoc, List.cons_append, List.cons_append, path_mid b a q (r ++ [b]), path_mid a b r (q ++ [a]), va_comm]
theorem path_rev (a b : V3) (xs : List V3) : path b (xs.reverse ++ [a]) = sc (-1) (path a (xs ++ [b])) := by
  induction xs generalizing a with
  | nil =>
    show va (cr b a) o3 = sc (-1) (va (cr a b) o3)
    rw [va_o, va_o, cr_anti]
  | cons c r ih =>
    rw [List.reverse_cons, List.append_assoc]
    show path b (r.reverse ++ c :: [a]) = sc (-1) (va (cr a c) (path c (r ++ [b])))
    rw [path_mid, ih, sc_va]
    show va _ (va (cr c a) o3) = _
    rw [va_o, cr_anti c a, va_comm]
theorem cyc_rev (xs : List V3) : cyc xs.reverse = sc (-1) (cyc xs) := by
  cases xs with
  | nil => exact (sc_o _).symm
  | cons a r =>
    rw [List.reverse_cons, cyc_rot]
    exact path_rev a a r
theorem path_tr (a b v : V3) (xs : List V3) : path (va a v) (xs.map (va · v) ++ [va b v]) = va (path a (xs ++ [b])) (cr v (vsb b a)) := by
  induction xs generalizing a with
  | nil =>
    show va (cr (va a v) (va b v)) o3 = va (va (cr a b) o3) (cr v (vsb b a))
    apply V3.ext' <;> simp only [va, cr, o3, vsb] <;> grind
  | cons c r ih =>
    show va (cr (va a v) (va c v)) (path (va c v) (r.map (va · v) ++ [va b v])) = va (va (cr a c) (path c (r ++ [b]))) (cr v (vsb b a))
    rw [ih]
    generalize path c (r ++ [b]) = w
    apply V3.ext' <;> simp only [va, cr, vsb] <;> grind
theorem cyc_tr (v : V3) (xs : List V3) : cyc (xs.map (va · v)) = cyc xs := by
  cases xs with
  | nil => rfl
  | cons a r =>
    show path (va a v) (r.map (va · v) ++ [va a v]) = path a (r ++ [a])
    rw [path_tr]
    generalize path a (r ++ [a]) = w
    apply V3.ext' <;> simp only [va, cr, vsb] <;> grind
theorem cyc_rep (xs : List V3) (n : Nat) : cyc (List.replicate n xs).flatten = sc (n : Rat) (cyc xs) := by
  cases xs with
  | nil =>
    have e : (List.replicate n ([] : List V3)).flatten = [] := by induction n with
      | zero => rfl
      | succ n ih => rw [List.replicate_succ, List.flatten_cons, ih]; rfl
    rw [e]
    exact (sc_o _).symm
  | cons a r =>
    cases n with
    | zero =>
      show o3 = _
      apply V3.ext' <;> simp only [sc, o3] <;> grind
    | succ n =>
      rw [List.replicate_succ, List.flatten_cons]
      show path a ((r ++ (List.replicate n (a :: r)).flatten) ++ [a]) = sc _ (path a (r ++ [a]))
      induction n with
      | zero =>
        show path a ((r ++ []) ++ [a]) = sc ((0 + 1 : Nat) : Rat) (path a (r ++ [a]))
        rw [List.append_nil]
        apply V3.ext' <;> simp only [sc] <;> grind
      | succ n ih =>
        rw [List.replicate_succ, List.flatten_cons, List.cons_append, List.append_assoc, List.cons_append, path_mid]
        rw [ih]
        generalize path a (r ++ [a]) = w
        apply V3.ext' <;> simp only [sc, va] <;> (rw [Rat.natCast_add (n + 1) 1]; grind)
/-- a part between two corners is cut off -/
theorem cyc_cut (xs m zs : List V3) (p q : V3) : va (cyc (xs ++ [p] ++ q :: zs)) (cyc (p :: m ++ [q])) = cyc (xs ++ p :: m ++ q :: zs) := by
  rw [show xs ++ [p] ++ q :: zs = xs ++ (p :: q :: zs) by simp, show xs ++ p :: m ++ q :: zs = xs ++ (p :: m ++ q :: zs) by simp, ← cyc_rot xs, ← cyc_rot xs]
  show va (path p ((q :: zs ++ xs) ++ [p])) (path p ((m ++ [q]) ++ [p])) = path p (((m ++ q :: zs) ++ xs) ++ [p])
  rw [show ((m ++ q :: zs) ++ xs) ++ [p] = m ++ q :: (zs ++ xs ++ [p]) by simp, show (m ++ [q]) ++ [p] = m ++ q :: [p] by simp, path_mid p q m (zs ++ xs ++ [p]), path_mid p q m [p]]
  show va (va (cr p q) (path q (zs ++ xs ++ [p]))) (va (path p (m ++ [q])) (va (cr q p) o3)) = _
  generalize path q (zs ++ xs ++ [p]) = A
  generalize path p (m ++ [q]) = B
  apply V3.ext' <;> simp only [va, cr, o3] <;> grind
theorem cyc_cut0 (xs zs : List V3) (p : V3) : va (cyc (xs ++ [p] ++ p :: zs)) (cyc [p]) = cyc (xs ++ p :: zs) := by
  rw [show xs ++ [p] ++ p :: zs = xs ++ (p :: p :: zs) by simp, ← cyc_rot xs, ← cyc_rot xs]
  show va (path p ((p :: zs ++ xs) ++ [p])) (va (cr p p) o3) = path p ((zs ++ xs) ++ [p])
  show va (va (cr p p) (path p ((zs ++ xs) ++ [p]))) _ = _
  rw [cr_self, va_o, va_o, o_va]
/-- pair by pair -/
def zsum : List V3 → List V3 → V3
  | a :: as, b :: bs => va (cr a b) (zsum as bs)
  | _, _ => o3
theorem zsum_snoc (as bs : List V3) (a b : V3) (h : as.length = bs.length) : zsum (as ++ [a]) (bs ++ [b]) = va (zsum as bs) (cr a b) := by
  induction as generalizing bs with
  | nil =>
    cases bs with
    | nil =>
      show va (cr a b) o3 = va o3 (cr a b)
      rw [va_o, o_va]
    | cons _ _ => cases h
  | cons c r ih =>
    cases bs with
    | nil => cases h
    | cons d q =>
      show va (cr c d) (zsum (r ++ [a]) (q ++ [b])) = va (va (cr c d) (zsum r q)) (cr a b)
      rw [ih q (by simpa using h), va_assoc]
theorem zsum_path (a z : V3) (r : List V3) : zsum (a :: r) (r ++ [z]) = path a (r ++ [z]) := by
  induction r generalizing a with
  | nil => rfl
  | cons b r ih =>
    show va (cr a b) (zsum (b :: r) (r ++ [z])) = va (cr a b) (path b (r ++ [z]))
    rw [ih]
theorem zsum_cyc (ps : List V3) : zsum ps (ps.drop 1 ++ ps.take 1) = cyc ps := by
  cases ps with
  | nil => rfl
  | cons a r => exact zsum_path a a r
/-- as a fan from the first corner -/
def fan (o : V3) : List V3 → V3
  | a :: b :: r => va (cr (vsb a o) (vsb b o)) (fan o (b :: r))
  | _ => o3
theorem fan_path (o a : V3) (r : List V3) : fan o (a :: r) = path (vsb a o) (r.map (vsb · o)) := by
  induction r generalizing a with
  | nil => rfl
  | cons b r ih =>
    show va (cr (vsb a o) (vsb b o)) (fan o (b :: r)) = va (cr (vsb a o) (vsb b o)) (path (vsb b o) (r.map (vsb · o)))
    rw [ih]
theorem vs_va (p o : V3) : vsb p o = va p (sc (-1) o) := by
  apply V3.ext' <;> simp only [va, sc, vsb] <;> grind
theorem path_o (a : V3) (r : List V3) : path a (r ++ [o3]) = path a r := by
  induction r generalizing a with
  | nil =>
    show va (cr a o3) o3 = o3
    apply V3.ext' <;> simp only [va, cr, o3] <;> grind
  | cons b r ih =>
    show va (cr a b) (path b (r ++ [o3])) = va (cr a b) (path b r)
    rw [ih]
theorem fan_cyc (a : V3) (r : List V3) : fan a r = cyc (a :: r) := by
  have e := cyc_tr (sc (-1) a) (a :: r)
  rw [← e]
  show fan a r = path (va a (sc (-1) a)) (r.map (va · (sc (-1) a)) ++ [va a (sc (-1) a)])
  rw [va_neg, path_o]
  cases r with
  | nil => rfl
  | cons b q =>
    rw [fan_path]
    show _ = va (cr o3 (va b (sc (-1) a))) (path (va b (sc (-1) a)) (q.map (va · (sc (-1) a))))
    rw [show cr o3 (va b (sc (-1) a)) = o3 by apply V3.ext' <;> simp only [va, cr, o3] <;> grind, o_va, vs_va]
    have : (q.map (vsb · a)) = q.map (va · (sc (-1) a)) := by
      apply List.map_congr_left
      intro c _
      exact vs_va c a
    rw [this]
theorem fan_snoc (o : V3) (xs : List V3) (a b : V3) : fan o (xs ++ [a, b]) = va (fan o (xs ++ [a])) (cr (vsb a o) (vsb b o)) := by
  induction xs with
  | nil =>
    show va _ o3 = va o3 _
    rw [va_o, o_va]
  | cons c r ih =>
    cases r with
    | nil =>
      show va (cr (vsb c o) (vsb a o)) (va (cr (vsb a o) (vsb b o)) o3) = va (va (cr (vsb c o) (vsb a o)) o3) (cr (vsb a o) (vsb b o))
      rw [va_o, va_o]
    | cons d q =>
      show va (cr (vsb c o) (vsb d o)) (fan o (d :: q ++ [a, b])) = va (va (cr (vsb c o) (vsb d o)) (fan o (d :: q ++ [a]))) _
      rw [ih, va_assoc]
/-- the area vector -/
def avec (ps : List V3) : V3 := sc (((1 : Int) : Rat) / ((2 : Int) : Rat)) (cyc ps)
end My
namespace My
open PySem L2 PyProof.Rows
/-! lists of vectors -/
section
variable {X : Cx} {K : PySem.W.Frag} {σ : L2.St} {H H' H0 : Hp} {D : Ends} {te ta tb : TE} {Q : VK} {acc acc2 : List V} {ps qs : List V3} {s l a b : Addr}
def VcL (K : PySem.W.Frag) (H : Hp) (acc : List V) (ps : List V3) : Prop := Paired (fun v p => ∃ a : Addr, v = V.ref a ∧ Vc K H a p) acc ps
theorem VcL.nil : VcL K H [] [] := Paired.nil
theorem VcL.tk (e : TK K H H') (h : VcL K H acc ps) : VcL K H' acc ps := Paired.mapP h fun v p ⟨a, e1, e2⟩ => ⟨a, e1, e2.tk e⟩
theorem VcL.len (h : VcL K H acc ps) : acc.length = ps.length := Paired.length h
theorem VcL.get (h : VcL K H acc ps) {i : Nat} {p : V3} (e : ps[i]? = some p) : ∃ a : Addr, acc[i]? = some (.ref a) ∧ Vc K H a p := by
  unfold VcL at h
  induction h generalizing i with
  | nil => simp at e
  | cons r _ ih =>
    cases i with
    | zero =>
      cases e
      obtain ⟨a, rfl, q⟩ := r
      exact ⟨a, rfl, q⟩
    | succ i => exact ih (by simpa using e)
theorem VcL.get' (h : VcL K H acc ps) {i : Nat} {x : V} (e : acc[i]? = some x) : ∃ (a : Addr) (p : V3), x = .ref a ∧ ps[i]? = some p ∧ Vc K H a p := by
  have hl := h.len
  have hi : i < acc.length := (List.getElem?_eq_some_iff.mp e).1
  have e2 : ps[i]? = some ps[i] := List.getElem?_eq_getElem (by omega)
  obtain ⟨a, e3, q⟩ := h.get e2
  rw [e] at e3
  cases e3
  exact ⟨a, _, rfl, e2, q⟩
theorem VcL.append (h : VcL K H acc ps) (h2 : VcL K H acc2 qs) : VcL K H (acc ++ acc2) (ps ++ qs) := by
  unfold VcL at *
  induction h with
  | nil => exact h2
  | cons r _ ih => exact .cons r ih
theorem VcL.one {p : V3} (h : Vc K H a p) : VcL K H [.ref a] [p] := .cons ⟨a, rfl, h⟩ .nil
theorem VcL.snoc {p : V3} (h : VcL K H acc ps) (q : Vc K H a p) : VcL K H (acc ++ [.ref a]) (ps ++ [p]) := h.append (VcL.one q)
theorem VcL.take (h : VcL K H acc ps) (n : Nat) : VcL K H (acc.take n) (ps.take n) := by
  unfold VcL at *
  induction h generalizing n with
  | nil => simpa using Paired.nil
  | cons r _ ih =>
    cases n with
    | zero => exact .nil
    | succ n => exact .cons r (ih n)
theorem VcL.drop (h : VcL K H acc ps) (n : Nat) : VcL K H (acc.drop n) (ps.drop n) := by
  unfold VcL at *
  induction h generalizing n with
  | nil => simpa using Paired.nil
  | cons r t ih =>
    cases n with
    | zero => exact .cons r t
    | succ n => exact ih n
theorem VcL.reverse (h : VcL K H acc ps) : VcL K H acc.reverse ps.reverse := by
  unfold VcL at *
  induction h with
  | nil => exact .nil
  | cons r _ ih =>
    rw [List.reverse_cons, List.reverse_cons]
    exact VcL.append ih (.cons r .nil)
theorem VcL.rep (h : VcL K H acc ps) (n : Nat) : VcL K H (List.replicate n acc).flatten (List.replicate n ps).flatten := by
  induction n with
  | zero => exact .nil
  | succ n ih =>
    rw [List.replicate_succ, List.replicate_succ, List.flatten_cons, List.flatten_cons]
    exact h.append ih
theorem VcL.notS (h : VcL K H acc ps) : notS acc = true := by
  unfold VcL at h
  cases h with
  | nil => rfl
  | cons r t =>
    cases t with
    | nil =>
      obtain ⟨a, rfl, _⟩ := r
      rfl
    | cons r2 t =>
      obtain ⟨a, rfl, _⟩ := r
      obtain ⟨a2, rfl, _⟩ := r2
      rfl
theorem VcL.dp (h : VcL K H acc ps) : DpAll K H acc (ps.map vD) := by
  unfold VcL at h
  induction h with
  | nil => exact .nil
  | cons r _ ih =>
    obtain ⟨a, rfl, q⟩ := r
    exact .cons q.dp ih
def VL (K : PySem.W.Frag) (H : Hp) (l : Addr) (ps : List V3) : Prop := ∃ acc, H l = some (.lst acc) ∧ VcL K H acc ps
theorem VL.same (e : Same H H') (h : VL K H l ps) : VL K H' l ps := by
  obtain ⟨acc, h1, h2⟩ := h
  exact ⟨acc, e _ _ h1, h2.tk (TK.same e)⟩
theorem VL.fr (e : Fr s H H') (st : St K H s) (h : VL K H l ps) : VL K H' l ps := by
  obtain ⟨acc, h1, h2⟩ := h
  exact ⟨acc, e.keep _ _ (st_ne st h1 h2.notS) h1, h2.tk (TK.fr e st)⟩
theorem VL.dp (h : VL K H l ps) : Dp K H (.ref l) (.list (ps.map vD)) := by
  obtain ⟨acc, h1, h2⟩ := h
  exact .lst (SqL.of h1) h2.dp
/-! slices -/
def ptP (x : V) (H : Hp) (Q : Option Int → Hp → Prop) : Prop := ∃ i, x = .int i ∧ Q (some i) H
theorem w_np {Q : Option Int → Hp → Prop} (h : Q none H) : tNoPart σ H Q := h
theorem w_pt {Q : Option Int → Hp → Prop} (h : te σ H fun x H1 => ptP x H1 Q) : tPart te σ H Q := h
theorem r_ptP {Q : Option Int → Hp → Prop} {i : Int} (h : Q (some i) H) : ptP (.int i) H Q := ⟨i, rfl, h⟩
theorem w_sl {r : V → Option Int → Option Int → Hp → VK → Prop} {tl th : TO} (h : te σ H fun x H1 => tl σ H1 fun l H2 => th σ H2 fun u H3 => r x l u H3 Q) : tSl r te tl th σ H Q := h
def cutP (ps : List V3) (lo hi : Option Int) : List V3 := (ps.drop (HT.sIx ps.length 0 lo)).take (HT.sIx ps.length ps.length hi - HT.sIx ps.length 0 lo)
theorem r_slV {lo hi : Option Int} (q : VL K H a ps) (h : ∀ p H1, H p = none → Same H H1 → VL K H1 p (cutP ps lo hi) → Q (.ref p) H1) : rSlL K (.ref a) lo hi H Q := by
  obtain ⟨acc, h1, h2⟩ := q
  refine ⟨a, acc, rfl, SqL.of h1, fun p np => h p _ np (Same.new np) ⟨_, upd_same, ?_⟩⟩
  unfold cutV cutP
  rw [h2.len]
  exact ((h2.drop _).take _).tk (TK.same (Same.new np))
theorem cut_from {i : Int} (k : Nat) (e : i = (k : Int)) : cutP ps (some i) none = ps.drop k := by
  subst e
  unfold cutP
  rw [HT.sIx_nat, HT.sIx_none]
  rcases Nat.le_total k ps.length with h | h
  · rw [Nat.min_eq_left h, List.take_of_length_le (by simp)]
  · rw [Nat.min_eq_right h, List.drop_of_length_le h]
    simp
theorem cut_to {i : Int} (k : Nat) (e : i = (k : Int)) : cutP ps none (some i) = ps.take k := by
  subst e
  unfold cutP
  rw [HT.sIx_nat, HT.sIx_none, List.drop_zero, Nat.sub_zero]
  rcases Nat.le_total k ps.length with h | h
  · rw [Nat.min_eq_left h]
  · rw [Nat.min_eq_right h, List.take_of_length_le (Nat.le_refl _), List.take_of_length_le h]
theorem cut_ft {i j : Int} (k m : Nat) (e : i = (k : Int)) (e2 : j = (m : Int)) : cutP ps (some i) (some j) = (ps.take m).drop k := by
  subst e
  subst e2
  unfold cutP
  rw [HT.sIx_nat, HT.sIx_nat, List.drop_take]
  rcases Nat.le_total k ps.length with h | h
  · rw [Nat.min_eq_left h]
    rcases Nat.le_total m ps.length with h2 | h2
    · rw [Nat.min_eq_left h2]
    · rw [Nat.min_eq_right h2, List.take_of_length_le (by simp), List.take_of_length_le (by simp; omega)]
  · rw [List.drop_of_length_le (by omega), List.drop_of_length_le h]
    simp
/-! xs[::-1] -/
def rRev (K : PySem.W.Frag) : V → Option Int → Hp → VK → Prop := fun x o H Q => o = some (-1) ∧ ∃ a xs, x = .ref a ∧ SqL K H a xs ∧ ∀ p, H p = none → Q (.ref p) (upd H p (.lst xs.reverse))
def tRev (K : PySem.W.Frag) (te : TE) (th : TO) : TE := fun σ H Q => te σ H fun x H1 => th σ H1 fun o H2 => rRev K x o H2 Q
theorem pe_rev (hK : X.K = K) {e st : Expr} {th : TO} {pos p2 : Pos} (he : PE X e te) (hst : PO X (some st) th) : PE X (.Subscript e (.Slice none none (some st) p2) pos) (tRev K te th) := by
  subst hK
  refine ⟨fun pins s σ H Q I h => ?_⟩
  refine Subscript_ (thn (he.run pins s σ H _ I h) fun v s1 ⟨x, H1, I1, r1, q1⟩ => ?_)
  refine wpAny_Slice ?_
  rw [evalPart_none]
  refine wpAny_pure ?_
  refine wpAny_pure ?_
  refine thn (hst.run pins s1 σ H1 _ I1 q1) fun vk s3 ⟨o, H3, I3, pk, ho, a, xs, hx, hq, q3⟩ => ?_
  subst ho
  subst hx
  cases r1
  have I4 : Inv X pins σ H3 { s3 with heap := s3.heap.push { cls := .type "slice", data := .fields #[.none, .none, vk] } } := I3.kept (t' := s3.toks) fun b ob q => Heap.get?_push_of_some _ q
  obtain ⟨its, r, ht, hz⟩ := I4.list hq
  have hlen := r.length
  refine tail_any (ops := [.ref a, .ref s3.heap.objs.size]) ht.isList.typeIs slot_list_getitem.lookup ?_ (by with_unfolding_all rfl)
  refine wpAny_getItem_list_slice ht.isList (Heap.IsSliceOf.new ..) .none .none pk (by decide) ?_ (by rw [List.size_toArray] <;> omega)
  rw [PySem.W.krv_pick]
  refine ⟨.ref _, _, I4.laid (t' := s3.toks) (o := .lst xs.reverse) (fun b ob q => Heap.get?_push_of_some _ q) (Nat.le_refl _) ?_, rfl, q3 _ (I4.hok.fresh (Nat.le_refl _))⟩
  exact ⟨by rw [List.length_reverse]; omega, _, 0, by simpa using r.reverse, Heap.get?_push_size _ rfl⟩
theorem w_rev {th : TO} (h : te σ H fun x H1 => th σ H1 fun o H2 => rRev K x o H2 Q) : tRev K te th σ H Q := h
theorem r_revV (q : VL K H a ps) (h : ∀ p H1, H p = none → Same H H1 → VL K H1 p ps.reverse → Q (.ref p) H1) : rRev K (.ref a) (some (-1)) H Q := by
  obtain ⟨acc, h1, h2⟩ := q
  exact ⟨rfl, a, acc, rfl, SqL.of h1, fun p np => h p _ np (Same.new np) ⟨_, upd_same, h2.reverse.tk (TK.same (Same.new np))⟩⟩
/-! a + b, a * k, list(a), append, truth -/
theorem r_catV (q : VL K H a ps) (q2 : VL K H b qs) (hn : ps.length + qs.length ≤ 100000) (h : ∀ p H1, H p = none → Same H H1 → VL K H1 p (ps ++ qs) → Q (.ref p) H1) : rCat (.ref a) (.ref b) H Q := by
  obtain ⟨acc, h1, h2⟩ := q
  obtain ⟨acc2, h3, h4⟩ := q2
  refine ⟨a, b, acc, acc2, rfl, rfl, h1, h3, ?_, fun p np => h p _ np (Same.new np) ⟨_, upd_same, (h2.append h4).tk (TK.same (Same.new np))⟩⟩
  rw [h2.len, h4.len]
  exact Nat.le_trans hn (by decide)
theorem r_repV {k : Int} (q : VL K H a ps) (hk : 0 ≤ k ∧ k ≤ 1000) (hn : ps.length ≤ 100) (h : ∀ p H1, H p = none → Same H H1 → VL K H1 p (List.replicate k.toNat ps).flatten → Q (.ref p) H1) : rRep (.ref a) (.int k) H Q := by
  obtain ⟨acc, h1, h2⟩ := q
  refine ⟨a, k, acc, rfl, rfl, h1, by omega, by omega, ?_, fun p np => h p _ np (Same.new np) ⟨_, upd_same, (h2.rep _).tk (TK.same (Same.new np))⟩⟩
  rw [h2.len]
  have : ps.length * k.toNat ≤ 100 * 1000 := Nat.mul_le_mul hn (by omega)
  exact Nat.le_trans this (by decide)
theorem r_lstV (q : VL K H a ps) (h : ∀ p H1, H p = none → Same H H1 → VL K H1 p ps → Q (.ref p) H1) : rLst K [.ref a] H Q := by
  obtain ⟨acc, h1, h2⟩ := q
  exact r_lstL (SqL.of h1) fun p H1 np e hp => h p H1 np e ⟨_, hp, h2.tk (TK.same e)⟩
theorem r_lenV (q : VL K H a ps) (h : Q (.int (ps.length : Int)) H) : rLen K [.ref a] H Q := by
  obtain ⟨acc, h1, h2⟩ := q
  exact r_lenL' (SqL.of h1) (h2.len ▸ h)
theorem r_ixV {i : Int} {k : Nat} {p : V3} (q : VL K H a ps) (e : i = (k : Int)) (e2 : ps[k]? = some p) (h : ∀ x : Addr, Vc K H x p → Q (.ref x) H) : rIxL K (.ref a) (.int i) H Q := by
  subst e
  obtain ⟨acc, h1, h2⟩ := q
  obtain ⟨x, e3, v⟩ := h2.get e2
  exact r_ixL (SqL.of h1) (atI_nat e3) (h x v)
theorem r_ixVe {p : V3} (q : VL K H a (ps ++ [p])) (h : ∀ x : Addr, Vc K H x p → Q (.ref x) H) : rIxL K (.ref a) (.int (-1)) H Q := by
  obtain ⟨acc, h1, h2⟩ := q
  have hl := h2.len
  obtain ⟨x, e3, v⟩ := h2.get (i := ps.length) (p := p) (by simp)
  rcases List.eq_nil_or_concat acc with rfl | ⟨l, z, rfl⟩
  · simp at hl
  · rw [List.concat_eq_append] at h1 h2 hl e3
    rw [List.length_append, List.length_append] at hl
    have e4 : l.length = ps.length := by simpa using hl
    rw [← e4] at e3
    have e5 : z = .ref x := by simpa using e3
    subst e5
    exact r_ixL (SqL.of h1) (atI_last l _) (h x v)
/-- an own list grows -/
theorem r_appV {p : V3} (nl : H0 l = none) (e : Same H0 H) (q : VL K H l ps) (hv : Vc K H b p) (hz : ps.length < 100000)
    (h : ∀ H1, Same H0 H1 → TK K H H1 → VL K H1 l (ps ++ [p]) → Q .non H1) : rAppend (.ref l) [.ref b] H Q := by
  obtain ⟨acc, h1, h2⟩ := q
  have hl := h2.len
  exact r_app h1 (by omega) (h _ (Same.mut e nl) (TK.upd h1) ⟨_, upd_same, (h2.snoc hv).tk (TK.upd h1)⟩)
theorem r_appG {p : V3} (nl : H0 l = none) (st0 : St K H0 s) (e : Fr s H0 H) (st : St K H s) (q : VL K H l ps) (hv : Vc K H b p) (hz : ps.length < 100000)
    (h : ∀ H1, Fr s H0 H1 → St K H1 s → TK K H H1 → VL K H1 l (ps ++ [p]) → Q .non H1) : rAppend (.ref l) [.ref b] H Q := by
  obtain ⟨acc, h1, h2⟩ := q
  have hl := h2.len
  exact r_app h1 (by omega) (h _ (Fr.mut e nl st0.some) (St.mut st0 e st nl) (TK.upd h1) ⟨_, upd_same, (h2.snoc hv).tk (TK.upd h1)⟩)
def truP (K : PySem.W.Frag) (x : V) (H : Hp) (Q : Bool → Hp → Prop) : Prop := ∃ k, TruV K x H k ∧ Q k H
def tTru (K : PySem.W.Frag) (ta : TE) : TT := fun σ H Q => ta σ H fun x H' => truP K x H' Q
theorem kt_truth (hK : X.K = K) {e : Expr} (ha : PE X e ta) (he : ∀ whole, isTrue e X.env whole = (do let v ← whole; standAt e.pos; holding [v] (truthy v))) : PT X e (tTru K ta) := by
  subst hK
  exact pt_truth ha he
theorem w_tru {Q : Bool → Hp → Prop} (h : ta σ H fun x H' => truP K x H' Q) : tTru K ta σ H Q := h
theorem r_truV {Q : Bool → Hp → Prop} (q : VL K H a ps) (h : Q (!ps.isEmpty) H) : truP K (.ref a) H Q := by
  obtain ⟨acc, h1, h2⟩ := q
  refine ⟨_, .inl ⟨acc, SqL.of h1, rfl⟩, ?_⟩
  have e : acc.isEmpty = ps.isEmpty := by
    have := h2.len
    cases acc <;> cases ps <;> simp_all
  rw [e]
  exact h
/-! zip of two lists of vectors -/
def zipP (K : PySem.W.Frag) (vs : List V) (H1 : Hp) (R : It → Hp → Prop) : Prop := ∃ a b xs ys, vs = [.ref a, .ref b] ∧ ((SqL K H1 a xs ∧ SqL K H1 b ys ∧ R (Itz K a b) H1) ∨ (SqT K H1 a xs ∧ SqT K H1 b ys ∧ R (RZ.ItzT K a b) H1))
theorem kp_zip (hK : X.K = K) {e e2 : Expr} {ta : TA} {p pos tpos : Pos} {elts : List Expr} {kk : Nat} (hg : Gl X "zip") (hm : X.mg "zip" = none) (ha : PA X [e, e2] ta)
    (hs : starEach [e, e2] X.env = (false, eval e X.env) :: starEach [e2] X.env := by rfl) (hpl : (backTo pos (starEach [e2] X.env)).any (·.1) = false := by rfl) :
    PI X (.Tuple elts kk tpos) (.Call (.Name "zip" p) [e, e2] [] pos) (RZ.iZipA K ta) := by
  subst hK
  exact RZ.pi_zipA hg hm ha hs hpl
theorem w_zip {ta : TA} {R : It → Hp → Prop} (h : ta σ H fun vs H1 => zipP K vs H1 R) : RZ.iZipA K ta σ H R := h
theorem r_zipV {R : It → Hp → Prop} (q : VL K H a ps) (q2 : VL K H b qs) (h : R (Itz K a b) H) : zipP K [.ref a, .ref b] H R := by
  obtain ⟨acc, h1, h2⟩ := q
  obtain ⟨acc2, h3, h4⟩ := q2
  exact ⟨a, b, acc, acc2, rfl, .inl ⟨SqL.of h1, SqL.of h3, h⟩⟩
theorem f_zipV {g : TG} {t : TS} (hl : ps.length = qs.length) (ha : VL K H a ps) (hb : VL K H b qs) (Pv : Nat → L2.St → Hp → Prop) (h0 : Pv 0 σ H) (hq : ∀ i σ H', Pv i σ H' → Same H H')
    (hs : ∀ (i : Nat) (p q : V3) (x y T : Addr) (σ : L2.St) (H1 H2 : Hp), ps[i]? = some p → qs[i]? = some q → Pv i σ H1 → Same H1 H2 → H2 T = some (.tup [.ref x, .ref y]) → Vc K H2 x p → Vc K H2 y q → g (.ref T) σ H2 fun σ2 H3 => t { D with nx := Pv (i + 1), ct := Pv (i + 1), bk := D.nx } σ2 H3) (hd : ∀ σ H, Pv ps.length σ H → D.nx σ H) : forT (Itz K a b) g t D σ H := by
  obtain ⟨acc, h1, h2⟩ := ha
  obtain ⟨acc2, h3, h4⟩ := hb
  have l1 := h2.len
  have l2 := h4.len
  refine RZ.for_zipL (xs := acc) (ys := acc2) (by omega) Pv h0 (fun i σ H' p => ⟨SqL.of (hq i σ H' p _ _ h1), SqL.of (hq i σ H' p _ _ h3)⟩) ?_ (fun σ H' p => hd σ H' (l1 ▸ p))
  intro i x y T σ H1 ex ey p nT
  have e := hq i σ H1 p
  obtain ⟨a1, p1, rfl, e1, v1⟩ := (h2.tk (TK.same e)).get' ex
  obtain ⟨a2, p2, rfl, e2, v2⟩ := (h4.tk (TK.same e)).get' ey
  have n := Same.new (o := .tup [.ref a1, .ref a2]) nT
  exact hs i p1 p2 a1 a2 T σ H1 _ e1 e2 p n upd_same (v1.same n) (v2.same n)
end
end My

namespace My
open PySem L2
theorem ti_vl {n : Nat} (ps : List V3) (h : ps.length ≤ 1000) : TI (n + 4) (.list (ps.map vD)) := by
  refine ⟨by simpa using h, fun d hd => ?_⟩
  obtain ⟨p, _, rfl⟩ := List.mem_map.mp hd
  exact ti_v p
end My

namespace My
open PySem L2
theorem VN.vs {n d n' d' : Nat} {p q : V3} (hp : VN n d p) (hq : VN n' d' q) : VN (n + n' + d + d' + 1) (d + d') (vsb p q) := ⟨hp.x.sub hq.x, hp.y.sub hq.y, hp.z.sub hq.z⟩
theorem VL.tyx {K : PySem.W.Frag} {H : Hp} {a : Addr} {ps : List V3} (h : VL K H a ps) : TyX K H (.ref a) (.type "list") := by
  obtain ⟨acc, h1, _⟩ := h
  exact SqL.tyx (SqL.of h1)
theorem fan_self (a : V3) (r : List V3) : fan a (a :: r) = fan a r := by
  cases r with
  | nil => rfl
  | cons b q =>
    show va (cr (vsb a a) (vsb b a)) (fan a (b :: q)) = _
    rw [show cr (vsb a a) (vsb b a) = o3 by apply V3.ext' <;> simp only [vsb, cr, o3] <;> grind, o_va]
theorem fan_all (a : V3) (r : List V3) : fan a (a :: r) = cyc (a :: r) := (fan_self a r).trans (fan_cyc a r)
theorem zsum_step {ps qs : List V3} {i : Nat} {p q : V3} (h1 : ps[i]? = some p) (h2 : qs[i]? = some q) : zsum (ps.take (i + 1)) (qs.take (i + 1)) = va (zsum (ps.take i) (qs.take i)) (cr p q) := by
  obtain ⟨l1, e1⟩ := List.getElem?_eq_some_iff.mp h1
  obtain ⟨l2, e2⟩ := List.getElem?_eq_some_iff.mp h2
  rw [List.take_succ_eq_append_getElem l1, List.take_succ_eq_append_getElem l2, e1, e2]
  exact zsum_snoc _ _ _ _ (by simp; omega)
theorem fan_step {ps : List V3} {o a b : V3} {i : Nat} (h1 : ps[i + 1]? = some a) (h2 : ps[i + 2]? = some b) : fan o (ps.take (i + 3)) = va (fan o (ps.take (i + 2))) (cr (vsb a o) (vsb b o)) := by
  obtain ⟨l1, e1⟩ := List.getElem?_eq_some_iff.mp h1
  obtain ⟨l2, e2⟩ := List.getElem?_eq_some_iff.mp h2
  rw [List.take_succ_eq_append_getElem l2, List.take_succ_eq_append_getElem l1, e1, e2, List.append_assoc]
  exact fan_snoc _ _ _ _
theorem fan_two (o b : V3) : fan o [o, b] = o3 := by
  rw [fan_self]
  rfl
theorem cyc_one (a : V3) : cyc [a] = o3 := by
  show va (cr a a) o3 = o3
  rw [cr_self, va_o]
theorem B.pow10 {r : Int} {m : Nat} (h0 : 0 ≤ r) (h1 : r ≤ 10 ^ m) (hm : m ≤ 40) : B 134 r := B.rng (by omega) (Int.lt_of_le_of_lt (Int.le_trans h1 (p10 hm)) (by decide))
end My
namespace My
theorem VN.o3 : VN 1 1 o3 := ⟨⟨B.lit (by decide +kernel), B.lit (by decide +kernel)⟩, ⟨B.lit (by decide +kernel), B.lit (by decide +kernel)⟩, ⟨B.lit (by decide +kernel), B.lit (by decide +kernel)⟩⟩
theorem z3 : (⟨((0 : Int) : Rat), ((0 : Int) : Rat), ((0 : Int) : Rat)⟩ : V3) = My.o3 := by simp [My.o3]
theorem get_mem {α : Type} {xs : List α} {i : Nat} {x : α} (h : xs[i]? = some x) : x ∈ xs := List.mem_of_getElem? h
end My
namespace My
open PySem L2
theorem r_bmV {K : PySem.W.Frag} {H : Hp} {l : Addr} {ps : List V3} {P : Prop} (h : VL K H l ps) (p : P) : bmP K "list" (.ref l) H P := by
  obtain ⟨acc, h1, _⟩ := h
  exact r_bmL (SqL.of h1) p
theorem ne_snoc {α : Type} {ps : List α} (h : ps.isEmpty = false) : ∃ qs q, ps = qs ++ [q] := by
  rcases List.eq_nil_or_concat ps with rfl | ⟨qs, q, e⟩
  · cases h
  · exact ⟨qs, q, by rw [e, List.concat_eq_append]⟩
theorem all_snoc {α : Type} {P : α → Prop} {ps : List α} {q : α} (h : ∀ p, p ∈ ps → P p) (hq : P q) : ∀ p, p ∈ ps ++ [q] → P p := fun p hp => by
  rcases List.mem_append.mp hp with z | z
  · exact h p z
  · rw [List.mem_singleton.mp z]
    exact hq
end My
namespace My
theorem BN.m1 {n d : Nat} {q : Rat} (h : BN n d q) : BN n d (((-1 : Int) : Rat) * q) := by
  rw [show ((-1 : Int) : Rat) * q = -q by rw [show ((-1 : Int) : Rat) = -1 by simp]; grind]
  exact h.neg
theorem VN.m1 {n d : Nat} {p : V3} (h : VN n d p) : VN n d (My.sc ((-1 : Int) : Rat) p) := ⟨h.x.m1, h.y.m1, h.z.m1⟩
theorem avec_rot (ps : List V3) (a : Nat) : avec (ps.drop a ++ ps.take a) = avec ps := by
  unfold avec
  rw [cyc_rot, List.take_append_drop]
theorem avec_tr (ps : List V3) (v : V3) : avec (ps.map (va · v)) = avec ps := by
  unfold avec
  rw [cyc_tr]
theorem sc_sc (s t : Rat) (p : V3) : sc s (sc t p) = sc (s * t) p := by
  apply V3.ext' <;> simp only [sc] <;> grind
theorem avec_rev (ps : List V3) : avec ps.reverse = sc ((-1 : Int) : Rat) (avec ps) := by
  unfold avec
  rw [cyc_rev, show ((-1 : Int) : Rat) = -1 by simp, sc_sc, sc_sc, Rat.mul_comm]
theorem avec_rep (ps : List V3) (m : Int) (hm : 0 ≤ m) : avec (List.replicate m.toNat ps).flatten = sc (m : Rat) (avec ps) := by
  obtain ⟨n, rfl⟩ := Int.eq_ofNat_of_zero_le hm
  unfold avec
  rw [cyc_rep, sc_sc, sc_sc, Rat.mul_comm]
  rfl
theorem avec_split (ps : List V3) (a u : Nat) (h1 : a ≤ ps.length) (h2 : a ≤ u) (h3 : u ≤ max a (ps.length - 1)) : va (avec (ps.take (a + 1) ++ ps.drop u)) (avec ((ps.take (u + 1)).drop a)) = avec ps := by
  unfold avec
  rw [← sc_va]
  congr 1
  rcases Nat.lt_or_ge a ps.length with h | h
  · have e1 : ps = ps.take a ++ ps[a] :: ps.drop (a + 1) := by
      rw [← List.drop_eq_getElem_cons h, List.take_append_drop]
    have hu : u < ps.length := by omega
    rcases Nat.lt_or_ge a u with hau | hau
    · have e2 : ps.drop (a + 1) = (ps.drop (a + 1)).take (u - (a + 1)) ++ ps[u] :: ps.drop (u + 1) := by
        rw [← List.drop_eq_getElem_cons hu]
        have e3 := (List.take_append_drop (u - (a + 1)) (ps.drop (a + 1))).symm
        rw [List.drop_drop, show a + 1 + (u - (a + 1)) = u by omega] at e3
        exact e3
      have e4 : ps.take (a + 1) = ps.take a ++ [ps[a]] := List.take_succ_eq_append_getElem h
      have e5 : ps.drop u = ps[u] :: ps.drop (u + 1) := List.drop_eq_getElem_cons hu
      have e6 : (ps.take (u + 1)).drop a = ps[a] :: (ps.drop (a + 1)).take (u - (a + 1)) ++ [ps[u]] := by
        rw [List.drop_take, List.drop_eq_getElem_cons h, show u + 1 - a = (u - (a + 1) + 1) + 1 by omega, List.take_succ_cons, List.cons_append]
        congr 1
        rw [List.take_succ_eq_append_getElem (by simp; omega)]
        congr 2
        rw [List.getElem_drop]
        congr 1
        omega
      rw [e4, e5, e6]
      have c := cyc_cut (ps.take a) ((ps.drop (a + 1)).take (u - (a + 1))) (ps.drop (u + 1)) ps[a] ps[u]
      rw [c]
      congr 1
      conv => rhs; rw [e1, e2]
      simp
    · have eu : u = a := by omega
      subst eu
      have e4 : ps.take (u + 1) = ps.take u ++ [ps[u]] := List.take_succ_eq_append_getElem h
      have e6 : (ps.take (u + 1)).drop u = [ps[u]] := by
        rw [List.drop_take, List.drop_eq_getElem_cons h, show u + 1 - u = 1 by omega]
        rfl
      rw [e4, ← e4, e6, e4, List.drop_eq_getElem_cons h]
      have c := cyc_cut0 (ps.take u) (ps.drop (u + 1)) ps[u]
      rw [c]
      congr 1
      exact e1.symm
  · have ea : a = ps.length := by omega
    have eu : u = ps.length := by omega
    subst ea
    subst eu
    rw [List.take_of_length_le (by omega), List.drop_of_length_le (Nat.le_refl _), List.append_nil]
    exact va_o _
end My
namespace My
open PySem L2 PyProof.Rows
/-! zip of a tuple and a list -/
def ItzM (K : PySem.W.Frag) (a b : Addr) : It where
  go := fun n H => ∃ (xs ys : List V) (x y : V), SqT K H a xs ∧ SqL K H b ys ∧ xs[n]? = some x ∧ ys[n]? = some y
  yld := fun n H v H' => ∃ T x y, v = .ref T ∧ H T = none ∧ H' = upd H T (.tup [x, y]) ∧ (∀ xs, SqT K H a xs → xs[n]? = some x) ∧ ∀ ys, SqL K H b ys → ys[n]? = some y
  stop := fun n H => ∃ xs ys : List V, SqT K H a xs ∧ SqL K H b ys ∧ (xs.length ≤ n ∨ ys.length ≤ n) ∧ n ≤ xs.length ∧ n ≤ ys.length
structure ZpM (a b z TI TO i1 i2 : Addr) (n : Nat) (h : Heap) : Prop where
  zp : IsZip h z TI TO .none
  pi : IsTupOf2 h TI (.ref i1) (.ref i2)
  po : ∃ x y, IsTupOf2 h TO x y
  t1 : h.IsTupleIter i1 a n
  t2 : h.IsListIter i2 b n
theorem zm_sep {a b z TI TO i1 i2 : Addr} (D : ZipApart z TI TO i1 i2 a b) : ZipSep2 z TI TO i1 i2 [i1, a] [i2, b] where
  TIz := D.TIz
  TOz := D.TOz
  TITO := D.TITO
  TIi1 := D.TIi1
  mem1 := by simp
  zf1 := by simp [D.i1z.symm, D.l1z.symm]
  Tf1 := by simp [D.TOi1, D.l1TO.symm]
  TIi2 := D.TIi2
  mem2 := by simp
  zf2 := by simp [D.i2z.symm, D.l2z.symm]
  Tf2 := by simp [D.TOi2, D.l2TO.symm]
  sep1_2 := by simp [D.i12, D.l2i1.symm]
  sep2_1 := by simp [D.i12.symm, D.l1i2.symm]
theorem five {α : Type} {c z TI TO i1 i2 : α} {P : Prop} (h : c ∈ [z, TI, TO, i1, i2]) (h1 : c = z → P) (h2 : c = TI → P) (h3 : c = TO → P) (h4 : c = i1 → P) (h5 : c = i2 → P) : P := by
  simp only [List.mem_cons, List.not_mem_nil, or_false] at h
  rcases h with h | h | h | h | h
  · exact h1 h
  · exact h2 h
  · exact h3 h
  · exact h4 h
  · exact h5 h
theorem off4 {c z TI TO i1 i2 : Addr} (h : c ∉ [z, TI, TO, i1, i2]) : c ≠ z ∧ c ≠ TO ∧ c ≠ i1 ∧ c ≠ i2 := by
  simp only [List.mem_cons, List.not_mem_nil, or_false, not_or] at h
  exact ⟨h.1, h.2.2.1, h.2.2.2.1, h.2.2.2.2⟩
theorem turn_zipM {P : Program} {w : World} {K : PySem.W.Frag} {elts : List Expr} {kk : Nat} {tp : Pos} {a b z TI TO i1 i2 : Addr} (D : ZipApart z TI TO i1 i2 a b) :
    Turn P w K (.Tuple elts kk tp) (ItzM K a b) [z, TI, TO, i1, i2] z (ZpM a b z TI TO i1 i2) := by
  have S := zm_sep D
  refine { mem := List.mem_cons_self .., obj := ?_, keep := ?_, item := ?_, done := ?_, self := fun A n s Q E q r => wpAny_pyIter_zip q.zp r }
  · intro n h q c hc
    obtain ⟨o1, g1, _, d1⟩ := q.t1
    obtain ⟨o2, g2, _, d2⟩ := q.t2
    obtain ⟨x, y, po⟩ := q.po
    refine five hc (fun e => e ▸ ⟨_, q.zp, ?_⟩) (fun e => e ▸ ⟨_, q.pi, ?_⟩) (fun e => e ▸ ⟨_, po, ?_⟩) (fun e => e ▸ ⟨o1, g1, ?_⟩) (fun e => e ▸ ⟨o2, g2, ?_⟩)
    all_goals
      intro v y
      first | cases y | (rw [d1] at y; cases y) | (rw [d2] at y; cases y)
  · intro n h h' q hk
    obtain ⟨x, y, po⟩ := q.po
    exact ⟨hk z (by simp) _ q.zp, hk TI (by simp) _ q.pi, ⟨x, y, hk TO (by simp) _ po⟩, q.t1.at fun o e => hk i1 (by simp) o e, q.t2.at fun o e => hk i2 (by simp) o e⟩
  · rintro X rfl rfl rfl hc n pins s σ H E I hf q ⟨xs, ys, x, y, qx, qy, hx, hy⟩
    obtain ⟨us, ru, tu, _⟩ := I.tuple qx
    obtain ⟨ws, rw', tw, _⟩ := I.list qy
    have tu' : s.heap.IsTuple a us.toArray := tu
    obtain ⟨u, hu, vu⟩ := ru.get hx
    obtain ⟨t, ht, vt⟩ := rw'.get hy
    obtain ⟨x0, y0, po⟩ := q.po
    have l1 := (List.getElem?_eq_some_iff.mp hu).1
    have l2 := (List.getElem?_eq_some_iff.mp ht).1
    have hh : X.A.in1.handled = none := I.ok.hd hc
    have zlt : z < s.heap.objs.size := Heap.lt_size q.zp
    refine wpAny_pyNext_zipD2_item S (Draws.tuple hh i1 a D.l1i1 us.toArray) (Draws.list hh i2 b D.l2i2 ws.toArray) q.zp q.pi po ⟨q.t1, tu'⟩ ⟨q.t2, tw.isList⟩ (by simpa using l1) (by simpa using l2)
      (fun y1 y2 h1 tk p1 p2 z1 o1 s1 s2 hT _ hk => ⟨_, rfl, wpAny_letOwnedTupleGo_zip (s := { s with heap := h1, toks := tk }) z1 fun h2 z2 sb => ?_⟩)
    have e1 : y1 = u := by
      have p1 : us.toArray[n]? = some y1 := p1
      rw [List.getElem?_toArray, hu] at p1
      exact (Option.some.inj p1).symm
    have e2 : y2 = t := by
      have p2 : ws.toArray[n]? = some y2 := p2
      rw [List.getElem?_toArray, ht] at p2
      exact (Option.some.inj p2).symm
    subst e1 e2
    have gT : IsTupOf2 h2 s.heap.objs.size y1 y2 := (sb.2 _ (Nat.ne_of_gt zlt)).trans hT
    have nw : ObjOk X.prog X.w (upd H s.heap.objs.size (.tup [x, y])) h2 s.heap.objs.size (.tup [x, y]) :=
      ⟨(by decide : 2 ≤ sizeLine), [y1, y2], .cons vu (.cons vt .nil), ⟨_, gT, rfl, _, rfl⟩⟩
    have J : Inv X pins σ (upd H s.heap.objs.size (.tup [x, y])) { s with heap := h2, toks := tk } := by
      refine I.turnedNew (ch := [z, TI, TO, i1, i2]) (fun c o hb g => ?_) hf (Nat.le_refl _) nw
      obtain ⟨b1, b2, b3, b4⟩ := off4 hb
      exact (sb.2 c b1).trans (hk c o b1 b2 b3 b4 g)
    refine ⟨.ref s.heap.objs.size, _, J, rfl, ⟨_, x, y, rfl, I.hok.fresh (Nat.le_refl _), rfl, fun l hl => ?_, fun l hl => ?_⟩, ⟨z2, ?_, ⟨y1, y2, ?_⟩, ?_, ?_⟩, fun c hm => ?_⟩
    · rw [I.tuple_inj hl qx]
      exact hx
    · rw [I.list_inj hl qy]
      exact hy
    · exact (sb.2 _ D.TIz).trans (hk _ _ D.TIz D.TITO D.TIi1 D.TIi2 q.pi)
    · exact (sb.2 _ D.TOz).trans o1
    · exact s1.1.at fun o g => (sb.2 _ D.i1z).trans g
    · exact s2.1.at fun o g => (sb.2 _ D.i2z).trans g
    · have hn := (hf c hm).1
      have hlt : c < s.heap.objs.size := by
        obtain ⟨_, g1, _⟩ := q.t1
        obtain ⟨_, g2, _⟩ := q.t2
        exact five hm (fun e => e ▸ zlt) (fun e => e ▸ Heap.lt_size q.pi) (fun e => e ▸ Heap.lt_size po) (fun e => e ▸ Heap.lt_size g1) (fun e => e ▸ Heap.lt_size g2)
      exact (upd_ne (Nat.ne_of_lt hlt)).trans hn
  · rintro X rfl rfl rfl hc n pins s σ H E I hf q ⟨xs, ys, qx, qy, hend, n1, n2⟩
    obtain ⟨us, ru, tu, _⟩ := I.tuple qx
    obtain ⟨ws, rw', tw, _⟩ := I.list qy
    have tu' : s.heap.IsTuple a us.toArray := tu
    obtain ⟨x0, y0, po⟩ := q.po
    have l1 := ru.length
    have l2 := rw'.length
    have hh : X.A.in1.handled = none := I.ok.hd hc
    have c1 : us.toArray.size = us.length := by simp
    have c2 : ws.toArray.size = ws.length := by simp
    refine wpAny_pyNext_zipD2_end S (Draws.tuple hh i1 a D.l1i1 us.toArray) (Draws.list hh i2 b D.l2i2 ws.toArray) q.zp q.pi po ⟨q.t1, tu'⟩ ⟨q.t2, tw.isList⟩ (by omega) (by omega) (by omega) (fun h1 tk hk => ⟨rfl, ?_⟩)
    refine I.turnedL (ch := [z, TI, TO, i1, i2]) (fun c o hb g => ?_) hf
    obtain ⟨b1, b2, b3, b4⟩ := off4 hb
    exact hk c o b1 b2 b3 b4 g
end My
namespace My
open PySem L2 PyProof.Rows
section
variable {X : Cx} {K : PySem.W.Frag} {σ : L2.St} {H : Hp} {D : Ends} {te : TE} {ta : TA} {a b : Addr} {xs ys : List V}
def zmP (K : PySem.W.Frag) (vs : List V) (H1 : Hp) (R : It → Hp → Prop) : Prop := ∃ a b xs ys, vs = [.ref a, .ref b] ∧ SqT K H1 a xs ∧ SqL K H1 b ys ∧ R (ItzM K a b) H1
def iZm (K : PySem.W.Frag) (ta : TA) : L2.TI := fun σ H R => ta σ H fun vs H1 => zmP K vs H1 R
theorem kp_zipM (hK : X.K = K) {e e2 : Expr} {p pos tp : Pos} {elts : List Expr} {kk : Nat} (hg : Gl X "zip") (hm : X.mg "zip" = none) (ha : PA X [e, e2] ta)
    (hs : starEach [e, e2] X.env = (false, eval e X.env) :: starEach [e2] X.env := by rfl) (hpl : (backTo pos (starEach [e2] X.env)).any (·.1) = false := by rfl) :
    PI X (.Tuple elts kk tp) (.Call (.Name "zip" p) [e, e2] [] pos) (iZm K ta) := by
  subst hK
  refine ⟨fun pins s σ H R I h => ?_⟩
  refine Call_ (ld_blt I hg hm boot_zip (callWith_type1 (thn (ha.run pos pins s σ H _ I h) fun us s1 ⟨vs, H1, I1, r1, a, b, xs, ys, ev, qx, qy, q⟩ => ?_) hs hpl))
  subst ev
  obtain ⟨u1, us, rfl, r1, r2⟩ : ∃ u1 u2, us = [u1, u2] ∧ L2.RelV (.ref a) u1 ∧ L2.RelV (.ref b) u2 := by
    obtain ⟨u, v, e, h1, h2⟩ := Vals.two r1
    exact ⟨u, v, e, h1, h2⟩
  cases r1
  cases r2
  obtain ⟨its, ru, tu, _⟩ := I1.tuple qx
  obtain ⟨ws, rw', tw, _⟩ := I1.list qy
  have tu' : s1.heap.IsTuple a its.toArray := tu
  obtain ⟨oa, ga, _⟩ := id tu'
  have ob := tw.isList
  obtain ⟨ob, gb, _⟩ := id ob
  refine zip_begins2 (begins_tuple a its.toArray) (begins_list b ws.toArray) tu' tw.isList (fun h' hz hTI hTO g1 g2 _ hk => wpAny_pyIter_zip hz ?_)
  have J : Inv X pins σ H1 { s1 with heap := h' } := I1.kept (t' := s1.toks) hk
  refine ⟨s1.heap.objs.size + 4, [s1.heap.objs.size + 4, s1.heap.objs.size + 2, s1.heap.objs.size + 3, s1.heap.objs.size, s1.heap.objs.size + 1], ZpM a b _ _ _ _ _, _, H1, rfl, J,
    turn_zipM (PySem.W.ktu_apart s1.heap.objs.size a b (Heap.lt_size ga) (Heap.lt_size gb)), ⟨hz, hTI, ⟨_, _, hTO⟩, ⟨_, g1, rfl, rfl⟩, ⟨_, g2, rfl, rfl⟩⟩, fun c hc => ?_, q⟩
  have hle : s1.heap.objs.size ≤ c := five hc (fun e => e ▸ Nat.le_add_right _ _) (fun e => e ▸ Nat.le_add_right _ _) (fun e => e ▸ Nat.le_add_right _ _) (fun e => e ▸ Nat.le_refl _) (fun e => e ▸ Nat.le_add_right _ _)
  exact I1.fpOk hle (I1.hok.fresh hle)
theorem w_zm {R : It → Hp → Prop} (h : ta σ H fun vs H1 => zmP K vs H1 R) : iZm K ta σ H R := h
theorem r_zm {R : It → Hp → Prop} (q : SqT K H a xs) (q2 : SqL K H b ys) (h : R (ItzM K a b) H) : zmP K [.ref a, .ref b] H R := ⟨a, b, xs, ys, rfl, q, q2, h⟩
theorem r_zT {R : It → Hp → Prop} (q : SqT K H a xs) (q2 : SqT K H b ys) (h : R (RZ.ItzT K a b) H) : zipP K [.ref a, .ref b] H R := ⟨a, b, xs, ys, rfl, .inr ⟨q, q2, h⟩⟩
/-- a comprehension over zip of a tuple and a list -/
theorem lc_zipM {g : TG} {vs : List Nat} {Da : Addr} {Qd : Hp → Prop} (G : Hp → Prop) (J : Nat → List V → Hp → Prop) (hl : xs.length = ys.length) (h0 : G (upd H Da (.lst []))) (hj : J 0 [] (upd H Da (.lst [])))
    (hq : ∀ H1 acc, H1 Da = some (.lst acc) → G H1 → SqT K H1 a xs ∧ SqL K H1 b ys)
    (hs : ∀ i x y T acc H1, xs[i]? = some x → ys[i]? = some y → acc.length = i → H1 Da = some (.lst acc) → G H1 → J i acc H1 → H1 T = none →
      g (.ref T) (wipe σ vs) (upd H1 T (.tup [x, y])) fun σ2 H2 => wipe σ2 vs = wipe σ vs ∧ te σ2 H2 fun y H3 => lcQ Da G J i y H3)
    (hd : ∀ acc H1, acc.length = xs.length → H1 Da = some (.lst acc) → G H1 → J xs.length acc H1 → Qd H1) : lcT (ItzM K a b) g tYes te vs σ H Da Qd := by
  refine ⟨fun i m H1 => m = xs.length - i ∧ i ≤ xs.length ∧ lcPv Da G J i H1, ⟨_, rfl, Nat.zero_le _, [], rfl, upd_same, h0, hj⟩, ?_⟩
  rintro i m H1 ⟨rfl, hi, acc, ha, hD, hG, hJ⟩
  obtain ⟨q1, q2⟩ := hq H1 acc hD hG
  rcases Nat.lt_or_ge i xs.length with hlt | hge
  · have e1 : xs[i]? = some xs[i] := List.getElem?_eq_getElem hlt
    have e2 : ys[i]? = some ys[i] := List.getElem?_eq_getElem (by omega)
    refine .inr ⟨⟨xs, ys, _, _, q1, q2, e1, e2⟩, lcPv Da G J (i + 1), fun H' p => ⟨xs.length - (i + 1), by omega, rfl, hlt, p⟩, ?_⟩
    rintro v H' ⟨T, x, y, rfl, nT, rfl, f1, f2⟩
    have z := hs i x y T acc H1 (f1 _ q1) (f2 _ q2) ha hD hG hJ nT
    exact z
  · have e : i = xs.length := by omega
    subst e
    exact .inl ⟨⟨xs, ys, q1, q2, .inl (Nat.le_refl _), Nat.le_refl _, by omega⟩, hd acc H1 ha hD hG hJ⟩
end
end My

namespace My
open PySem L2
/-! over a common denominator -/
theorem den_dvd {q : Rat} {D N : Int} (h : q * (D : Rat) = (N : Rat)) : (q.den : Int) ∣ D := by
  have e := numq q
  have e2 : (q.num : Rat) * (D : Rat) = (N : Rat) * ((q.den : Int) : Rat) := by
    rw [e, ← h]
    grind
  have e3 : q.num * D = N * (q.den : Int) := by exact_mod_cast e2
  refine dvd_cop (n := q.num) ?_ ⟨N, by rw [e3, Int.mul_comm]⟩
  rw [Nat.gcd_comm]
  exact gcdQ q
theorem num_le {q : Rat} {D N : Int} (hD : 0 < D) (h : q * (D : Rat) = (N : Rat)) : q.num.natAbs ≤ N.natAbs := by
  obtain ⟨k, hk⟩ := den_dvd h
  have e := numq q
  have hd := denP q
  have kp : 0 < k := by
    rw [hk] at hD
    exact Int.pos_of_mul_pos_right hD (by omega)
  have e2 : (N : Rat) = ((q.num * k : Int) : Rat) := by
    rw [← h, hk, Rat.intCast_mul, Rat.intCast_mul, e]
    grind
  have e3 : N = q.num * k := by exact_mod_cast e2
  rw [e3, Int.natAbs_mul]
  exact Nat.le_mul_of_pos_right _ (by omega)
theorem BN.ofD {e f : Nat} {q : Rat} {D N : Int} (hD : 0 < D) (bf : B f D) (be : B e N) (h : q * (D : Rat) = (N : Rat)) : BN e f q := by
  refine ⟨B.of_le (num_le hD h) be, B.of_le ?_ bf⟩
  have := Int.le_of_dvd hD (den_dvd h)
  have := denP q
  omega
/-- a row and its step over one denominator -/
structure RD (e f : Nat) (p : V3) (t : Rat) : Prop where
  ex : ∃ D N0 N1 N2 N3 : Int, 0 < D ∧ B f D ∧ B e N0 ∧ B e N1 ∧ B e N2 ∧ B e N3 ∧ p.x * (D : Rat) = N0 ∧ p.y * (D : Rat) = N1 ∧ p.z * (D : Rat) = N2 ∧ t * (D : Rat) = N3
theorem numc (q : Rat) : q * ((q.den : Int) : Rat) = (q.num : Rat) := (numq q).symm
theorem RD.of {n d : Nat} {p : V3} {t : Rat} (h : VN n d p) (ht : BN n d t) : RD (n + 3 * d) (4 * d) p t := by
  refine ⟨(p.x.den : Int) * (p.y.den : Int) * (p.z.den : Int) * (t.den : Int), p.x.num * ((p.y.den : Int) * (p.z.den : Int) * (t.den : Int)), p.y.num * ((p.x.den : Int) * (p.z.den : Int) * (t.den : Int)), p.z.num * ((p.x.den : Int) * (p.y.den : Int) * (t.den : Int)), t.num * ((p.x.den : Int) * (p.y.den : Int) * (p.z.den : Int)),
    Int.mul_pos (Int.mul_pos (Int.mul_pos (denP _) (denP _)) (denP _)) (denP _), (B.mul (B.mul (B.mul h.x.d h.y.d) h.z.d) ht.d).le (by omega), (B.mul h.x.n (B.mul (B.mul h.y.d h.z.d) ht.d)).le (by omega), (B.mul h.y.n (B.mul (B.mul h.x.d h.z.d) ht.d)).le (by omega), (B.mul h.z.n (B.mul (B.mul h.x.d h.y.d) ht.d)).le (by omega), (B.mul ht.n (B.mul (B.mul h.x.d h.y.d) h.z.d)).le (by omega), ?_, ?_, ?_, ?_⟩
  all_goals
    have e0 := numc p.x
    have e1 := numc p.y
    have e2 := numc p.z
    have e3 := numc t
    simp only [Rat.intCast_mul]
    grind
/-- what whole rows are -/
structure WR (e f : Nat) (p : V3) (t : Rat) (n0 n1 n2 n3 n4 : Int) : Prop where
  pos : 0 < n4
  b0 : B e n0
  b1 : B e n1
  b2 : B e n2
  b3 : B e n3
  b4 : B f n4
  e0 : p.x * (n4 : Rat) = n0
  e1 : p.y * (n4 : Rat) = n1
  e2 : p.z * (n4 : Rat) = n2
  e3 : t * (n4 : Rat) = n3
theorem wr_of {e f : Nat} {p : V3} {t : Rat} {L : Int} (r : RD e f p t) (hL : 0 < L) (d0 : (p.x.den : Int) ∣ L) (d1 : (p.y.den : Int) ∣ L) (d2 : (p.z.den : Int) ∣ L) (d3 : (t.den : Int) ∣ L) (least : ∀ D : Int, (p.x.den : Int) ∣ D → (p.y.den : Int) ∣ D → (p.z.den : Int) ∣ D → (t.den : Int) ∣ D → L ∣ D) :
    WR e f p t (p.x.num * L.fdiv (p.x.den : Int)) (p.y.num * L.fdiv (p.y.den : Int)) (p.z.num * L.fdiv (p.z.den : Int)) (t.num * L.fdiv (t.den : Int)) L := by
  obtain ⟨D, N0, N1, N2, N3, hD, bD, c0, c1, c2, c3, g0, g1, g2, g3⟩ := r.ex
  have hLD := least D (den_dvd g0) (den_dvd g1) (den_dvd g2) (den_dvd g3)
  obtain ⟨m, hm⟩ := hLD
  have mp : 0 < m := by
    rw [hm] at hD
    exact Int.pos_of_mul_pos_right hD (by omega)
  have mq : 0 < m.natAbs := by omega
  have go : ∀ (q : Rat) (N : Int), (q.den : Int) ∣ L → q * (D : Rat) = (N : Rat) → B e N → B e (q.num * L.fdiv (q.den : Int)) ∧ q * (L : Rat) = ((q.num * L.fdiv (q.den : Int) : Int) : Rat) := fun q N hd hN bN => by
    have e1 := mul_fdiv (denP q) hd
    generalize L.fdiv (q.den : Int) = c at *
    have e2 := numc q
    have e3 : q * (L : Rat) = ((q.num * c : Int) : Rat) := by
      rw [← e1, Rat.intCast_mul, Rat.intCast_mul]
      grind
    refine ⟨B.of_le ?_ bN, e3⟩
    have e4 : (N : Rat) = ((q.num * c * m : Int) : Rat) := by
      rw [← hN, hm, Rat.intCast_mul, Rat.intCast_mul, ← e3]
      grind
    have e5 : N = q.num * c * m := by exact_mod_cast e4
    rw [e5, Int.natAbs_mul (q.num * c) m]
    exact Nat.le_mul_of_pos_right _ mq
  obtain ⟨h0, k0⟩ := go _ _ d0 g0 c0
  obtain ⟨h1, k1⟩ := go _ _ d1 g1 c1
  obtain ⟨h2, k2⟩ := go _ _ d2 g2 c2
  obtain ⟨h3, k3⟩ := go _ _ d3 g3 c3
  refine ⟨hL, h0, h1, h2, h3, B.of_le ?_ bD, k0, k1, k2, k3⟩
  have := Int.le_of_dvd hD ⟨m, hm⟩
  omega
end My
namespace My
open PySem L2 PyProof.Rows
section
variable {X : Cx} {K : PySem.W.Frag} {σ : L2.St} {H : Hp} {D : Ends} {te : TE} {a b : Addr} {xs ys : List V} {Q : VK}
/-- where a comprehension's scope stands -/
def lcSc : Expr → Scope
  | .ListComp _ _ sc _ => sc
  | _ => { kind := .function, names := [], isGenerator := false, isCoroutine := false }
def stE : Stmt → Expr
  | .Assign _ e _ => e
  | _ => .Constant .none 0 ⟨0, 0, 0, 0⟩
def rSumK (K : PySem.W.Frag) : List V → Hp → VK → Prop := fun vs H Q => ∃ (a : Addr) (ns : List Int), vs = [V.ref a] ∧ SqL K H a (ns.map V.int) ∧ Q (.int ns.sum) H
theorem kc_sum (h : X.K = K) (hc : X.calm = true) : CallR X (.builtin "sum") (rSumK K) := h ▸ cr_sum hc
theorem r_sum {ns : List Int} (q : SqL K H a (ns.map V.int)) (h : Q (.int ns.sum) H) : rSumK K [.ref a] H Q := ⟨a, ns, rfl, q, h⟩
/-- a comprehension over a tuple, any target -/
theorem lc_tupA {g : TG} {vs : List Nat} {Da : Addr} {Qd : Hp → Prop} (G : Hp → Prop) (J : Nat → List V → Hp → Prop) (h0 : G (upd H Da (.lst []))) (hj : J 0 [] (upd H Da (.lst [])))
    (hq : ∀ H1 acc, H1 Da = some (.lst acc) → G H1 → SqT K H1 a xs)
    (hs : ∀ i x acc H1, xs[i]? = some x → acc.length = i → H1 Da = some (.lst acc) → G H1 → J i acc H1 → g x (wipe σ vs) H1 fun σ2 H2 => wipe σ2 vs = wipe σ vs ∧ te σ2 H2 fun y H3 => lcQ Da G J i y H3)
    (hd : ∀ acc H1, acc.length = xs.length → H1 Da = some (.lst acc) → G H1 → J xs.length acc H1 → Qd H1) : lcT (Itt K a) g tYes te vs σ H Da Qd := by
  have z := L2.lc_tup (K := K) (a := a) (xs := xs) (g := g) (tt := tYes) (te := te) (vs := vs) (σ := σ) (H1 := H) (D := Da) (Qd := Qd) (lcPv Da G J)
    ⟨[], rfl, upd_same, h0, hj⟩ (fun i H1 _ ⟨acc, _, hD, hG, _⟩ => hq H1 acc hD hG) (fun i x H1 hi ⟨acc, ha, hD, hG, hJ⟩ => hs i x acc H1 hi ha hD hG hJ) (fun H1 ⟨acc, ha, hD, hG, hJ⟩ => hd acc H1 ha hD hG hJ)
  exact z
/-- a loop over zip of two tuples -/
theorem f_zT {g : TG} {t : TS} (hl : xs.length = ys.length) (Pv : Nat → L2.St → Hp → Prop) (h0 : Pv 0 σ H) (hq : ∀ i σ H', Pv i σ H' → SqT K H' a xs ∧ SqT K H' b ys)
    (hs : ∀ (i : Nat) (x y : V) (T : Addr) (σ : L2.St) (H1 H2 : Hp), xs[i]? = some x → ys[i]? = some y → Pv i σ H1 → Same H1 H2 → H2 T = some (.tup [x, y]) → g (.ref T) σ H2 fun σ2 H3 => t { D with nx := Pv (i + 1), ct := Pv (i + 1), bk := D.nx } σ2 H3)
    (hd : ∀ σ H, Pv xs.length σ H → D.nx σ H) : forT (RZ.ItzT K a b) g t D σ H :=
  RZ.for_zipT hl Pv h0 hq (fun i x y T σ H1 ex ey p nT => hs i x y T σ H1 _ ex ey p (Same.new nT) upd_same) hd
end
end My
namespace My
open PySem L2
theorem r_catL {H : Hp} {a b : Addr} {xs ys : List V} {Q : VK} (h1 : H a = some (.lst xs)) (h2 : H b = some (.lst ys)) (hn : decide (xs.length + ys.length ≤ 100000) = true) (h : ∀ p H1, H p = none → Same H H1 → H1 p = some (.lst (xs ++ ys)) → Q (.ref p) H1) : rCat (.ref a) (.ref b) H Q :=
  ⟨a, b, xs, ys, rfl, rfl, h1, h2, Nat.le_trans (of_decide_eq_true hn) (by decide), fun p np => h p _ np (Same.new np) upd_same⟩
/-- an own list grows; lists of another head stay -/
theorem r_appH {H H0 : Hp} {l : Addr} {xs : List V} {y : V} {K : PySem.W.Frag} {Q : VK} (nl : H0 l = none) (e : Same H0 H) (h : H l = some (.lst xs)) (hz : xs.length < 100000)
    (q : ∀ H1, Same H0 H1 → TK K H H1 → (∀ b ys, b ≠ l → H b = some (.lst ys) → H1 b = some (.lst ys)) → H1 l = some (.lst (xs ++ [y])) → Q .non H1) : rAppend (.ref l) [y] H Q :=
  r_app h hz (q _ (Same.mut e nl) (TK.upd h) (fun b ys n hb => (upd_ne n).trans hb) upd_same)
end My
namespace My
open PySem L2
/-- the inverse by integers -/
structure MW (A : M3) (Dt : Int) (u v w : Int × Int × Int) (a3 a4 b3 b4 c3 c4 : Int) : Prop where
  nz : Dt ≠ 0
  xa : ((u.1 * a4 : Int) : Rat) / (Dt : Rat) = (minv A).a.x
  ya : ((v.1 * b4 : Int) : Rat) / (Dt : Rat) = (minv A).a.y
  za : ((w.1 * c4 : Int) : Rat) / (Dt : Rat) = (minv A).a.z
  xb : ((u.2.1 * a4 : Int) : Rat) / (Dt : Rat) = (minv A).b.x
  yb : ((v.2.1 * b4 : Int) : Rat) / (Dt : Rat) = (minv A).b.y
  zb : ((w.2.1 * c4 : Int) : Rat) / (Dt : Rat) = (minv A).b.z
  xc : ((u.2.2 * a4 : Int) : Rat) / (Dt : Rat) = (minv A).c.x
  yc : ((v.2.2 * b4 : Int) : Rat) / (Dt : Rat) = (minv A).c.y
  zc : ((w.2.2 * c4 : Int) : Rat) / (Dt : Rat) = (minv A).c.z
  sx : ((-(u.1 * a3 + (v.1 * b3 + (w.1 * c3 + 0))) : Int) : Rat) / (Dt : Rat) = (minv A).s.x
  sy : ((-(u.2.1 * a3 + (v.2.1 * b3 + (w.2.1 * c3 + 0))) : Int) : Rat) / (Dt : Rat) = (minv A).s.y
  sz : ((-(u.2.2 * a3 + (v.2.2 * b3 + (w.2.2 * c3 + 0))) : Int) : Rat) / (Dt : Rat) = (minv A).s.z
theorem mw_of {A : M3} {e0 f0 e1 f1 e2 f2 : Nat} {a0 a1 a2 a3 a4 b0 b1 b2 b3 b4 c0 c1 c2 c3 c4 Dt : Int} (wa : WR e0 f0 A.a A.s.x a0 a1 a2 a3 a4) (wb : WR e1 f1 A.b A.s.y b0 b1 b2 b3 b4) (wc : WR e2 f2 A.c A.s.z c0 c1 c2 c3 c4) (hd : det3 A ≠ 0)
    (hD : Dt = a0 * (b1 * c2 - b2 * c1) + a1 * (b2 * c0 - b0 * c2) + a2 * (b0 * c1 - b1 * c0)) :
    MW A Dt (b1 * c2 - b2 * c1, b2 * c0 - b0 * c2, b0 * c1 - b1 * c0) (c1 * a2 - c2 * a1, c2 * a0 - c0 * a2, c0 * a1 - c1 * a0) (a1 * b2 - a2 * b1, a2 * b0 - a0 * b2, a0 * b1 - a1 * b0) a3 a4 b3 b4 c3 c4 := by
  have za : (a4 : Rat) ≠ 0 := icz (Int.ne_of_gt wa.pos)
  have zb : (b4 : Rat) ≠ 0 := icz (Int.ne_of_gt wb.pos)
  have zc : (c4 : Rat) ≠ 0 := icz (Int.ne_of_gt wc.pos)
  have pa0 := wa.e0; have pa1 := wa.e1; have pa2 := wa.e2; have pa3 := wa.e3
  have pb0 := wb.e0; have pb1 := wb.e1; have pb2 := wb.e2; have pb3 := wb.e3
  have pc0 := wc.e0; have pc1 := wc.e1; have pc2 := wc.e2; have pc3 := wc.e3
  have eD : (Dt : Rat) = det3 A * ((a4 : Rat) * b4 * c4) := by
    rw [hD]
    simp only [Rat.intCast_add, Rat.intCast_sub, Rat.intCast_mul]
    rw [← pa0, ← pa1, ← pa2, ← pb0, ← pb1, ← pb2, ← pc0, ← pc1, ← pc2]
    simp only [det3, dt, cr]
    grind
  have nzR : (Dt : Rat) ≠ 0 := by
    rw [eD]
    grind
  have nz : Dt ≠ 0 := fun e => nzR (by rw [e]; rfl)
  have hdet : det3 A = dt A.a (cr A.b A.c) := rfl
  refine ⟨nz, ?_, ?_, ?_, ?_, ?_, ?_, ?_, ?_, ?_, ?_, ?_, ?_⟩
  all_goals
    simp only [Rat.intCast_add, Rat.intCast_sub, Rat.intCast_mul, Rat.intCast_neg]
    rw [eD]
    simp only [minv]
    generalize det3 A = d at *
    simp only [cr]
    simp only [← pa0, ← pa1, ← pa2, ← pa3, ← pb0, ← pb1, ← pb2, ← pb3, ← pc0, ← pc1, ← pc2, ← pc3]
    clear pa0 pa1 pa2 pa3 pb0 pb1 pb2 pb3 pc0 pc1 pc2 pc3 eD nzR nz hdet hD wa wb wc
    grind
theorem TsA.three' {K : PySem.W.Frag} {H : Hp} {x y z : List V} {acc : List V} (h : TsA K ([x, y, z].take 3) acc H) : ∃ a b c : Addr, acc = [.ref a, .ref b, .ref c] ∧ SqT K H a x ∧ SqT K H b y ∧ SqT K H c z := TsA.three h
end My
namespace My
open PySem L2
theorem VcL.three' {K : PySem.W.Frag} {H : Hp} {acc : List V} {p q r : V3} (h : VcL K H acc ([p, q, r].take 3)) : ∃ a b c : Addr, acc = [.ref a, .ref b, .ref c] ∧ Vc K H a p ∧ Vc K H b q ∧ Vc K H c r := by
  unfold VcL at h
  cases h with
  | cons r1 h =>
    cases h with
    | cons r2 h =>
      cases h with
      | cons r3 h =>
        cases h
        obtain ⟨a, rfl, ha⟩ := r1
        obtain ⟨b, rfl, hb⟩ := r2
        obtain ⟨c, rfl, hc⟩ := r3
        exact ⟨a, b, c, rfl, ha, hb, hc⟩
/-- a heap with a new object, told by what it holds -/
theorem rng_gen {H : Hp} {T : Addr} {o : HO} {P : Hp → Prop} (nT : H T = none) (h : ∀ H1, Same H H1 → H1 T = some o → P H1) : P (L2.upd H T o) := h _ (Same.new nT) upd_same
end My
namespace My
open PySem L2
section
variable {X : Cx} {K : PySem.W.Frag} {H : Hp} {Q : VK} {a b : Addr} {xs ys zs : List V}
theorem ko_catA (h : X.K = K) : OpR X (binaryOp .Add) (rCatA K) := h ▸ op_catA
theorem r_catA (ha : SqT K H a xs) (hb : SqT K H b ys) (hz : xs ++ ys = zs) (hn : decide (xs.length + ys.length ≤ 100000) = true) (h : ∀ p H1, Same H H1 → SqT K H1 p zs → Q (.ref p) H1) : rCatA K (.ref a) (.ref b) H Q := by
  refine ⟨a, b, xs, ys, rfl, rfl, ha, hb, Nat.le_trans (of_decide_eq_true hn) (by decide), fun e => h b H (Same.refl _) ?_, fun _ e => h a H (Same.refl _) ?_, fun _ _ p np => h p _ (Same.new np) (SqT.of ?_)⟩
  · rw [e] at hz
    rw [← hz]
    exact hb
  · rw [e, List.append_nil] at hz
    rw [← hz]
    exact ha
  · rw [← hz]
    exact upd_same
theorem r_slT {lo hi : Option Int} (q : SqT K H a xs) (hw : ¬ (HT.sIx xs.length 0 lo = 0 ∧ HT.sIx xs.length xs.length hi = xs.length)) (e : cutV xs lo hi = ys) (h : ∀ p H1, H p = none → Same H H1 → H1 p = some (.tup ys) → Q (.ref p) H1) : rSlT K (.ref a) lo hi H Q :=
  ⟨a, xs, rfl, q, hw, fun p np => h p _ np (Same.new np) (by rw [e]; exact upd_same)⟩
end
/-- a row whose doubles are small integers -/
def HalfRow (p : V3) : Prop := ∃ N0 N1 N2 : Int, B 6 N0 ∧ B 6 N1 ∧ B 6 N2 ∧ p.x * 2 = (N0 : Rat) ∧ p.y * 2 = (N1 : Rat) ∧ p.z * 2 = (N2 : Rat)
theorem half_int {a b c : Int} (ha : -32 < a ∧ a < 32) (hb : -32 < b ∧ b < 32) (hc : -32 < c ∧ c < 32) : HalfRow ⟨(a : Rat), (b : Rat), (c : Rat)⟩ := by
  refine ⟨a * 2, b * 2, c * 2, B.rng (by omega) (by omega), B.rng (by omega) (by omega), B.rng (by omega) (by omega), ?_, ?_, ?_⟩ <;> (rw [Rat.intCast_mul]; rfl)
theorem HalfRow.vn {p : V3} (h : HalfRow p) : VN 6 2 p := by
  obtain ⟨N0, N1, N2, b0, b1, b2, e0, e1, e2⟩ := h
  have d2 : B 2 (2 : Int) := B.lit (by decide)
  exact ⟨BN.ofD (by decide) d2 b0 e0, BN.ofD (by decide) d2 b1 e1, BN.ofD (by decide) d2 b2 e2⟩
/-- a side of a stretching matrix -/
def Sd (q : Rat) : Prop := q ≠ 0 ∧ ∃ N : Int, B 6 N ∧ q * 2 = (N : Rat)
theorem sd_mk (q : Rat) (N : Int) (h1 : decide (q = 0) = false) (h2 : decide (N.natAbs < 2 ^ 6) = true) (h3 : decide (q * 2 = (N : Rat)) = true) : Sd q := ⟨of_decide_eq_false h1, N, B.lit h2, of_decide_eq_true h3⟩
theorem b60 : B 6 (0 : Int) := B.lit (by decide)
theorem half_x {q : Rat} (h : Sd q) : HalfRow ⟨q, ((0 : Int) : Rat), ((0 : Int) : Rat)⟩ := by
  obtain ⟨_, N, b, e⟩ := h
  exact ⟨N, 0, 0, b, b60, b60, e, by simp, by simp⟩
theorem half_y {q : Rat} (h : Sd q) : HalfRow ⟨((0 : Int) : Rat), q, ((0 : Int) : Rat)⟩ := by
  obtain ⟨_, N, b, e⟩ := h
  exact ⟨0, N, 0, b60, b, b60, by simp, e, by simp⟩
theorem half_z {q : Rat} (h : Sd q) : HalfRow ⟨((0 : Int) : Rat), ((0 : Int) : Rat), q⟩ := by
  obtain ⟨_, N, b, e⟩ := h
  exact ⟨0, 0, N, b60, b60, b, by simp, by simp, e⟩
theorem det_diag {p q r : Rat} (hp : p ≠ 0) (hq : q ≠ 0) (hr : r ≠ 0) : dt ⟨p, ((0 : Int) : Rat), ((0 : Int) : Rat)⟩ (cr ⟨((0 : Int) : Rat), q, ((0 : Int) : Rat)⟩ ⟨((0 : Int) : Rat), ((0 : Int) : Rat), r⟩) ≠ 0 := by
  simp only [dt, cr, Rat.intCast_zero]
  intro h
  have h2 : p * q * r = 0 := by grind
  grind
theorem det_ints {a0 a1 a2 b0 b1 b2 c0 c1 c2 : Int} (h : a0 * (b1 * c2 - b2 * c1) + a1 * (b2 * c0 - b0 * c2) + a2 * (b0 * c1 - b1 * c0) ≠ 0) : dt ⟨(a0 : Rat), (a1 : Rat), (a2 : Rat)⟩ (cr ⟨(b0 : Rat), (b1 : Rat), (b2 : Rat)⟩ ⟨(c0 : Rat), (c1 : Rat), (c2 : Rat)⟩) ≠ 0 := fun e => h (by
  simp only [dt, cr] at e
  exact_mod_cast e)
/-- three vectors in a tuple -/
theorem Rw.same' {K : PySem.W.Frag} {H H' : Hp} {r : Addr} {p q s : V3} (e : Same H H') (h : Rw K H r p q s) : Rw K H' r p q s := h.tk (TK.same e)
structure SmM (A : M3) : Prop where
  ha : HalfRow A.a
  hb : HalfRow A.b
  hc : HalfRow A.c
  hs : VN 6 6 A.s
  nz : det3 A ≠ 0
theorem SmM.mn {A : M3} (h : SmM A) : MN 6 6 A := ⟨h.ha.vn.le (by decide) (by decide), h.hb.vn.le (by decide) (by decide), h.hc.vn.le (by decide) (by decide), h.hs⟩
theorem VN.int3 {a b c : Int} {n : Nat} (ha : B n a) (hb : B n b) (hc : B n c) : VN n 1 ⟨(a : Rat), (b : Rat), (c : Rat)⟩ := ⟨BN.int ha, BN.int hb, BN.int hc⟩
end My
namespace My
open PySem L2
theorem at_0129 {r : Int} (h0 : 0 ≤ r) (h1 : r < 4) : ∃ n : Int, atI ([.int 0, .int 1, .int 2, .int 39] : List V) r = some (.int n) ∧ 0 ≤ n ∧ n ≤ 39 := by
  obtain rfl | rfl | rfl | rfl : r = 0 ∨ r = 1 ∨ r = 2 ∨ r = 3 := by omega
  all_goals exact ⟨_, rfl, by decide, by decide⟩
theorem div_mul_c {t b : Int} (hb : b ≠ 0) : (t : Rat) / (b : Rat) * (b : Rat) = (t : Rat) := by
  have := icz hb
  grind
theorem at_sgn {v : V} {i : Nat} (h : ([.int 1, .int (-1), .int 2] : List V)[i]? = some v) : ∃ u : Int, v = .int u ∧ (u = 1 ∨ u = -1 ∨ u = 2) := by
  rcases i with _ | _ | _ | i
  · cases h
    exact ⟨_, rfl, .inl rfl⟩
  · cases h
    exact ⟨_, rfl, .inr (.inl rfl)⟩
  · cases h
    exact ⟨_, rfl, .inr (.inr rfl)⟩
  · simp at h
/-- the tops of three ratios over one bottom -/
def TpA (K : PySem.W.Frag) (b : Int) (i : Nat) (acc : List V) (H : Hp) : Prop := ∃ ns : List Int, TsA K (ns.map fun (t : Int) => [.int ((t : Rat) / (b : Rat)).num, .int (((t : Rat) / (b : Rat)).den : Int)]) acc H ∧ ns.length = i ∧ ∀ t, t ∈ ns → B 134 t
theorem TpA.tk {K : PySem.W.Frag} {b : Int} {i : Nat} {acc : List V} {H H' : Hp} (e : TK K H H') (h : TpA K b i acc H) : TpA K b i acc H' := by
  obtain ⟨ns, h1, h2, h3⟩ := h
  exact ⟨ns, TsA.tk e h1, h2, h3⟩
theorem TpA.snoc {K : PySem.W.Frag} {b t : Int} {i : Nat} {acc : List V} {a : Addr} {H : Hp} (h : TpA K b i acc H) (q : SqT K H a [.int ((t : Rat) / (b : Rat)).num, .int (((t : Rat) / (b : Rat)).den : Int)]) (bt : B 134 t) : TpA K b (i + 1) (acc ++ [.ref a]) H := by
  obtain ⟨ns, h1, h2, h3⟩ := h
  refine ⟨ns ++ [t], by rw [List.map_append]; exact TsA.snoc h1 q, by simp [h2], all_snoc h3 bt⟩
theorem TpA.three {K : PySem.W.Frag} {b : Int} {acc : List V} {H : Hp} (h : TpA K b 3 acc H) : ∃ (x y z : Addr) (t0 t1 t2 : Int), acc = [.ref x, .ref y, .ref z] ∧ B 134 t0 ∧ B 134 t1 ∧ B 134 t2 ∧ SqT K H x [.int ((t0 : Rat) / (b : Rat)).num, .int (((t0 : Rat) / (b : Rat)).den : Int)] ∧ SqT K H y [.int ((t1 : Rat) / (b : Rat)).num, .int (((t1 : Rat) / (b : Rat)).den : Int)] ∧ SqT K H z [.int ((t2 : Rat) / (b : Rat)).num, .int (((t2 : Rat) / (b : Rat)).den : Int)] := by
  obtain ⟨ns, h1, h2, h3⟩ := h
  match ns, h2 with
  | [t0, t1, t2], _ =>
    obtain ⟨x, y, z, e, g0, g1, g2⟩ := TsA.three h1
    exact ⟨x, y, z, t0, t1, t2, e, h3 _ (by simp), h3 _ (by simp), h3 _ (by simp), g0, g1, g2⟩
end My

namespace My
open PySem L2
theorem r_tplV {K : PySem.W.Frag} {H : Hp} {Q : VK} {a : Addr} {p q r : V3} (h : VL K H a [p, q, r]) (k : ∀ (x y z t : Addr) (H1 : Hp), H t = none → Same H H1 → H1 t = some (.tup [.ref x, .ref y, .ref z]) → Vc K H1 x p → Vc K H1 y q → Vc K H1 z r → Q (.ref t) H1) : rTpl K [.ref a] H Q := by
  obtain ⟨acc, h1, h2⟩ := h
  obtain ⟨x, y, z, rfl, g0, g1, g2⟩ := VcL.three' h2
  exact r_tplL (SqL.of h1) fun t H1 n s ht => k x y z t H1 n s ht (g0.same s) (g1.same s) (g2.same s)
end My
namespace My
open PySem L2
/-- a vector over one denominator, all of g bits -/
structure RowG (g : Nat) (p : V3) : Prop where
  ex : ∃ D N0 N1 N2 : Int, 0 < D ∧ B g D ∧ B g N0 ∧ B g N1 ∧ B g N2 ∧ p.x * (D : Rat) = N0 ∧ p.y * (D : Rat) = N1 ∧ p.z * (D : Rat) = N2
theorem RowG.le {g g' : Nat} {p : V3} (h : RowG g p) (e : g ≤ g') : RowG g' p := by
  obtain ⟨D, N0, N1, N2, h0, h1, h2, h3, h4, r⟩ := h.ex
  exact ⟨D, N0, N1, N2, h0, h1.le e, h2.le e, h3.le e, h4.le e, r⟩
theorem RowG.half {p : V3} (h : HalfRow p) : RowG 6 p := by
  obtain ⟨N0, N1, N2, h0, h1, h2, e⟩ := h
  exact ⟨2, N0, N1, N2, by decide, B.lit (by decide), h0, h1, h2, e⟩
theorem RowG.of {n d : Nat} {p : V3} (h : VN n d p) : RowG (n + 3 * d) p := by
  refine ⟨(p.x.den : Int) * (p.y.den : Int) * (p.z.den : Int), p.x.num * ((p.y.den : Int) * (p.z.den : Int)), p.y.num * ((p.x.den : Int) * (p.z.den : Int)), p.z.num * ((p.x.den : Int) * (p.y.den : Int)),
    Int.mul_pos (Int.mul_pos (denP _) (denP _)) (denP _), (B.mul (B.mul h.x.d h.y.d) h.z.d).le (by omega), (B.mul h.x.n (B.mul h.y.d h.z.d)).le (by omega), (B.mul h.y.n (B.mul h.x.d h.z.d)).le (by omega), (B.mul h.z.n (B.mul h.x.d h.y.d)).le (by omega), ?_, ?_, ?_⟩
  all_goals
    have e0 := numc p.x
    have e1 := numc p.y
    have e2 := numc p.z
    simp only [Rat.intCast_mul]
    grind
theorem RowG.vn {g : Nat} {p : V3} (h : RowG g p) : VN g g p := by
  obtain ⟨D, N0, N1, N2, h0, h1, h2, h3, h4, e0, e1, e2⟩ := h.ex
  exact ⟨BN.ofD h0 h1 h2 e0, BN.ofD h0 h1 h3 e1, BN.ofD h0 h1 h4 e2⟩
structure GD (A : M3) : Prop where
  ex : ∃ g0 g1 g2 : Nat, RowG g0 A.a ∧ RowG g1 A.b ∧ RowG g2 A.c ∧ RowG 134 A.s ∧ g0 + g1 + g2 ≤ 146 ∧ g0 ≤ 134 ∧ g1 ≤ 134 ∧ g2 ≤ 134
theorem SmM.gd {A : M3} (h : SmM A) : GD A := ⟨6, 6, 6, RowG.half h.ha, RowG.half h.hb, RowG.half h.hc, (RowG.of h.hs).le (by decide), by decide, by decide, by decide, by decide⟩
theorem GD.mn {A : M3} (h : GD A) : MN 134 134 A := by
  obtain ⟨g0, g1, g2, h0, h1, h2, h3, _, l0, l1, l2⟩ := h.ex
  exact ⟨(h0.le l0).vn, (h1.le l1).vn, (h2.le l2).vn, h3.vn⟩
theorem RowG.rd {g : Nat} {p z : V3} {t : Rat} (h : RowG g p) (hz : RowG 134 z) (ht : t = z.x ∨ t = z.y ∨ t = z.z) : RD (134 + g) (134 + g) p t := by
  obtain ⟨D, N0, N1, N2, h0, h1, h2, h3, h4, e0, e1, e2⟩ := h.ex
  obtain ⟨S, T0, T1, T2, s0, s1, s2, s3, s4, d0, d1, d2⟩ := hz.ex
  obtain ⟨T, bT, eT⟩ : ∃ T : Int, B 134 T ∧ t * (S : Rat) = T := by
    rcases ht with rfl | rfl | rfl
    · exact ⟨T0, s2, d0⟩
    · exact ⟨T1, s3, d1⟩
    · exact ⟨T2, s4, d2⟩
  refine ⟨S * D, S * N0, S * N1, S * N2, T * D, Int.mul_pos s0 h0, B.mul s1 h1, B.mul s1 h2, B.mul s1 h3, B.mul s1 h4, B.mul bT h1, ?_, ?_, ?_, ?_⟩
  all_goals
    simp only [Rat.intCast_mul]
    grind
theorem dotD {c0 c1 c2 a0 a1 a2 : Rat} {Dc D0 D1 D2 M0 M1 M2 N0 N1 N2 : Int} (m0 : c0 * (Dc : Rat) = M0) (m1 : c1 * (Dc : Rat) = M1) (m2 : c2 * (Dc : Rat) = M2) (n0 : a0 * (D0 : Rat) = N0) (n1 : a1 * (D1 : Rat) = N1) (n2 : a2 * (D2 : Rat) = N2) :
    (c0 * a0 + c1 * a1 + c2 * a2) * ((Dc * (D0 * D1 * D2) : Int) : Rat) = ((M0 * (N0 * (D1 * D2)) + M1 * (N1 * (D0 * D2)) + M2 * (N2 * (D0 * D1)) : Int) : Rat) := by
  simp only [Rat.intCast_mul, Rat.intCast_add]
  rw [← m0, ← m1, ← m2, ← n0, ← n1, ← n2]
  grind
theorem dotB {g g0 g1 g2 : Nat} {c0 c1 c2 a0 a1 a2 : Rat} {Dc D0 D1 D2 M0 M1 M2 N0 N1 N2 : Int} (hg : g ≤ 134) (hs : g0 + g1 + g2 ≤ 146) (pc : 0 < Dc) (p0 : 0 < D0) (p1 : 0 < D1) (p2 : 0 < D2) (bc : B g Dc) (b0 : B g0 D0) (b1 : B g1 D1) (b2 : B g2 D2)
    (bm0 : B g M0) (bm1 : B g M1) (bm2 : B g M2) (bn0 : B g0 N0) (bn1 : B g1 N1) (bn2 : B g2 N2) (m0 : c0 * (Dc : Rat) = M0) (m1 : c1 * (Dc : Rat) = M1) (m2 : c2 * (Dc : Rat) = M2) (n0 : a0 * (D0 : Rat) = N0) (n1 : a1 * (D1 : Rat) = N1) (n2 : a2 * (D2 : Rat) = N2) : BN 410 402 (c0 * a0 + c1 * a1 + c2 * a2) :=
  BN.ofD (Int.mul_pos pc (Int.mul_pos (Int.mul_pos p0 p1) p2)) ((B.mul bc (B.mul (B.mul b0 b1) b2)).le (by omega))
    ((B.add (B.add (B.mul bm0 (B.mul bn0 (B.mul b1 b2))) (B.mul bm1 (B.mul bn1 (B.mul b0 b2)))) (B.mul bm2 (B.mul bn2 (B.mul b0 b1)))).le (by omega)) (dotD m0 m1 m2 n0 n1 n2)
theorem shiftB {c0 c1 c2 s0 s1 s2 t : Rat} {Dc S U M0 M1 M2 T0 T1 T2 W : Int} (pc : 0 < Dc) (ps : 0 < S) (pu : 0 < U) (bc : B 134 Dc) (bs : B 134 S) (bu : B 134 U) (bm0 : B 134 M0) (bm1 : B 134 M1) (bm2 : B 134 M2) (bt0 : B 134 T0) (bt1 : B 134 T1) (bt2 : B 134 T2) (bw : B 134 W)
    (m0 : c0 * (Dc : Rat) = M0) (m1 : c1 * (Dc : Rat) = M1) (m2 : c2 * (Dc : Rat) = M2) (n0 : s0 * (S : Rat) = T0) (n1 : s1 * (S : Rat) = T1) (n2 : s2 * (S : Rat) = T2) (n3 : t * (U : Rat) = W) : BN 410 402 (c0 * s0 + c1 * s1 + c2 * s2 + t) := by
  refine BN.ofD (D := Dc * (S * U)) (N := M0 * (T0 * U) + M1 * (T1 * U) + M2 * (T2 * U) + W * (Dc * S)) (Int.mul_pos pc (Int.mul_pos ps pu)) ((B.mul bc (B.mul bs bu)).le (by omega)) ((B.add (B.add (B.add (B.mul bm0 (B.mul bt0 bu)) (B.mul bm1 (B.mul bt1 bu))) (B.mul bm2 (B.mul bt2 bu))) (B.mul bw (B.mul bc bs))).le (by omega)) ?_
  simp only [Rat.intCast_mul, Rat.intCast_add]
  rw [← m0, ← m1, ← m2, ← n0, ← n1, ← n2, ← n3]
  grind
theorem GD.comb {A C : M3} (hA : GD A) (hC : GD C) : MN 410 402 (My.comb A C) := by
  obtain ⟨g0, g1, g2, h0, h1, h2, h3, hs, l0, l1, l2⟩ := hA.ex
  obtain ⟨k0, k1, k2, i0, i1, i2, i3, _, j0, j1, j2⟩ := hC.ex
  obtain ⟨D0, a0, a1, a2, p0, b0, x0, x1, x2, y0, y1, y2⟩ := h0.ex
  obtain ⟨D1, b0', b1, b2, p1, c0, z0, z1, z2, w0, w1, w2⟩ := h1.ex
  obtain ⟨D2, c0', c1, c2, p2, d0, u0, u1, u2, v0, v1, v2⟩ := h2.ex
  obtain ⟨S, T0, T1, T2, ps, bs, t0, t1, t2, q0, q1, q2⟩ := h3.ex
  obtain ⟨U, W0, W1, W2, pu, bu, m0, m1, m2, n0, n1, n2⟩ := i3.ex
  have go : ∀ {k : Nat} {r : V3}, k ≤ 134 → RowG k r → VN 410 402 (rowx r A) := fun hk hr => by
    obtain ⟨E, M0, M1, M2, pe, be, e0, e1, e2, f0, f1, f2⟩ := hr.ex
    exact ⟨dotB hk hs pe p0 p1 p2 be b0 c0 d0 e0 e1 e2 x0 z0 u0 f0 f1 f2 y0 w0 v0, dotB hk hs pe p0 p1 p2 be b0 c0 d0 e0 e1 e2 x1 z1 u1 f0 f1 f2 y1 w1 v1, dotB hk hs pe p0 p1 p2 be b0 c0 d0 e0 e1 e2 x2 z2 u2 f0 f1 f2 y2 w2 v2⟩
  have gs : ∀ {k : Nat} {r : V3} {t : Rat} {W : Int}, k ≤ 134 → RowG k r → B 134 W → t * (U : Rat) = W → BN 410 402 (dt r A.s + t) := fun hk hr hW ht => by
    obtain ⟨E, M0, M1, M2, pe, be, e0, e1, e2, f0, f1, f2⟩ := hr.ex
    exact shiftB pe ps pu (be.le hk) bs bu (e0.le hk) (e1.le hk) (e2.le hk) t0 t1 t2 hW f0 f1 f2 q0 q1 q2 ht
  exact ⟨go j0 i0, go j1 i1, go j2 i2, ⟨gs j0 i0 m0 n0, gs j1 i1 m1 n1, gs j2 i2 m2 n2⟩⟩
theorem GD.rds {A : M3} (h : GD A) : ∃ g0 g1 g2 : Nat, RD (134 + g0) (134 + g0) A.a A.s.x ∧ RD (134 + g1) (134 + g1) A.b A.s.y ∧ RD (134 + g2) (134 + g2) A.c A.s.z ∧ g0 + g1 + g2 ≤ 146 := by
  obtain ⟨g0, g1, g2, h0, h1, h2, h3, hs, _⟩ := h.ex
  exact ⟨g0, g1, g2, h0.rd h3 (.inl rfl), h1.rd h3 (.inr (.inl rfl)), h2.rd h3 (.inr (.inr rfl)), hs⟩
end My
namespace My
open PySem L2
theorem GD.mk' {p q r z : V3} {g0 g1 g2 : Nat} (h0 : RowG g0 p) (h1 : RowG g1 q) (h2 : RowG g2 r) (h3 : RowG 134 z) (hs : g0 + g1 + g2 ≤ 146) (l : g0 ≤ 134 ∧ g1 ≤ 134 ∧ g2 ≤ 134) : GD ⟨p, q, r, z⟩ := ⟨g0, g1, g2, h0, h1, h2, h3, hs, l.1, l.2.1, l.2.2⟩
theorem RowG.mk' {p : V3} {D N0 N1 N2 : Int} (h0 : 0 < D) (h1 : B 134 D) (h2 : B 134 N0) (h3 : B 134 N1) (h4 : B 134 N2) (e0 : p.x * (D : Rat) = N0) (e1 : p.y * (D : Rat) = N1) (e2 : p.z * (D : Rat) = N2) : RowG 134 p := ⟨D, N0, N1, N2, h0, h1, h2, h3, h4, e0, e1, e2⟩
theorem det_num {A : M3} (h : ¬ (det3 A).num = 0) : det3 A ≠ 0 := fun e => h (by rw [e]; rfl)
end My
namespace My
open PySem L2
theorem mn_still : MN 6 6 still := by
  have bi : ∀ a b c : Int, B 6 a → B 6 b → B 6 c → VN 6 6 (⟨(a : Rat), (b : Rat), (c : Rat)⟩ : V3) := fun a b c h1 h2 h3 => (VN.int3 h1 h2 h3).le (by decide) (by decide)
  refine ⟨?_, ?_, ?_, ?_⟩
  · have := bi 1 0 0 (B.lit (by decide)) (B.lit (by decide)) (B.lit (by decide))
    simpa [still, e0] using this
  · have := bi 0 1 0 (B.lit (by decide)) (B.lit (by decide)) (B.lit (by decide))
    simpa [still, e1] using this
  · have := bi 0 0 1 (B.lit (by decide)) (B.lit (by decide)) (B.lit (by decide))
    simpa [still, e2] using this
  · have := bi 0 0 0 (B.lit (by decide)) (B.lit (by decide)) (B.lit (by decide))
    simpa [still, o3] using this
end My
namespace My
open PySem L2 PySem.Calls PyProof.Rows
theorem run_gcd4 (a b c d : Int) (t1 t2 t3 t4 : Tok) : Gives (Builtin.«math.gcd» ⟨[.int a t1, .int b t2, .int c t3, .int d t4], []⟩) (.int (((((Nat.gcd 0 a.natAbs).gcd b.natAbs).gcd c.natAbs).gcd d.natAbs : Nat) : Int)) :=
  .of_wp fun M A E s Q h => by obtain ⟨hp, g, dd, tk, os⟩ := s; wp_walk; exact ⟨_, rfl, h⟩
theorem args_gcd4 (a b c d : Value) : argsOk "math.gcd" ⟨[a, b, c, d], []⟩ := by unfold argsOk; kernel_rfl
/-- the gcd of a list -/
def gl (xs : List Int) : Nat := xs.foldl (fun g x => Nat.gcd g x.natAbs) 0
def rGcd4 : List V → Hp → VK → Prop := fun xs H Q => ∃ a b c d : Int, xs = [.int a, .int b, .int c, .int d] ∧ Q (.int ((gl [a, b, c, d] : Nat) : Int)) H
theorem cr_gcd4 {X : Cx} : CallR X (.builtin "math.gcd") rGcd4 := by
  intro pins s σ H vs us Q I r h
  obtain ⟨a, b, c, d, rfl, q⟩ := h
  obtain ⟨t1, t2, t3, t4, rfl⟩ := Vals.int4 r
  exact call_function_meets PySem.W.MGF.kind_gcd PySem.W.MGF.plain_gcd PySem.W.MGF.entry_gcd (args_gcd4 _ _ _ _) (run_gcd4 a b c d t1 t2 t3 t4).meets ⟨.int _, H, I.tok _, ⟨_, rfl⟩, q⟩
theorem r_gcd4 {H : Hp} {Q : VK} {a b c d : Int} (q : Q (.int ((gl [a, b, c, d] : Nat) : Int)) H) : rGcd4 [.int a, .int b, .int c, .int d] H Q := ⟨a, b, c, d, rfl, q⟩
theorem gl4 (a b c d : Int) : gl [a, b, c, d] = Nat.gcd (Nat.gcd (Nat.gcd (a.natAbs) b.natAbs) c.natAbs) d.natAbs := by simp [gl]
theorem gl_dvd (a b c d : Int) : ((gl [a, b, c, d] : Nat) : Int) ∣ a ∧ ((gl [a, b, c, d] : Nat) : Int) ∣ b ∧ ((gl [a, b, c, d] : Nat) : Int) ∣ c ∧ ((gl [a, b, c, d] : Nat) : Int) ∣ d := by
  rw [gl4]
  refine ⟨Int.ofNat_dvd_left.2 ?_, Int.ofNat_dvd_left.2 ?_, Int.ofNat_dvd_left.2 ?_, Int.ofNat_dvd_left.2 ?_⟩
  · exact Nat.dvd_trans (Nat.gcd_dvd_left _ _) (Nat.dvd_trans (Nat.gcd_dvd_left _ _) (Nat.gcd_dvd_left _ _))
  · exact Nat.dvd_trans (Nat.gcd_dvd_left _ _) (Nat.dvd_trans (Nat.gcd_dvd_left _ _) (Nat.gcd_dvd_right _ _))
  · exact Nat.dvd_trans (Nat.gcd_dvd_left _ _) (Nat.gcd_dvd_right _ _)
  · exact Nat.gcd_dvd_right _ _
theorem gl_pos {a b c d : Int} (h : ¬ (a = 0 ∧ b = 0 ∧ c = 0)) : 0 < gl [a, b, c, d] := by
  refine Nat.pos_of_ne_zero fun e => h ?_
  obtain ⟨h1, h2, h3, _⟩ := gl_dvd a b c d
  rw [e] at h1 h2 h3
  exact ⟨Int.zero_dvd.1 h1, Int.zero_dvd.1 h2, Int.zero_dvd.1 h3⟩
theorem gl_mul (k : Nat) (a b c d : Int) : gl [a * k, b * k, c * k, d * k] = gl [a, b, c, d] * k := by
  simp only [gl4, Int.natAbs_mul, Int.natAbs_natCast, Nat.gcd_mul_right]
theorem gl_neg (a b c d : Int) : gl [-a, -b, -c, -d] = gl [a, b, c, d] := by simp only [gl4, Int.natAbs_neg]
/-- the first of three is positive, zeros left out -/
def Fst (a b c : Int) : Prop := 0 < a ∨ (a = 0 ∧ (0 < b ∨ (b = 0 ∧ 0 < c)))
structure PlF (a b c d : Int) : Prop where
  g : gl [a, b, c, d] = 1
  f : Fst a b c
/-- a half in lowest form of four integers -/
structure HF (a b c d p0 p1 p2 p3 sd g : Int) : Prop where
  pos : 0 < g
  s : sd = 1 ∨ sd = -1
  e0 : a = p0 * (sd * g)
  e1 : b = p1 * (sd * g)
  e2 : c = p2 * (sd * g)
  e3 : d = p3 * (sd * g)
  p : PlF p0 p1 p2 p3
theorem Fst.mul {a b c g : Int} (hg : 0 < g) (h : Fst a b c) : Fst (a * g) (b * g) (c * g) := by
  rcases h with h | ⟨rfl, h | ⟨rfl, h⟩⟩
  · exact .inl (Int.mul_pos h hg)
  · exact .inr ⟨Int.zero_mul _, .inl (Int.mul_pos h hg)⟩
  · exact .inr ⟨Int.zero_mul _, .inr ⟨Int.zero_mul _, Int.mul_pos h hg⟩⟩
theorem Fst.neg {a b c : Int} (h : Fst a b c) (h2 : Fst (-a) (-b) (-c)) : False := by
  simp only [Fst] at h h2
  omega
/-- lowest forms of fours on one ray are one -/
theorem HF.uniq {a b c d p0 p1 p2 p3 sd g a' b' c' d' q0 q1 q2 q3 sd' g' l m : Int} (h : HF a b c d p0 p1 p2 p3 sd g) (h' : HF a' b' c' d' q0 q1 q2 q3 sd' g') (hl : 0 < l) (hm : 0 < m) (x0 : a * l = a' * m) (x1 : b * l = b' * m) (x2 : c * l = c' * m) (x3 : d * l = d' * m) :
    q0 = p0 ∧ q1 = p1 ∧ q2 = p2 ∧ q3 = p3 ∧ sd' = sd := by
  obtain ⟨u, hu⟩ := Int.eq_ofNat_of_zero_le (Int.le_of_lt (Int.mul_pos h.pos hl))
  obtain ⟨v, hv⟩ := Int.eq_ofNat_of_zero_le (Int.le_of_lt (Int.mul_pos h'.pos hm))
  have u0 : 0 < (u : Int) := hu ▸ Int.mul_pos h.pos hl
  have v0 : 0 < (v : Int) := hv ▸ Int.mul_pos h'.pos hm
  rw [h.e0, h'.e0] at x0
  rw [h.e1, h'.e1] at x1
  rw [h.e2, h'.e2] at x2
  rw [h.e3, h'.e3] at x3
  have fin : ∀ t : Int, (t = 1 ∨ t = -1) → p0 * u = q0 * v * t → p1 * u = q1 * v * t → p2 * u = q2 * v * t → p3 * u = q3 * v * t → t = 1 ∧ q0 = p0 ∧ q1 = p1 ∧ q2 = p2 ∧ q3 = p3 := by
    intro t ht y0 y1 y2 y3
    have t1 : t = 1 := by
      rcases ht with rfl | rfl
      · rfl
      · refine (Fst.neg (h'.p.f.mul v0) ?_).elim
        have := h.p.f.mul u0
        rw [y0, y1, y2] at this
        simpa using this
    subst t1
    rw [Int.mul_one] at y0 y1 y2 y3
    have e1 := gl_mul u p0 p1 p2 p3
    have e2 := gl_mul v q0 q1 q2 q3
    rw [y0, y1, y2, y3, e2, h'.p.g, h.p.g] at e1
    have e : v = u := by omega
    subst e
    have z : (v : Int) ≠ 0 := by omega
    exact ⟨rfl, (Int.eq_of_mul_eq_mul_right z y0).symm, (Int.eq_of_mul_eq_mul_right z y1).symm, (Int.eq_of_mul_eq_mul_right z y2).symm, (Int.eq_of_mul_eq_mul_right z y3).symm⟩
  have go : ∀ p q : Int, p * (sd * g) * l = q * (sd' * g') * m → p * u = q * v * (sd * sd') := fun p q e => by
    rw [← hu, ← hv]
    rcases h.s with rfl | rfl <;> rcases h'.s with rfl | rfl <;> grind
  obtain ⟨t1, r⟩ := fin (sd * sd') (by rcases h.s with rfl | rfl <;> rcases h'.s with rfl | rfl <;> simp) (go _ _ x0) (go _ _ x1) (go _ _ x2) (go _ _ x3)
  refine ⟨r.1, r.2.1, r.2.2.1, r.2.2.2, ?_⟩
  rcases h.s with rfl | rfl <;> rcases h'.s with rfl | rfl <;> simp at t1 ⊢
theorem Fst.div {a b c g : Int} (hg : 0 < g) (h : Fst (a * g) (b * g) (c * g)) : Fst a b c := by
  have p : ∀ x : Int, 0 < x * g → 0 < x := fun x hx => Int.pos_of_mul_pos_left hx hg
  have z : ∀ x : Int, x * g = 0 → x = 0 := fun x hx => (Int.mul_eq_zero.1 hx).resolve_right (by omega)
  rcases h with h | ⟨e, h | ⟨e2, h⟩⟩
  · exact .inl (p _ h)
  · exact .inr ⟨z _ e, .inl (p _ h)⟩
  · exact .inr ⟨z _ e, .inr ⟨z _ e2, p _ h⟩⟩
theorem gl_B {k : Nat} {a b c d : Int} (h : ¬ (a = 0 ∧ b = 0 ∧ c = 0)) (ba : B k a) (bb : B k b) (bc : B k c) : B k ((gl [a, b, c, d] : Nat) : Int) := by
  obtain ⟨h1, h2, h3, _⟩ := gl_dvd a b c d
  have go : ∀ x : Int, x ≠ 0 → ((gl [a, b, c, d] : Nat) : Int) ∣ x → B k x → B k ((gl [a, b, c, d] : Nat) : Int) := fun x hx hd hb => B.of_le (y := x) (by
    have := Nat.le_of_dvd (by omega) (Int.natAbs_dvd_natAbs.2 hd)
    omega) hb
  by_cases ha : a = 0
  · by_cases hb : b = 0
    · exact go c (fun e => h ⟨ha, hb, e⟩) h3 bc
    · exact go b hb h2 bb
  · exact go a ha h1 ba
theorem hf_mk {a b c d sd : Int} (h0 : ¬ (a = 0 ∧ b = 0 ∧ c = 0)) (hs : (sd = 1 ∧ Fst a b c) ∨ (sd = -1 ∧ Fst (-a) (-b) (-c))) :
    HF a b c d (a.fdiv (sd * ((gl [a, b, c, d] : Nat) : Int))) (b.fdiv (sd * ((gl [a, b, c, d] : Nat) : Int))) (c.fdiv (sd * ((gl [a, b, c, d] : Nat) : Int))) (d.fdiv (sd * ((gl [a, b, c, d] : Nat) : Int))) sd ((gl [a, b, c, d] : Nat) : Int) := by
  have gp := gl_pos (d := d) h0
  obtain ⟨⟨x, ex⟩, ⟨y, ey⟩, ⟨z, ez⟩, ⟨t, et⟩⟩ := gl_dvd a b c d
  have e1 := gl_mul (gl [a, b, c, d]) x y z t
  generalize hg : gl [a, b, c, d] = g at *
  have g0 : 0 < (g : Int) := by omega
  have hx : a = x * g := by rw [ex, Int.mul_comm]
  have hy : b = y * g := by rw [ey, Int.mul_comm]
  have hz : c = z * g := by rw [ez, Int.mul_comm]
  have ht : d = t * g := by rw [et, Int.mul_comm]
  rw [← hx, ← hy, ← hz, ← ht, hg] at e1
  have g1 : gl [x, y, z, t] = 1 := by
    have : 1 * g = gl [x, y, z, t] * g := by omega
    exact (Nat.eq_of_mul_eq_mul_right gp this).symm
  have sn : sd = 1 ∨ sd = -1 := hs.imp And.left And.left
  have nz : sd * (g : Int) ≠ 0 := by
    rcases sn with rfl | rfl <;> omega
  have dv : ∀ u v : Int, u = v * g → u.fdiv (sd * g) = sd * v := fun u v e => by
    have : u = (sd * v) * (sd * g) := by rcases sn with rfl | rfl <;> grind
    rw [this, Int.mul_fdiv_cancel _ nz]
  rw [dv a x hx, dv b y hy, dv c z hz, dv d t ht]
  have bk : ∀ u v : Int, u = v * g → u = sd * v * (sd * g) := fun u v e => by rcases sn with rfl | rfl <;> grind
  refine ⟨g0, sn, bk _ _ hx, bk _ _ hy, bk _ _ hz, bk _ _ ht, ⟨?_, ?_⟩⟩
  · rcases sn with rfl | rfl
    · simpa using g1
    · have e : gl [-1 * x, -1 * y, -1 * z, -1 * t] = gl [x, y, z, t] := by
        rw [← gl_neg]
        congr 1 <;> simp
      rw [e, g1]
  · rcases hs with ⟨rfl, f⟩ | ⟨rfl, f⟩
    · rw [hx, hy, hz] at f
      simpa using f.div g0
    · rw [hx, hy, hz, ← Int.neg_mul, ← Int.neg_mul, ← Int.neg_mul] at f
      simpa using f.div g0
end My
namespace My
open PySem L2 PySem.Calls PyProof.Rows
section
variable {X : Cx} {K : PySem.W.Frag} {a b : Expr} {ta tb : TE} {rst : List Expr} {pos : Pos} {σ : L2.St} {H : Hp} {Q : VK}
theorem kp_orT (hK : X.K = K) (ha : PE X a ta) (hb : PE X (.BoolOp .Or (b :: rst) pos) tb) : PE X (.BoolOp .Or (a :: b :: rst) pos) (tOrT K ta tb) := hK ▸ pe_orT ha hb
theorem w_orT (h : ta σ H fun x H1 => ∃ k, TruV K x H1 k ∧ if k = true then Q x H1 else tb σ H1 Q) : tOrT K ta tb σ H Q := h
theorem r_orI {i : Int} {A B : Prop} (h1 : i ≠ 0 → A) (h2 : i = 0 → B) : ∃ k, TruV K (.int i) H k ∧ if k = true then A else B := by
  by_cases e : i = 0
  · exact ⟨false, by simp [TruV, e], by simpa using h2 e⟩
  · exact ⟨true, by simp [TruV, e], by simpa using h1 e⟩
end
end My
namespace My
open PySem L2 PySem.Calls PyProof.Rows
section
variable {X : Cx} {K : PySem.W.Frag} {H H' : Hp} {Q : VK}
theorem PG.or {e : Expr} {t1 t2 : TG} (h1 : PG X e t1) (h2 : PG X e t2) : PG X e (fun v σ H Q => t1 v σ H Q ∨ t2 v σ H Q) := ⟨fun pins s σ H v u Q I r hw => hw.elim (h1.run pins s σ H v u Q I r) (h2.run pins s σ H v u Q I r)⟩
def gAny (K : PySem.W.Frag) (n : Nat) (t : TGs) : TG := fun v σ H Q => gTup K n t v σ H Q ∨ gUnL K n t v σ H Q
theorem kg_any (hK : X.K = K) {es : List Expr} {k n : Nat} {t : TGs} {pos : Pos} (hc : X.calm = true) (h : PGs X es t)
    (hn : (assignEach es X.env).length = n := by rfl) (hst : (assignEach es X.env).findIdx? (·.1) = none := by rfl) : PG X (.Tuple es k pos) (gAny K n t) := PG.or (kg_tup hK hc h hn hst) (kg_lst hK hc h hn hst)
/-- a tuple or a list -/
def SqA (K : PySem.W.Frag) (H : Hp) (a : Addr) (xs : List V) : Prop := SqT K H a xs ∨ SqL K H a xs
theorem SqA.t {a : Addr} {xs : List V} (h : SqT K H a xs) : SqA K H a xs := .inl h
theorem SqA.l {a : Addr} {xs : List V} (h : SqL K H a xs) : SqA K H a xs := .inr h
theorem SqA.same {a : Addr} {xs : List V} (e : Same H H') (h : SqA K H a xs) : SqA K H' a xs := h.imp (fun q => Same.tup e q) (fun q => Same.seq e q)
theorem w_gAny {σ : L2.St} {Q : L2.St → Hp → Prop} {n : Nat} {gs : TGs} {a : Addr} {xs : List V} (q : SqA K H a xs) (hn : xs.length = n) (h : gs xs σ H Q) : gAny K n gs (.ref a) σ H Q := q.imp (fun q => ⟨a, xs, rfl, q, hn, h⟩) (fun q => ⟨a, xs, rfl, q, hn, h⟩)
theorem r_ixSA {p : Addr} {xs : List V} {i : Int} {v : V} (q : SqA K H p xs) (a : atI xs i = some v) (h : Q v H) : rIxA K (.ref p) (.int i) H Q := q.elim (fun q => r_ixAT q a h) (fun q => r_ixAL q a h)
/-- a point in a tuple or a list -/
def VcA (K : PySem.W.Frag) (H : Hp) (v : Addr) (p : V3) : Prop := ∃ x y z : Addr, SqA K H v [.ref x, .ref y, .ref z] ∧ SqT K H x [.int p.x.num, .int (p.x.den : Int)] ∧ SqT K H y [.int p.y.num, .int (p.y.den : Int)] ∧ SqT K H z [.int p.z.num, .int (p.z.den : Int)]
end
/-- the sign of a ratio -/
def sg (q : Rat) : Int := if 0 < q then 1 else if q < 0 then -1 else 0
/-- the value of a plane at a point -/
def pval (a b c d : Int) (p : V3) : Rat := (a : Rat) * p.x + (b : Rat) * p.y + (c : Rat) * p.z + (d : Rat)
theorem side_sg {a b c d g : Int} {p : V3} (e : g = a * p.x.num * (p.y.den : Int) * (p.z.den : Int) + b * p.y.num * (p.x.den : Int) * (p.z.den : Int) + c * p.z.num * (p.x.den : Int) * (p.y.den : Int) + d * (p.x.den : Int) * (p.y.den : Int) * (p.z.den : Int)) :
    ((if 0 < g then 1 else 0) - (if g < 0 then 1 else 0) : Int) = sg (pval a b c d p) := by
  have e0 := numc p.x
  have e1 := numc p.y
  have e2 := numc p.z
  have dp : (0 : Rat) < ((p.x.den : Int) : Rat) * ((p.y.den : Int) : Rat) * ((p.z.den : Int) : Rat) := by
    have q : ∀ r : Rat, (0 : Rat) < ((r.den : Int) : Rat) := fun r => by exact_mod_cast denP r
    exact Rat.mul_pos (Rat.mul_pos (q _) (q _)) (q _)
  have eg : (g : Rat) = pval a b c d p * (((p.x.den : Int) : Rat) * ((p.y.den : Int) : Rat) * ((p.z.den : Int) : Rat)) := by
    rw [e]
    simp only [Rat.intCast_add, Rat.intCast_mul, pval]
    rw [← e0, ← e1, ← e2]
    grind
  generalize ((p.x.den : Int) : Rat) * ((p.y.den : Int) : Rat) * ((p.z.den : Int) : Rat) = D at *
  generalize pval a b c d p = q at *
  clear e e0 e1 e2
  have g1 : 0 < g → (0 : Rat) < (g : Rat) := fun h => by exact_mod_cast h
  have g2 : g < 0 → (g : Rat) < 0 := fun h => by exact_mod_cast h
  have g3 : g = 0 → (g : Rat) = 0 := fun h => by exact_mod_cast h
  have t : ∀ x y : Rat, 0 < y → 0 < x * y → 0 < x := fun x y hy h => by
    by_cases h2 : x = 0
    · rw [h2] at h
      grind
    · by_cases h1 : 0 < x
      · exact h1
      · have := Rat.mul_pos (show 0 < -x by grind) hy
        grind
  simp only [sg]
  rcases Int.lt_trichotomy g 0 with h | h | h
  · have n := g2 h
    have m : 0 < -q := t (-q) D dp (by grind)
    rw [if_neg (show ¬ (0 < g) by omega), if_pos h, if_neg (show ¬ (0 < q) by grind), if_pos (show q < 0 by grind)]
    rfl
  · have n := g3 h
    have m : q = 0 := by
      rw [eg] at n
      rcases Rat.mul_eq_zero.1 n with n | n
      · exact n
      · grind
    rw [m, h]
    rfl
  · have n := g1 h
    have m : 0 < q := t q D dp (by grind)
    rw [if_pos h, if_neg (show ¬ (g < 0) by omega), if_pos m]
    rfl
end My
namespace My
open PySem L2
theorem VcA.of {K : PySem.W.Frag} {H : Hp} {v : Addr} {p : V3} (h : Vc K H v p) : VcA K H v p := by
  obtain ⟨x, y, z, h1, h2, h3, h4⟩ := h
  exact ⟨x, y, z, .inl h1, h2, h3, h4⟩
theorem VcA.same {K : PySem.W.Frag} {H H' : Hp} {v : Addr} {p : V3} (e : Same H H') (h : VcA K H v p) : VcA K H' v p := by
  obtain ⟨x, y, z, h1, h2, h3, h4⟩ := h
  exact ⟨x, y, z, h1.same e, Same.tup e h2, Same.tup e h3, Same.tup e h4⟩
theorem VcA.fr {K : PySem.W.Frag} {H H' : Hp} {s v : Addr} {p : V3} (e : Fr s H H') (st : St K H s) (h : VcA K H v p) : VcA K H' v p := by
  obtain ⟨x, y, z, h1, h2, h3, h4⟩ := h
  exact ⟨x, y, z, h1.imp (fun q => Fr.tup e st q) (fun q => Fr.seq e st q rfl), Fr.tup e st h2, Fr.tup e st h3, Fr.tup e st h4⟩
end My
namespace My
open PySem L2
theorem HF.out {k : Nat} {a b c d p0 p1 p2 p3 sd g : Int} (h : HF a b c d p0 p1 p2 p3 sd g) (ba : B k a) (bb : B k b) (bc : B k c) (bd : B k d) : PlF p0 p1 p2 p3 ∧ B k p0 ∧ B k p1 ∧ B k p2 ∧ B k p3 := by
  have nz : sd * g ≠ 0 := by
    have := h.pos
    rcases h.s with rfl | rfl <;> omega
  exact ⟨h.p, B.of_le (nat_le_mul nz h.e0) ba, B.of_le (nat_le_mul nz h.e1) bb, B.of_le (nat_le_mul nz h.e2) bc, B.of_le (nat_le_mul nz h.e3) bd⟩
theorem gl_form (a b c d : Int) : Nat.gcd ((a.natAbs.gcd b.natAbs : Nat) : Int).natAbs ((c.natAbs.gcd d.natAbs : Nat) : Int).natAbs = gl [a, b, c, d] := by
  rw [gl4, Int.natAbs_natCast, Int.natAbs_natCast, Nat.gcd_assoc, Nat.gcd_assoc, Nat.gcd_assoc]
/-- a ratio of integers that is a plane's value -/
theorem pval_q {a b c d : Int} {p : V3} {t m : Int} (em : m = (p.x.den : Int) * (p.y.den : Int) * (p.z.den : Int)) (et : t = a * p.x.num * (p.y.den : Int) * (p.z.den : Int) + b * p.y.num * (p.x.den : Int) * (p.z.den : Int) + c * p.z.num * (p.x.den : Int) * (p.y.den : Int) + d * m) : (t : Rat) / (m : Rat) = pval a b c d p := by
  have e0 := numc p.x
  have e1 := numc p.y
  have e2 := numc p.z
  have b0 := icz (denI p.x)
  have b1 := icz (denI p.y)
  have b2 := icz (denI p.z)
  rw [et, em]
  simp only [Rat.intCast_add, Rat.intCast_mul, pval]
  rw [← e0, ← e1, ← e2]
  grind
end My
namespace My
open PySem L2
/-- what is known of a, b, c after i steps of a search, at t -/
def PI3 (a b c : Int) (i : Nat) (t : Int) : Prop := (t = 0 ∧ a ≠ 0) ∨ (t = 1 ∧ b ≠ 0) ∨ (t = 2 ∧ c ≠ 0) ∨ i = 0 ∨ (i ≤ 1 ∧ ((t = 0 ∧ c = 0) ∨ (t = 1 ∧ a = 0) ∨ (t = 2 ∧ b = 0))) ∨ (i ≤ 2 ∧ ((t = 0 ∧ b = 0 ∧ c = 0) ∨ (t = 1 ∧ c = 0 ∧ a = 0) ∨ (t = 2 ∧ a = 0 ∧ b = 0)))
theorem PI3.s0 {a b c : Int} {i : Nat} (nz : ¬ (a = 0 ∧ b = 0 ∧ c = 0)) (h : PI3 a b c i 0) (e : a = 0) : PI3 a b c (i + 1) 1 := by unfold PI3 at h ⊢; omega
theorem PI3.s1 {a b c : Int} {i : Nat} (nz : ¬ (a = 0 ∧ b = 0 ∧ c = 0)) (h : PI3 a b c i 1) (e : b = 0) : PI3 a b c (i + 1) 2 := by unfold PI3 at h ⊢; omega
theorem PI3.s2 {a b c : Int} {i : Nat} (nz : ¬ (a = 0 ∧ b = 0 ∧ c = 0)) (h : PI3 a b c i 2) (e : c = 0) : PI3 a b c (i + 1) 0 := by unfold PI3 at h ⊢; omega
theorem PI3.k0 {a b c : Int} {i : Nat} (e : a ≠ 0) : PI3 a b c (i + 1) 0 := .inl ⟨rfl, e⟩
theorem PI3.k1 {a b c : Int} {i : Nat} (e : b ≠ 0) : PI3 a b c (i + 1) 1 := .inr (.inl ⟨rfl, e⟩)
theorem PI3.k2 {a b c : Int} {i : Nat} (e : c ≠ 0) : PI3 a b c (i + 1) 2 := .inr (.inr (.inl ⟨rfl, e⟩))
theorem PI3.end {a b c t : Int} (h : PI3 a b c 3 t) : (t = 0 ∧ a ≠ 0) ∨ (t = 1 ∧ b ≠ 0) ∨ (t = 2 ∧ c ≠ 0) := by unfold PI3 at h; omega
theorem pval_x {a b c d : Int} {p : V3} (h : (a : Rat) ≠ 0) : pval a b c d ⟨p.x - pval a b c d p / (a : Rat), p.y, p.z⟩ = 0 := by simp only [pval]; grind
theorem pval_y {a b c d : Int} {p : V3} (h : (b : Rat) ≠ 0) : pval a b c d ⟨p.x, p.y - pval a b c d p / (b : Rat), p.z⟩ = 0 := by simp only [pval]; grind
theorem pval_z {a b c d : Int} {p : V3} (h : (c : Rat) ≠ 0) : pval a b c d ⟨p.x, p.y, p.z - pval a b c d p / (c : Rat)⟩ = 0 := by simp only [pval]; grind
end My
namespace My
open PySem L2
theorem r_setT {K : PySem.W.Frag} {H H0 : Hp} {l : Addr} {xs ys : List V} {v : V} {Q : Hp → Prop} {k : Int} {j : Nat} (nl : H0 l = none) (e : Same H0 H) (h : H l = some (.lst xs)) (ix : ixN xs.length k = some j) (ey : xs.set j v = ys)
    (q : ∀ H1, Same H0 H1 → TK K H H1 → H1 l = some (.lst ys) → Q H1) : rSetL (.ref l) (.int k) v H Q :=
  r_setL h ix ey (q _ (Same.mut e nl) (TK.upd h) upd_same)
theorem bn_qd {n d k : Nat} {q : Rat} {a : Int} (h : BN n d q) (ha : a ≠ 0) (ba : B k a) : BN n (d + k) (q / (a : Rat)) := by
  have e : q / (a : Rat) = (q.num : Rat) / (((q.den : Int) * a : Int) : Rat) := by
    have a1 := numc q
    have b1 := icz (denI q)
    have b2 := icz ha
    rw [← a1, Rat.intCast_mul]
    grind
  rw [e]
  exact BN.dv (Int.mul_ne_zero (denI q) ha) h.n (B.mul h.d ba)
end My

set_option Elab.async false
set_option maxRecDepth 100000
set_option linter.all false
namespace My
open PySem L2
/-! moved halves -/
/-- the half that the move A makes of the half a b c d, s -/
structure MH (A : M3) (a b c d s q0 q1 q2 q3 t : Int) : Prop where
  p : PlF q0 q1 q2 q3
  ts : t = 1 ∨ t = -1
  ex : ∃ l : Rat, 0 < l ∧ ∀ v : V3, (t : Rat) * pval q0 q1 q2 q3 (app A v) = l * ((s : Rat) * pval a b c d v)
theorem app_inv {A : M3} (h : det3 A ≠ 0) (v : V3) : app A (app (minv A) v) = v := by
  rw [← app_comb, minv_comb h, app_still]
theorem pval_o {a b c d : Int} : pval a b c d o3 = (d : Rat) := by simp only [pval, o3]; grind
theorem pval_e0 {a b c d : Int} : pval a b c d e0 = (a : Rat) + (d : Rat) := by simp only [pval, e0]; grind
theorem pval_e1 {a b c d : Int} : pval a b c d e1 = (b : Rat) + (d : Rat) := by simp only [pval, e1]; grind
theorem pval_e2 {a b c d : Int} : pval a b c d e2 = (c : Rat) + (d : Rat) := by simp only [pval, e2]; grind
theorem rat_int {l m : Rat} {x y : Int} (h : l * (x : Rat) = m * (y : Rat)) : x * (l.num * (m.den : Int)) = y * (m.num * (l.den : Int)) := by
  have e1 := numc l
  have e2 := numc m
  have k : ((x * (l.num * (m.den : Int)) : Int) : Rat) = ((y * (m.num * (l.den : Int)) : Int) : Rat) := by
    simp only [Rat.intCast_mul]
    rw [← e1, ← e2]
    generalize ((l.den : Int) : Rat) = ld at *
    generalize ((m.den : Int) : Rat) = md at *
    clear e1 e2
    have : (x : Rat) * (l * ld * md) = (l * (x : Rat)) * (ld * md) := by grind
    rw [this, h]
    grind
  exact_mod_cast k
theorem HF.self {q0 q1 q2 q3 t : Int} (p : PlF q0 q1 q2 q3) (ht : t = 1 ∨ t = -1) : HF (t * q0) (t * q1) (t * q2) (t * q3) q0 q1 q2 q3 t 1 :=
  ⟨by decide, ht, by rw [Int.mul_one, Int.mul_comm], by rw [Int.mul_one, Int.mul_comm], by rw [Int.mul_one, Int.mul_comm], by rw [Int.mul_one, Int.mul_comm], p⟩
theorem MH.uniq {A : M3} {a b c d s q0 q1 q2 q3 t r0 r1 r2 r3 u : Int} (hA : det3 A ≠ 0) (h : MH A a b c d s q0 q1 q2 q3 t) (h' : MH A a b c d s r0 r1 r2 r3 u) :
    r0 = q0 ∧ r1 = q1 ∧ r2 = q2 ∧ r3 = q3 ∧ u = t := by
  obtain ⟨l, hl, e⟩ := h.ex
  obtain ⟨m, hm, f⟩ := h'.ex
  have g : ∀ v : V3, m * ((t : Rat) * pval q0 q1 q2 q3 v) = l * ((u : Rat) * pval r0 r1 r2 r3 v) := fun v => by
    have e1 := e (app (minv A) v)
    have f1 := f (app (minv A) v)
    rw [app_inv hA] at e1 f1
    rw [e1, f1]
    grind
  have g0 := g o3
  have g1 := g e0
  have g2 := g e1
  have g3 := g e2
  rw [pval_o, pval_o] at g0
  rw [pval_e0, pval_e0] at g1
  rw [pval_e1, pval_e1] at g2
  rw [pval_e2, pval_e2] at g3
  have x3 : m * (((t * q3 : Int)) : Rat) = l * ((u * r3 : Int) : Rat) := by simp only [Rat.intCast_mul]; exact g0
  have x0 : m * (((t * q0 : Int)) : Rat) = l * ((u * r0 : Int) : Rat) := by simp only [Rat.intCast_mul]; grind
  have x1 : m * (((t * q1 : Int)) : Rat) = l * ((u * r1 : Int) : Rat) := by simp only [Rat.intCast_mul]; grind
  have x2 : m * (((t * q2 : Int)) : Rat) = l * ((u * r2 : Int) : Rat) := by simp only [Rat.intCast_mul]; grind
  have pl := num_pos.2 hl
  have pm := num_pos.2 hm
  exact HF.uniq (HF.self h.p h.ts) (HF.self h'.p h'.ts) (Int.mul_pos pm (denP l)) (Int.mul_pos pl (denP m)) (rat_int x0) (rat_int x1) (rat_int x2) (rat_int x3)
theorem MH.comb {A C : M3} {a b c d s q0 q1 q2 q3 t r0 r1 r2 r3 u : Int} (h : MH A a b c d s q0 q1 q2 q3 t) (h' : MH C q0 q1 q2 q3 t r0 r1 r2 r3 u) : MH (comb A C) a b c d s r0 r1 r2 r3 u := by
  obtain ⟨l, hl, e⟩ := h.ex
  obtain ⟨m, hm, f⟩ := h'.ex
  refine ⟨h'.p, h'.ts, m * l, Rat.mul_pos hm hl, fun v => ?_⟩
  rw [app_comb, f, e]
  grind
theorem MH.neg {A : M3} {a b c d s q0 q1 q2 q3 t : Int} (h : MH A a b c d s q0 q1 q2 q3 t) : MH A a b c d (-s) q0 q1 q2 q3 (-t) := by
  obtain ⟨l, hl, e⟩ := h.ex
  refine ⟨h.p, by rcases h.ts with h | h <;> omega, l, hl, fun v => ?_⟩
  have := e v
  rw [Rat.intCast_neg, Rat.intCast_neg]
  grind
theorem MH.still {a b c d s : Int} (p : PlF a b c d) (hs : s = 1 ∨ s = -1) : MH still a b c d s a b c d s :=
  ⟨p, hs, 1, by decide, fun v => by rw [app_still]; grind⟩
theorem sg_pos {x : Rat} (h : 0 < x) : sg x = 1 := by simp only [sg, if_pos h]
theorem sg_neg {x : Rat} (h : x < 0) : sg x = -1 := by
  have : ¬ 0 < x := by grind
  simp only [sg, if_neg this, if_pos h]
theorem sg_0 : sg 0 = 0 := by decide
theorem sg_mul {l x : Rat} (h : 0 < l) : sg (l * x) = sg x := by
  rcases rat_tri 0 x with e | e | e
  · rw [sg_pos e, sg_pos (Rat.mul_pos h e)]
  · rw [← e, Rat.mul_zero]
  · have : 0 < l * (-x) := Rat.mul_pos h (by grind)
    rw [sg_neg e, sg_neg (by grind)]
theorem sg_opp {x : Rat} : sg (-x) = - sg x := by
  rcases rat_tri 0 x with e | e | e
  · rw [sg_pos e, sg_neg (by grind)]
  · rw [← e, sg_0]; decide
  · rw [sg_neg e, sg_pos (by grind)]; decide
theorem sg_s {s : Int} {x : Rat} (h : s = 1 ∨ s = -1) : sg ((s : Rat) * x) = s * sg x := by
  rcases h with rfl | rfl
  · rw [show ((1 : Int) : Rat) * x = x by grind]; omega
  · rw [show ((-1 : Int) : Rat) * x = -x by grind, sg_opp]; omega
theorem MH.sg {A : M3} {a b c d s q0 q1 q2 q3 t : Int} (h : MH A a b c d s q0 q1 q2 q3 t) (hs : s = 1 ∨ s = -1) (v : V3) : My.sg (pval q0 q1 q2 q3 (app A v)) = My.sg (pval a b c d v) * s * t := by
  obtain ⟨l, hl, e⟩ := h.ex
  have e1 := congrArg My.sg (e v)
  rw [sg_mul hl, sg_s hs, sg_s h.ts] at e1
  have ht := h.ts
  have : t * t = 1 := by rcases ht with rfl | rfl <;> rfl
  have e2 : t * (t * My.sg (pval q0 q1 q2 q3 (app A v))) = t * (s * My.sg (pval a b c d v)) := by rw [e1]
  rw [← Int.mul_assoc, this, Int.one_mul] at e2
  rw [e2]
  grind
theorem sg_val {x : Rat} : sg x = 1 ∨ sg x = 0 ∨ sg x = -1 := by
  rcases rat_tri 0 x with e | e | e
  · exact .inl (sg_pos e)
  · rw [← e]; exact .inr (.inl sg_0)
  · exact .inr (.inr (sg_neg e))
/-- what moved_half makes of a half, as four integers -/
theorem mh_of {A : M3} {e0 f0 e1 f1 e2 f2 : Nat} {a0 a1 a2 a3 a4 b0 b1 b2 b3 b4 c0 c1 c2 c3 c4 D p q r d s z n0 n1 n2 n3 : Int} (wa : WR e0 f0 A.a A.s.x a0 a1 a2 a3 a4) (wb : WR e1 f1 A.b A.s.y b0 b1 b2 b3 b4) (wc : WR e2 f2 A.c A.s.z c0 c1 c2 c3 c4)
    (hD : D = a0 * (b1 * c2 - b2 * c1) + a1 * (b2 * c0 - b0 * c2) + a2 * (b0 * c1 - b1 * c0)) (hn : D ≠ 0) (hz : (D > 0 → z = 1) ∧ (D < 0 → z = -1))
    (h0 : n0 = s * z * (p * (b1 * c2 - b2 * c1) + q * (b2 * c0 - b0 * c2) + r * (b0 * c1 - b1 * c0)) * a4)
    (h1 : n1 = s * z * (p * (c1 * a2 - c2 * a1) + q * (c2 * a0 - c0 * a2) + r * (c0 * a1 - c1 * a0)) * b4)
    (h2 : n2 = s * z * (p * (a1 * b2 - a2 * b1) + q * (a2 * b0 - a0 * b2) + r * (a0 * b1 - a1 * b0)) * c4)
    (h3 : n3 = s * z * d * D - (s * z * (p * (b1 * c2 - b2 * c1) + q * (b2 * c0 - b0 * c2) + r * (b0 * c1 - b1 * c0)) * a3 + (s * z * (p * (c1 * a2 - c2 * a1) + q * (c2 * a0 - c0 * a2) + r * (c0 * a1 - c1 * a0)) * b3 + (s * z * (p * (a1 * b2 - a2 * b1) + q * (a2 * b0 - a0 * b2) + r * (a0 * b1 - a1 * b0)) * c3 + 0)))) :
    ∃ l : Rat, 0 < l ∧ ∀ v : V3, pval n0 n1 n2 n3 (app A v) = l * ((s : Rat) * pval p q r d v) := by
  refine ⟨((z * D : Int) : Rat), ?_, fun v => ?_⟩
  · have : 0 < z * D := by
      rcases Int.lt_or_gt_of_ne hn with h | h
      · rw [hz.2 h]; omega
      · rw [hz.1 h]; omega
    exact_mod_cast this
  · have pa0 := wa.e0; have pa1 := wa.e1; have pa2 := wa.e2; have pa3 := wa.e3
    have pb0 := wb.e0; have pb1 := wb.e1; have pb2 := wb.e2; have pb3 := wb.e3
    have pc0 := wc.e0; have pc1 := wc.e1; have pc2 := wc.e2; have pc3 := wc.e3
    rw [h0, h1, h2, h3, hD]
    clear h0 h1 h2 h3 hD hn hz wa wb wc
    simp only [pval, app, mvec, va, dt, Rat.intCast_add, Rat.intCast_sub, Rat.intCast_mul]
    have y0 : (A.a.x * v.x + A.a.y * v.y + A.a.z * v.z + A.s.x) * (a4 : Rat) = (a0 : Rat) * v.x + a1 * v.y + a2 * v.z + a3 := by rw [← pa0, ← pa1, ← pa2, ← pa3]; grind
    have y1 : (A.b.x * v.x + A.b.y * v.y + A.b.z * v.z + A.s.y) * (b4 : Rat) = (b0 : Rat) * v.x + b1 * v.y + b2 * v.z + b3 := by rw [← pb0, ← pb1, ← pb2, ← pb3]; grind
    have y2 : (A.c.x * v.x + A.c.y * v.y + A.c.z * v.z + A.s.z) * (c4 : Rat) = (c0 : Rat) * v.x + c1 * v.y + c2 * v.z + c3 := by rw [← pc0, ← pc1, ← pc2, ← pc3]; grind
    clear pa0 pa1 pa2 pa3 pb0 pb1 pb2 pb3 pc0 pc1 pc2 pc3
    generalize A.a.x * v.x + A.a.y * v.y + A.a.z * v.z + A.s.x = X at *
    generalize A.b.x * v.x + A.b.y * v.y + A.b.z * v.z + A.s.y = Y at *
    generalize A.c.x * v.x + A.c.y * v.y + A.c.z * v.z + A.s.z = Z at *
    generalize (a4 : Rat) = a4 at *
    generalize (b4 : Rat) = b4 at *
    generalize (c4 : Rat) = c4 at *
    have w : ∀ k m n : Rat, k * m * n = k * (n * m) := fun k m n => by grind
    rw [w _ a4 X, w _ b4 Y, w _ c4 Z, y0, y1, y2]
    clear y0 y1 y2 w
    grind
theorem mh_nz {a0 a1 a2 a4 b0 b1 b2 b4 c0 c1 c2 c4 D p q r s z : Int}
    (hD : D = a0 * (b1 * c2 - b2 * c1) + a1 * (b2 * c0 - b0 * c2) + a2 * (b0 * c1 - b1 * c0)) (hn : D ≠ 0) (hs : s ≠ 0) (hz : z ≠ 0) (h4 : a4 ≠ 0 ∧ b4 ≠ 0 ∧ c4 ≠ 0) (hp : ¬ (p = 0 ∧ q = 0 ∧ r = 0)) :
    ¬ (s * z * (p * (b1 * c2 - b2 * c1) + q * (b2 * c0 - b0 * c2) + r * (b0 * c1 - b1 * c0)) * a4 = 0 ∧ s * z * (p * (c1 * a2 - c2 * a1) + q * (c2 * a0 - c0 * a2) + r * (c0 * a1 - c1 * a0)) * b4 = 0 ∧
      s * z * (p * (a1 * b2 - a2 * b1) + q * (a2 * b0 - a0 * b2) + r * (a0 * b1 - a1 * b0)) * c4 = 0) := by
  rintro ⟨x, y, w⟩
  have sz := mul0 hs hz
  have k : ∀ {t u : Int}, s * z * t * u = 0 → u ≠ 0 → t = 0 := fun h hu => ((Int.mul_eq_zero.1 ((Int.mul_eq_zero.1 h).resolve_right hu)).resolve_left sz)
  have x' := k x h4.1
  have y' := k y h4.2.1
  have w' := k w h4.2.2
  clear x y w k
  have g : ∀ t : Int, D * t = 0 → t = 0 := fun t h => (Int.mul_eq_zero.1 h).resolve_left hn
  refine hp ⟨g p ?_, g q ?_, g r ?_⟩
  · have : D * p = (p * (b1 * c2 - b2 * c1) + q * (b2 * c0 - b0 * c2) + r * (b0 * c1 - b1 * c0)) * a0 + (p * (c1 * a2 - c2 * a1) + q * (c2 * a0 - c0 * a2) + r * (c0 * a1 - c1 * a0)) * b0 + (p * (a1 * b2 - a2 * b1) + q * (a2 * b0 - a0 * b2) + r * (a0 * b1 - a1 * b0)) * c0 := by rw [hD]; grind
    rw [this, x', y', w']; omega
  · have : D * q = (p * (b1 * c2 - b2 * c1) + q * (b2 * c0 - b0 * c2) + r * (b0 * c1 - b1 * c0)) * a1 + (p * (c1 * a2 - c2 * a1) + q * (c2 * a0 - c0 * a2) + r * (c0 * a1 - c1 * a0)) * b1 + (p * (a1 * b2 - a2 * b1) + q * (a2 * b0 - a0 * b2) + r * (a0 * b1 - a1 * b0)) * c1 := by rw [hD]; grind
    rw [this, x', y', w']; omega
  · have : D * r = (p * (b1 * c2 - b2 * c1) + q * (b2 * c0 - b0 * c2) + r * (b0 * c1 - b1 * c0)) * a2 + (p * (c1 * a2 - c2 * a1) + q * (c2 * a0 - c0 * a2) + r * (c0 * a1 - c1 * a0)) * b2 + (p * (a1 * b2 - a2 * b1) + q * (a2 * b0 - a0 * b2) + r * (a0 * b1 - a1 * b0)) * c2 := by rw [hD]; grind
    rw [this, x', y', w']; omega
theorem MH.of {A : M3} {a b c d s n0 n1 n2 n3 q0 q1 q2 q3 t g : Int} (h : HF n0 n1 n2 n3 q0 q1 q2 q3 t g) (e : ∃ l : Rat, 0 < l ∧ ∀ v : V3, pval n0 n1 n2 n3 (app A v) = l * ((s : Rat) * pval a b c d v)) : MH A a b c d s q0 q1 q2 q3 t := by
  obtain ⟨l, hl, e⟩ := e
  have gp : (0 : Rat) < (g : Rat) := by exact_mod_cast h.pos
  have gz : (g : Rat) ≠ 0 := by grind
  refine ⟨h.p, h.s, l / (g : Rat), (by rw [Rat.lt_div_iff gp]; grind), fun v => ?_⟩
  have e1 := e v
  rw [h.e0, h.e1, h.e2, h.e3] at e1
  have tt : (t : Rat) * (t : Rat) = 1 := by rcases h.s with rfl | rfl <;> simp <;> grind
  have e2 : pval (q0 * (t * g)) (q1 * (t * g)) (q2 * (t * g)) (q3 * (t * g)) (app A v) = (g : Rat) * ((t : Rat) * pval q0 q1 q2 q3 (app A v)) := by
    simp only [pval, Rat.intCast_mul]
    grind
  rw [e2] at e1
  generalize (t : Rat) * pval q0 q1 q2 q3 (app A v) = L at *
  generalize (s : Rat) * pval a b c d v = R at *
  have : L = (g : Rat) * L / (g : Rat) := by grind
  rw [this, e1]
  grind
end My
namespace My
open PySem L2
theorem B.sgn {s : Int} (h : s = 1 ∨ s = -1) : B 1 s := by rcases h with rfl | rfl <;> exact B.lit (by decide)
theorem mh_bits {A : M3} {e0 f0 e1 f1 e2 f2 k : Nat} {a0 a1 a2 a3 a4 b0 b1 b2 b3 b4 c0 c1 c2 c3 c4 D p q r d s z : Int} (wa : WR e0 f0 A.a A.s.x a0 a1 a2 a3 a4) (wb : WR e1 f1 A.b A.s.y b0 b1 b2 b3 b4) (wc : WR e2 f2 A.c A.s.z c0 c1 c2 c3 c4)
    (hD : D = a0 * (b1 * c2 - b2 * c1) + a1 * (b2 * c0 - b0 * c2) + a2 * (b0 * c1 - b1 * c0)) (hs : s = 1 ∨ s = -1) (hz : z = 1 ∨ z = -1) (bp : B k p) (bq : B k q) (br : B k r) (bd : B k d) (he : e0 + e1 + e2 ≤ 548) (hf : f0 + f1 + f2 ≤ 548) :
    B (k + 1120) (s * z * (p * (b1 * c2 - b2 * c1) + q * (b2 * c0 - b0 * c2) + r * (b0 * c1 - b1 * c0)) * a4) ∧
    B (k + 1120) (s * z * (p * (c1 * a2 - c2 * a1) + q * (c2 * a0 - c0 * a2) + r * (c0 * a1 - c1 * a0)) * b4) ∧
    B (k + 1120) (s * z * (p * (a1 * b2 - a2 * b1) + q * (a2 * b0 - a0 * b2) + r * (a0 * b1 - a1 * b0)) * c4) ∧
    B (k + 1120) (s * z * d * D - (s * z * (p * (b1 * c2 - b2 * c1) + q * (b2 * c0 - b0 * c2) + r * (b0 * c1 - b1 * c0)) * a3 + (s * z * (p * (c1 * a2 - c2 * a1) + q * (c2 * a0 - c0 * a2) + r * (c0 * a1 - c1 * a0)) * b3 + (s * z * (p * (a1 * b2 - a2 * b1) + q * (a2 * b0 - a0 * b2) + r * (a0 * b1 - a1 * b0)) * c3 + 0)))) ∧
    B (k + 560) (p * (b1 * c2 - b2 * c1) + q * (b2 * c0 - b0 * c2) + r * (b0 * c1 - b1 * c0)) ∧ B (k + 560) (p * (c1 * a2 - c2 * a1) + q * (c2 * a0 - c0 * a2) + r * (c0 * a1 - c1 * a0)) ∧ B (k + 560) (p * (a1 * b2 - a2 * b1) + q * (a2 * b0 - a0 * b2) + r * (a0 * b1 - a1 * b0)) ∧ B 560 D ∧ B 2 (s * z) := by
  have bu : ∀ {x y z t : Int} {i j : Nat}, B i x → B j y → B i z → B j t → B (i + j + 1) (x * y - z * t) := fun h1 h2 h3 h4 => (B.sub (B.mul h1 h2) (B.mul h3 h4)).le (by omega)
  have u0 : B (e1 + e2 + 1) (b1 * c2 - b2 * c1) := bu wb.b1 wc.b2 wb.b2 wc.b1
  have u1 : B (e1 + e2 + 1) (b2 * c0 - b0 * c2) := bu wb.b2 wc.b0 wb.b0 wc.b2
  have u2 : B (e1 + e2 + 1) (b0 * c1 - b1 * c0) := bu wb.b0 wc.b1 wb.b1 wc.b0
  have v0 : B (e2 + e0 + 1) (c1 * a2 - c2 * a1) := bu wc.b1 wa.b2 wc.b2 wa.b1
  have v1 : B (e2 + e0 + 1) (c2 * a0 - c0 * a2) := bu wc.b2 wa.b0 wc.b0 wa.b2
  have v2 : B (e2 + e0 + 1) (c0 * a1 - c1 * a0) := bu wc.b0 wa.b1 wc.b1 wa.b0
  have w0 : B (e0 + e1 + 1) (a1 * b2 - a2 * b1) := bu wa.b1 wb.b2 wa.b2 wb.b1
  have w1 : B (e0 + e1 + 1) (a2 * b0 - a0 * b2) := bu wa.b2 wb.b0 wa.b0 wb.b2
  have w2 : B (e0 + e1 + 1) (a0 * b1 - a1 * b0) := bu wa.b0 wb.b1 wa.b1 wb.b0
  have bD : B (e0 + e1 + e2 + 3) D := by
    rw [hD]
    exact (B.add (B.add (B.mul wa.b0 u0) (B.mul wa.b1 u1)) (B.mul wa.b2 u2)).le (by omega)
  have bsz : B 2 (s * z) := B.mul (B.sgn hs) (B.sgn hz)
  have d0 : B (k + (e1 + e2 + 3)) (p * (b1 * c2 - b2 * c1) + q * (b2 * c0 - b0 * c2) + r * (b0 * c1 - b1 * c0)) := (B.add (B.add (B.mul bp u0) (B.mul bq u1)) (B.mul br u2)).le (by omega)
  have d1 : B (k + (e2 + e0 + 3)) (p * (c1 * a2 - c2 * a1) + q * (c2 * a0 - c0 * a2) + r * (c0 * a1 - c1 * a0)) := (B.add (B.add (B.mul bp v0) (B.mul bq v1)) (B.mul br v2)).le (by omega)
  have d2 : B (k + (e0 + e1 + 3)) (p * (a1 * b2 - a2 * b1) + q * (a2 * b0 - a0 * b2) + r * (a0 * b1 - a1 * b0)) := (B.add (B.add (B.mul bp w0) (B.mul bq w1)) (B.mul br w2)).le (by omega)
  refine ⟨(B.mul (B.mul bsz d0) wa.b4).le (by omega), (B.mul (B.mul bsz d1) wb.b4).le (by omega), (B.mul (B.mul bsz d2) wc.b4).le (by omega), ?_, d0.le (by omega), d1.le (by omega), d2.le (by omega), bD.le (by omega), bsz⟩
  have g0 : B (k + (e0 + e1 + e2 + 5)) _ := (B.mul (B.mul bsz d0) wa.b3).le (by omega)
  have g1 : B (k + (e0 + e1 + e2 + 5)) _ := (B.mul (B.mul bsz d1) wb.b3).le (by omega)
  have g2 : B (k + (e0 + e1 + e2 + 5)) _ := (B.mul (B.mul bsz d2) wc.b3).le (by omega)
  have z0 : B 1 (0 : Int) := B.lit (by decide)
  exact (B.sub (B.mul (B.mul bsz bd) bD) (B.add g0 (B.add g1 (B.add g2 z0)))).le (by omega)
section
variable {X : Cx} {K : PySem.W.Frag} {σ : L2.St} {H : Hp} {D : Ends} {te : TE} {ta : TA} {a b : Addr} {xs ys : List V}
theorem r_zL {R : It → Hp → Prop} (q : SqL K H a xs) (q2 : SqL K H b ys) (h : R (Itz K a b) H) : zipP K [.ref a, .ref b] H R := ⟨a, b, xs, ys, rfl, .inl ⟨q, q2, h⟩⟩
/-- a comprehension over zip of two lists -/
theorem lc_zipL {g : TG} {vs : List Nat} {Da : Addr} {Qd : Hp → Prop} (G : Hp → Prop) (J : Nat → List V → Hp → Prop) (hl : xs.length = ys.length) (h0 : G (upd H Da (.lst []))) (hj : J 0 [] (upd H Da (.lst [])))
    (hq : ∀ H1 acc, H1 Da = some (.lst acc) → G H1 → SqL K H1 a xs ∧ SqL K H1 b ys)
    (hs : ∀ i x y T acc H1, xs[i]? = some x → ys[i]? = some y → acc.length = i → H1 Da = some (.lst acc) → G H1 → J i acc H1 → H1 T = none →
      g (.ref T) (wipe σ vs) (upd H1 T (.tup [x, y])) fun σ2 H2 => wipe σ2 vs = wipe σ vs ∧ te σ2 H2 fun y H3 => lcQ Da G J i y H3)
    (hd : ∀ acc H1, acc.length = xs.length → H1 Da = some (.lst acc) → G H1 → J xs.length acc H1 → Qd H1) : lcT (Itz K a b) g tYes te vs σ H Da Qd := by
  refine ⟨fun i m H1 => m = xs.length - i ∧ i ≤ xs.length ∧ lcPv Da G J i H1, ⟨_, rfl, Nat.zero_le _, [], rfl, upd_same, h0, hj⟩, ?_⟩
  rintro i m H1 ⟨rfl, hi, acc, ha, hD, hG, hJ⟩
  obtain ⟨q1, q2⟩ := hq H1 acc hD hG
  rcases Nat.lt_or_ge i xs.length with hlt | hge
  · have e1 : xs[i]? = some xs[i] := List.getElem?_eq_getElem hlt
    have e2 : ys[i]? = some ys[i] := List.getElem?_eq_getElem (by omega)
    refine .inr ⟨⟨xs, ys, _, _, q1, q2, e1, e2⟩, lcPv Da G J (i + 1), fun H' p => ⟨xs.length - (i + 1), by omega, rfl, hlt, p⟩, ?_⟩
    rintro v H' ⟨T, x, y, rfl, nT, rfl, f1, f2⟩
    have z := hs i x y T acc H1 (f1 _ q1) (f2 _ q2) ha hD hG hJ nT
    exact z
  · have e : i = xs.length := by omega
    subst e
    exact .inl ⟨⟨xs, ys, q1, q2, .inl (Nat.le_refl _)⟩, hd acc H1 ha hD hG hJ⟩
end
end My
namespace My
open PySem L2
theorem r_appW {K : PySem.W.Frag} {H H0 : Hp} {l b : Addr} {ps : List V3} {p : V3} {Q : VK} (nl : H0 l = none) (e : Same H0 H) (q : VL K H l ps) (hv : Vc K H b p) (hz : ps.length < 100000)
    (h : ∀ H1, Same H0 H1 → TK K H H1 → (∀ b ys, b ≠ l → H b = some (.lst ys) → H1 b = some (.lst ys)) → VL K H1 l (ps ++ [p]) → Q .non H1) : rAppend (.ref l) [.ref b] H Q := by
  obtain ⟨acc, h1, h2⟩ := q
  have hl := h2.len
  exact r_app h1 (by omega) (h _ (Same.mut e nl) (TK.upd h1) (fun b ys n hb => (upd_ne n).trans hb) ⟨_, upd_same, (h2.snoc hv).tk (TK.upd h1)⟩)
theorem pval_w {a b c d w0 w1 w2 : Int} {q : V3} (h : pval a b c d q = 0) (e : a * w0 + b * w1 + c * w2 = 0) : pval a b c d (va q ⟨(w0 : Rat), (w1 : Rat), (w2 : Rat)⟩) = 0 := by
  have e2 : (a : Rat) * (w0 : Rat) + (b : Rat) * (w1 : Rat) + (c : Rat) * (w2 : Rat) = 0 := by exact_mod_cast e
  simp only [pval, va] at *
  grind
end My
namespace My
open PySem L2
theorem B.sg {x : Rat} : B 1 (sg x) := by
  rcases sg_val (x := x) with h | h | h <;> rw [h] <;> exact B.lit (by decide)
/-- a ratio that need not be in lowest terms -/
def QU (K : PySem.W.Frag) (H : Hp) (y : Addr) (q : Rat) (n d : Nat) : Prop := ∃ t b : Int, SqT K H y [.int t, .int b] ∧ b ≠ 0 ∧ (t : Rat) / (b : Rat) = q ∧ B n t ∧ B d b
theorem QU.of {K : PySem.W.Frag} {H : Hp} {y : Addr} {q : Rat} {n d : Nat} (h : SqT K H y [.int q.num, .int (q.den : Int)]) (b : BN n d q) : QU K H y q n d := ⟨_, _, h, denI q, ndd q, b.n, b.d⟩
/-- moves one behind another -/
def apps (ms : List M3) (p : V3) : V3 := ms.foldl (fun p A => app A p) p
theorem apps_take {ms : List M3} {j : Nat} {A : M3} {p : V3} (h : ms[j]? = some A) : apps (ms.take (j + 1)) p = app A (apps (ms.take j) p) := by
  obtain ⟨l, e⟩ := List.getElem?_eq_some_iff.mp h
  unfold apps
  rw [List.take_succ_eq_append_getElem l, e, List.foldl_append]
  rfl
def MvL (K : PySem.W.Frag) (H : Hp) (acc : List V) (ms : List M3) : Prop := Paired (fun v A => ∃ a : Addr, v = V.ref a ∧ Mv K H a A) acc ms
theorem MvL.tk {K : PySem.W.Frag} {H H' : Hp} {acc : List V} {ms : List M3} (e : TK K H H') (h : MvL K H acc ms) : MvL K H' acc ms := Paired.mapP h fun v p ⟨a, e1, e2⟩ => ⟨a, e1, e2.tk e⟩
theorem MvL.len {K : PySem.W.Frag} {H : Hp} {acc : List V} {ms : List M3} (h : MvL K H acc ms) : acc.length = ms.length := Paired.length h
theorem MvL.get' {K : PySem.W.Frag} {H : Hp} {acc : List V} {ms : List M3} (h : MvL K H acc ms) {i : Nat} {x : V} (e : acc[i]? = some x) : ∃ (a : Addr) (A : M3), x = .ref a ∧ ms[i]? = some A ∧ Mv K H a A := by
  unfold MvL at h
  induction h generalizing i with
  | nil => simp at e
  | cons r _ ih =>
    cases i with
    | zero =>
      cases e
      obtain ⟨a, rfl, q⟩ := r
      exact ⟨a, _, rfl, rfl, q⟩
    | succ i => exact ih (by simpa using e)
theorem MvL.one {K : PySem.W.Frag} {H : Hp} {x : Addr} {A : M3} (h : Mv K H x A) : MvL K H [.ref x] [A] := .cons ⟨_, rfl, h⟩ .nil
theorem MvL.two {K : PySem.W.Frag} {H : Hp} {x y : Addr} {A C : M3} (h : Mv K H x A) (h2 : Mv K H y C) : MvL K H [.ref x, .ref y] [A, C] := .cons ⟨_, rfl, h⟩ (.cons ⟨_, rfl, h2⟩ .nil)
end My

namespace My
open PySem L2
section
variable {X : Cx} {K : PySem.W.Frag} {H : Hp} {Q : VK}
def rInsert : V → List V → Hp → VK → Prop := fun x vs H Q => ∃ (l : Addr) (xs : List V) (i : Int) (y : V), x = .ref l ∧ vs = [.int i, y] ∧ H l = some (.lst xs) ∧ xs.length < sizeLine ∧ 0 ≤ i ∧ i < 2 ^ 63 ∧ Q .non (upd H l (.lst (xs.take i.toNat ++ [y] ++ xs.drop i.toNat)))
theorem km_insert : MtR X "list.insert" rInsert := mt_insert
/-- an own list gets an item put in -/
theorem r_insM {H0 : Hp} {s l : Addr} {xs ys : List V} {i : Int} {y : V} (nl : H0 l = none) (st0 : St K H0 s) (e : Fr s H0 H) (st : St K H s) (h : H l = some (.lst xs)) (hz : decide (xs.length < 100000) = true) (h0 : 0 ≤ i ∧ i ≤ 1000) (ey : xs.take i.toNat ++ [y] ++ xs.drop i.toNat = ys)
    (q : ∀ H1, Fr s H0 H1 → St K H1 s → H1 l = some (.lst ys) → TK K H H1 → Q .non H1) : rInsert (.ref l) [.int i, y] H Q :=
  ⟨l, xs, i, y, rfl, rfl, h, Nat.lt_of_lt_of_le (of_decide_eq_true hz) (by decide), h0.1, by omega, ey ▸ q _ (Fr.mut e nl st0.some) (St.mut st0 e st nl) upd_same (TK.upd h)⟩
end
/-- four quarter turns move nothing -/
def tw4 (p q r : V3) : Prop := comb (comb ⟨p, q, r, o3⟩ ⟨p, q, r, o3⟩) (comb ⟨p, q, r, o3⟩ ⟨p, q, r, o3⟩) = still
def tw2 (p q r : V3) : Prop := comb ⟨p, q, r, o3⟩ ⟨p, q, r, o3⟩ = still
theorem tw4_0 : tw4 ⟨((1 : Int) : Rat), ((0 : Int) : Rat), ((0 : Int) : Rat)⟩ ⟨((0 : Int) : Rat), ((0 : Int) : Rat), ((-1 : Int) : Rat)⟩ ⟨((0 : Int) : Rat), ((1 : Int) : Rat), ((0 : Int) : Rat)⟩ := by
  refine M3.ext' ?_ ?_ ?_ ?_ <;> apply V3.ext' <;> simp only [comb, still, rowx, va, sc, app, mvec, dt, e0, e1, e2, o3] <;> simp <;> grind
theorem tw4_1 : tw4 ⟨((0 : Int) : Rat), ((0 : Int) : Rat), ((1 : Int) : Rat)⟩ ⟨((0 : Int) : Rat), ((1 : Int) : Rat), ((0 : Int) : Rat)⟩ ⟨((-1 : Int) : Rat), ((0 : Int) : Rat), ((0 : Int) : Rat)⟩ := by
  refine M3.ext' ?_ ?_ ?_ ?_ <;> apply V3.ext' <;> simp only [comb, still, rowx, va, sc, app, mvec, dt, e0, e1, e2, o3] <;> simp <;> grind
theorem tw4_2 : tw4 ⟨((0 : Int) : Rat), ((-1 : Int) : Rat), ((0 : Int) : Rat)⟩ ⟨((1 : Int) : Rat), ((0 : Int) : Rat), ((0 : Int) : Rat)⟩ ⟨((0 : Int) : Rat), ((0 : Int) : Rat), ((1 : Int) : Rat)⟩ := by
  refine M3.ext' ?_ ?_ ?_ ?_ <;> apply V3.ext' <;> simp only [comb, still, rowx, va, sc, app, mvec, dt, e0, e1, e2, o3] <;> simp <;> grind
theorem tw2_m : tw2 ⟨((-1 : Int) : Rat), ((0 : Int) : Rat), ((0 : Int) : Rat)⟩ ⟨((0 : Int) : Rat), ((1 : Int) : Rat), ((0 : Int) : Rat)⟩ ⟨((0 : Int) : Rat), ((0 : Int) : Rat), ((1 : Int) : Rat)⟩ := by
  refine M3.ext' ?_ ?_ ?_ ?_ <;> apply V3.ext' <;> simp only [comb, still, rowx, va, sc, app, mvec, dt, e0, e1, e2, o3] <;> simp <;> grind

theorem mh_four {p q r : V3} {a b c d s a1 b1 c1 d1 s1 a2 b2 c2 d2 s2 a3 b3 c3 d3 s3 a4 b4 c4 d4 s4 : Int} (t : tw4 p q r) (P : PlF a b c d) (hs : s = 1 ∨ s = -1)
    (h1 : MH ⟨p, q, r, o3⟩ a b c d s a1 b1 c1 d1 s1) (h2 : MH ⟨p, q, r, o3⟩ a1 b1 c1 d1 s1 a2 b2 c2 d2 s2) (h3 : MH ⟨p, q, r, o3⟩ a2 b2 c2 d2 s2 a3 b3 c3 d3 s3) (h4 : MH ⟨p, q, r, o3⟩ a3 b3 c3 d3 s3 a4 b4 c4 d4 s4) : a4 = a ∧ b4 = b ∧ c4 = c ∧ d4 = d ∧ s4 = s := by
  have h := (h1.comb h2).comb (h3.comb h4)
  rw [show My.comb (My.comb ⟨p, q, r, o3⟩ ⟨p, q, r, o3⟩) (My.comb ⟨p, q, r, o3⟩ ⟨p, q, r, o3⟩) = My.still from t] at h
  exact MH.uniq (by rw [det_still]; decide) (MH.still P hs) h
theorem mh_two {p q r : V3} {a b c d s a1 b1 c1 d1 s1 a2 b2 c2 d2 s2 : Int} (t : tw2 p q r) (P : PlF a b c d) (hs : s = 1 ∨ s = -1)
    (h1 : MH ⟨p, q, r, o3⟩ a b c d s a1 b1 c1 d1 s1) (h2 : MH ⟨p, q, r, o3⟩ a1 b1 c1 d1 s1 a2 b2 c2 d2 s2) : a2 = a ∧ b2 = b ∧ c2 = c ∧ d2 = d ∧ s2 = s := by
  have h := h1.comb h2
  rw [show My.comb ⟨p, q, r, o3⟩ ⟨p, q, r, o3⟩ = My.still from t] at h
  exact MH.uniq (by rw [det_still]; decide) (MH.still P hs) h
def hD (a b c d s : Int) : PyData := .tuple [.tuple [.int a, .int b, .int c, .int d], .int s]
theorem ti_h {n : Nat} (a b c d s : Int) : TI (n + 3) (.tuple [.tuple [.int a, .int b, .int c, .int d], .int s]) := by
  refine ⟨(by decide : 2 ≤ 1000), fun x hx => ?_⟩
  simp only [List.mem_cons, List.not_mem_nil, or_false] at hx
  rcases hx with rfl | rfl
  · refine ⟨(by decide : 4 ≤ 1000), fun x hx => ?_⟩
    simp only [List.mem_cons, List.not_mem_nil, or_false] at hx
    rcases hx with rfl | rfl | rfl | rfl <;> exact trivial
  · exact trivial
theorem PlF.nz {a b c d : Int} (h : PlF a b c d) : ¬ (a = 0 ∧ b = 0 ∧ c = 0) := by
  have := h.f
  simp only [Fst] at this
  omega
end My
namespace My
open PySem L2
/-- sums and products of ratios -/
def sm : List Rat → Rat
  | [] => 0
  | a :: r => a + sm r
def pm : List Rat → Rat
  | [] => 1
  | a :: r => a * pm r
theorem sm_app (xs ys : List Rat) : sm (xs ++ ys) = sm xs + sm ys := by
  induction xs with
  | nil => show sm ys = 0 + sm ys; grind
  | cons a r ih => show a + sm (r ++ ys) = a + sm r + sm ys; rw [ih]; grind
theorem pm_app (xs ys : List Rat) : pm (xs ++ ys) = pm xs * pm ys := by
  induction xs with
  | nil => show pm ys = 1 * pm ys; grind
  | cons a r ih => show a * pm (r ++ ys) = a * pm r * pm ys; rw [ih]; grind
theorem sm_take {xs : List Rat} {i : Nat} {x : Rat} (h : xs[i]? = some x) : sm (xs.take (i + 1)) = sm (xs.take i) + x := by
  obtain ⟨l, e⟩ := List.getElem?_eq_some_iff.mp h
  rw [List.take_succ_eq_append_getElem l, e, sm_app]
  show _ + (x + 0) = _
  grind
theorem pm_take {xs : List Rat} {i : Nat} {x : Rat} (h : xs[i]? = some x) : pm (xs.take (i + 1)) = pm (xs.take i) * x := by
  obtain ⟨l, e⟩ := List.getElem?_eq_some_iff.mp h
  rw [List.take_succ_eq_append_getElem l, e, pm_app]
  show _ * (x * 1) = _
  grind
theorem sm_drop {xs : List Rat} {j : Nat} {x : Rat} (h : xs[j]? = some x) : sm (xs.drop j) = x + sm (xs.drop (j + 1)) := by
  obtain ⟨l, e⟩ := List.getElem?_eq_some_iff.mp h
  rw [List.drop_eq_getElem_cons l, e]
  rfl
theorem pm_drop {xs : List Rat} {j : Nat} {x : Rat} (h : xs[j]? = some x) : pm (xs.drop j) = x * pm (xs.drop (j + 1)) := by
  obtain ⟨l, e⟩ := List.getElem?_eq_some_iff.mp h
  rw [List.drop_eq_getElem_cons l, e]
  rfl
/-- lists of ratios -/
def QtL (K : PySem.W.Frag) (H : Hp) (acc : List V) (qs : List Rat) : Prop := Paired (fun v q => ∃ a : Addr, v = V.ref a ∧ SqT K H a [.int q.num, .int (q.den : Int)]) acc qs
section
variable {K : PySem.W.Frag} {H H' : Hp} {acc : List V} {qs : List Rat}
theorem QtL.tk (e : TK K H H') (h : QtL K H acc qs) : QtL K H' acc qs := Paired.mapP h fun v p ⟨a, e1, e2⟩ => ⟨a, e1, e _ _ e2⟩
theorem QtL.len (h : QtL K H acc qs) : acc.length = qs.length := Paired.length h
theorem QtL.get {i : Nat} {q : Rat} (h : QtL K H acc qs) (e : qs[i]? = some q) : ∃ a : Addr, acc[i]? = some (.ref a) ∧ SqT K H a [.int q.num, .int (q.den : Int)] := by
  unfold QtL at h
  induction h generalizing i with
  | nil => simp at e
  | cons r _ ih =>
    cases i with
    | zero =>
      cases e
      obtain ⟨a, rfl, q⟩ := r
      exact ⟨a, rfl, q⟩
    | succ i => exact ih (by simpa using e)
theorem QtL.get' {i : Nat} {x : V} (h : QtL K H acc qs) (e : acc[i]? = some x) : ∃ (a : Addr) (q : Rat), x = .ref a ∧ qs[i]? = some q ∧ SqT K H a [.int q.num, .int (q.den : Int)] := by
  have hl := h.len
  have hi : i < acc.length := (List.getElem?_eq_some_iff.mp e).1
  have e2 : qs[i]? = some qs[i] := List.getElem?_eq_getElem (by omega)
  obtain ⟨a, e3, q⟩ := h.get e2
  rw [e] at e3
  cases e3
  exact ⟨a, _, rfl, e2, q⟩
theorem QtL.snoc {a : Addr} {q : Rat} (h : QtL K H acc qs) (r : SqT K H a [.int q.num, .int (q.den : Int)]) : QtL K H (acc ++ [.ref a]) (qs ++ [q]) := by
  unfold QtL at *
  induction h with
  | nil => exact .cons ⟨a, rfl, r⟩ .nil
  | cons r _ ih => exact .cons r ih
end
theorem atI_neg {α : Type} {xs : List α} {j : Nat} {x : α} {i : Int} (h : xs[j]? = some x) (e : i = (j : Int) - (xs.length : Int)) : atI xs i = some x := by
  have hl := (List.getElem?_eq_some_iff.mp h).1
  unfold atI ixN
  rw [if_neg (by omega), if_pos (by omega)]
  simp only [Option.bind_some]
  rw [show (i + (xs.length : Int)).toNat = j by omega]
  exact h
end My
namespace My
open PySem L2
def QL (K : PySem.W.Frag) (H : Hp) (l : Addr) (qs : List Rat) : Prop := ∃ acc, H l = some (.lst acc) ∧ QtL K H acc qs
theorem BN.div {n d n' d' : Nat} {p q : Rat} (hp : BN n d p) (hq : BN n' d' q) (h : q ≠ 0) : BN (n + d') (d + n') (p / q) := by
  rw [← div_q p q h]
  exact BN.dv (mul0 (denI p) (numz h)) (B.mul hp.n hq.d) (B.mul hp.d hq.n)
theorem QtL.notS {K : PySem.W.Frag} {H : Hp} {acc : List V} {qs : List Rat} (h : QtL K H acc qs) : notS acc = true := by
  unfold QtL at h
  cases h with
  | nil => rfl
  | cons r t =>
    obtain ⟨a, rfl, _⟩ := r
    cases t with
    | nil => rfl
    | cons r2 t =>
      obtain ⟨a2, rfl, _⟩ := r2
      rfl
end My
namespace My
open PySem L2
theorem BN.dvz {n d : Nat} {t b : Int} (h1 : B n t) (h2 : B d b) (hd : 1 ≤ d) : BN n d ((t : Rat) / b) := by
  by_cases h : b = 0
  · have e : (t : Rat) / (b : Rat) = ((0 : Int) : Rat) := by rw [h]; simp [Rat.div_def]
    rw [e]
    exact ⟨by rw [numI]; exact B.of_le (y := t) (by simp) h1, by rw [denII]; exact (B.lit (k := 1) (by decide)).le hd⟩
  · exact BN.dv h h1 h2
end My

set_option Elab.async false
set_option maxRecDepth 100000
set_option linter.all false
/-! errors: raised without words, caught, told apart, handed to another def while they are handled -/
namespace My
open PySem L2 L2H PyProof.Rows PySem.Spec
section
variable {X : Cx} {C D : Addr} {bmB : List Value} {B newId initId : String}
/-- X() of an own class without own __init__ -/
theorem pmk0 {x : Str} {p pos : Pos} (F : ExcBaseFacts B newId initId bmB) (q : PySem.W.excIn X.K C bmB newId = true) (gC : X.mg x = some (.ref C)) (kC : PySem.W.keepIn X.K (.ref C) = true)
    (r : Raises X (.ref C)) (hg : Gl X x) (hdb : (x == ("__debug__" : Str)) = false := by decide) : L2N.PMk X (.Call (.Name x p) [] [] pos) (fun _ H Q => Q (.ref C) none H) := fun pins s σ H Q I h => by
  refine wpAny_Call_Name_kw (ld_glob I hg gC (PySem.W.callWith_K0 I.kIn kC ?_) hdb)
  obtain ⟨bm, N, nm, qn, bs, hdct, sn, sub, ab, col, dd, k0, k1, k2, k3, k5, mN, c1, c2, c3, T⟩ := exc_obj I.kIn q
  exact wpAny_call_exc_subT F T c1 c2 c3 (fun h' e made => L2N.mk_of I made r h (I.hok.gone made.new)) (Nat.zero_le _)
/-- isinstance(e, c) of the exception that is pinned -/
theorem call_isP {p : Addr × Obj} (hp : p ∈ X.pn) (hx : ExcC X.K D) (hc : p.2.cls = .ref D) (hd : p.2.dict = none) (hf : ∃ vs, p.2.data = .fields vs) : CallR X (.builtin "isinstance") (rIsE X.K D p.1) := fun pins s σ H xs us Q I r h => by
  obtain ⟨c, cv, b, rfl, hcv, e, q⟩ := h
  obtain ⟨u1, u2, rfl, r1, r2⟩ := vals2 r
  cases r1
  have e2 := hcv _ r2
  subst e2
  have g := (I.pin p (List.mem_append_left _ hp)).1
  have at_ : PySem.W.InstAt s.heap p.1 p.2 D none := by
    obtain ⟨vs, hv⟩ := hf
    obtain ⟨a, oc, od, oda, osl⟩ := p
    simp only at hc hd hv
    subst hc hd hv
    exact ⟨g, rfl, rfl, trivial⟩
  exact PySem.W.kia_one (PySem.W.handS_kitx_exc hx.hg hx.hk hx.hs hx.hd hx.ha hx.hn hx.ht hx.hm) I.kIn at_ e (fun z => nomatch z) (fun tk => ⟨.bl b, H, I.tok tk, rfl, q⟩)
end
/-- the block of a comprehension while an exception is handled: it stays pinned -/
abbrev hblk (X : Cx) (p : Addr × Obj) (s : Shared) (H : Hp) (scope : Scope) (ce : Env) (fp : List Addr) : Cx := { X.blk s H scope ce fp with pn := [p] }
section
variable {X : Cx} {p : Addr × Obj} {s s' : Shared} {H H' : Hp} {scope : Scope} {ce : Env} {fp : List Addr} {pins : List (Addr × Obj)} {σ : L2.St}
theorem to_hblk (I : Inv (X.blk s H scope ce fp) pins σ H' s') (h : s'.heap.get? p.1 = some p.2 ∧ H' p.1 = none ∧ p.1 ≠ ce.locals ∧ p.1 ∉ frs X.stack ∧ ∀ v, p.2.data ≠ .cell v) : Inv (hblk X p s H scope ce fp) pins σ H' s' where
  ok := ⟨I.ok.mod, I.ok.kind, I.ok.glob, I.ok.blt, I.ok.above, I.ok.inj, I.ok.has, I.ok.cab, I.ok.hd, I.ok.frames, I.ok.stk, I.ok.exf, I.ok.bs, I.ok.bsz, I.ok.noex, I.ok.exfs, I.ok.funs, I.ok.frf⟩
  os := I.os
  bare := I.bare
  base := I.base
  loc := I.loc
  cell := I.cell
  free := I.free
  freeC := I.freeC
  pin := fun q hq => by
    rcases List.mem_cons.mp (show q ∈ p :: pins from hq) with z | z
    · rw [z]
      exact h
    · exact I.pin q z
  hok := I.hok
  len := I.len
end
end My
namespace My
open PySem L2 L2H PyProof.Rows PySem.Spec
/-- [elt for tg in iter if ..] while an exception is handled -/
theorem lc_hot {X : Cx} {p : Addr × Obj} (hot : Hot1 X.A p) (hp : p ∈ X.pn) {elt tg iter : Expr} {ifs : List Expr} {scope : Scope} {own : List (Str × Nat)} {pos : Pos} {wi : L2.TI} {g : TG} {tt : TT} {te : TE}
    (hN : X.N.Nodup) (hi : PIH X tg iter wi) (ok : BlkOk X.N X.env.scope scope own)
    (hg : ∀ s H C cl fp, PG (hblk X p s H scope (compEnvC scope cl C X.env) fp) tg g) (ht : ∀ s H C cl fp, PTs (hblk X p s H scope (compEnvC scope cl C X.env) fp) ifs tt)
    (he : ∀ s H C cl fp, PE (hblk X p s H scope (compEnvC scope cl C X.env) fp) elt te) (hs : ∀ x, foldedSetIterable iter X.env x = pure x := by intro _; rfl) :
    PE X (.ListComp elt [⟨tg, iter, ifs, 0⟩] scope pos) (tLc wi g tt te (own.map (·.2))) := ⟨fun pins s σ H Q I h => by
  have captured : ∀ y ∈ scope.names, y.2 = .free → ∃ c, X.env.cells.lookup y.1 = some c := fun y hy e => (ok.free y hy e).elim (fun k => I.ok.has _ (.inl k)) (fun k => I.ok.has _ (.inr k))
  rw [eval_ListComp]
  refine wpAny_comprehension_free (use := none) rfl hs (closure_ok captured) ok.kind (fun y hy e => (ok.uniq y hy).trans (by rw [e])) (thn (hi.run pins s σ H _ I h) (fun xv s1 hx => thn hx (fun itv s2 h2 => ?_)))
  obtain ⟨it, fp, tn, J, H2, e, I2, T, t2, f2, q⟩ := h2
  subst e
  refine wpAny_newObj_type (newEnv_comp ?_) (Nat.zero_le _)
  -- the new list stands at D
  obtain ⟨D, hD⟩ : ∃ D, D = s2.heap.objs.size := ⟨_, rfl⟩
  have fresh : H2 D = none := I2.hok.fresh (Nat.le_of_eq hD.symm)
  obtain ⟨W, ⟨m0, w0⟩, turn⟩ := q D fresh
  obtain ⟨s3, hs3⟩ : ∃ s3 : Shared, s3 = { s2 with heap := s2.heap.push { cls := .type "list", data := .seq ([] : List Value).toArray } } := ⟨_, rfl⟩
  have up3 : ∀ b o, s2.heap.get? b = some o → s3.heap.get? b = some o := fun b o z => by
    rw [hs3]
    exact Heap.get?_push_of_some _ z
  have I3 : Inv X pins σ (upd H2 D (.lst [])) s3 := by
    rw [hs3]
    exact I2.laid (t' := s2.toks) (fun b o z => Heap.get?_push_of_some _ z) (Nat.le_of_eq hD.symm) ⟨Nat.zero_le _, [], 0, .nil, by rw [hD]; exact Heap.get?_push_size _ rfl⟩
  have big : s3.heap.objs.size = s2.heap.objs.size + 1 := by
    rw [hs3]
    exact Heap.size_push _ _
  have old : ∀ b ∈ fp, b < s2.heap.objs.size := fun b hb => by
    obtain ⟨o, z, _⟩ := T.obj _ _ t2 b hb
    exact Heap.lt_size z
  have f3 : ∀ b ∈ fp, FpOk X pins (upd H2 D (.lst [])) b ∧ b < s3.heap.objs.size := fun b hb => by
    have lt := old b hb
    have ne : b ≠ D := by
      rw [hD]
      exact Nat.ne_of_lt lt
    exact ⟨⟨(upd_ne ne).trans (f2 b hb).1, (f2 b hb).2⟩, by rw [big]; exact Nat.lt_succ_of_lt lt⟩
  have t3 : tn 0 s3.heap := T.keep _ _ _ t2 (fun b _ o z => up3 b o z)
  have I4 := block_start I3 ok hN f3
  have pin3 := I3.pin p (List.mem_append_left _ hp)
  have pg := hg s3 (upd H2 D (.lst [])) s3.heap.objs.size (cellsFrom (s3.heap.objs.size + 1) scope.names (cloFrom X.env.cells scope.names [])) fp
  have pt := ht s3 (upd H2 D (.lst [])) s3.heap.objs.size (cellsFrom (s3.heap.objs.size + 1) scope.names (cloFrom X.env.cells scope.names [])) fp
  have pe := he s3 (upd H2 D (.lst [])) s3.heap.objs.size (cellsFrom (s3.heap.objs.size + 1) scope.names (cloFrom X.env.cells scope.names [])) fp
  rw [← hD]
  rw [← hs3]
  obtain ⟨ce, hce⟩ : ∃ ce, ce = compEnvC scope (cellsFrom (s3.heap.objs.size + 1) scope.names (cloFrom X.env.cells scope.names [])) s3.heap.objs.size X.env := ⟨_, rfl⟩
  obtain ⟨s4, hs4⟩ : ∃ s4 : Shared, s4 = { s3 with heap := pushCells (s3.heap.push { cls := .type "dict", data := .dict #[] }) scope.names } := ⟨_, rfl⟩
  have kept4 : ∀ b o, s3.heap.get? b = some o → s4.heap.get? b = some o := fun b o z => by
    rw [hs4]
    exact pushCells_keeps _ _ _ _ (Heap.get?_push_of_some _ z)
  show codeAny _ _ (.compStart (.ListComp elt [⟨tg, iter, ifs, 0⟩] scope pos) 0 (.ref it) (.ref D) (compEnvC scope (cellsFrom (s3.heap.objs.size + 1) scope.names (cloFrom X.env.cells scope.names [])) s3.heap.objs.size X.env)) (compPost (model X.prog X.w) X.A X.xe none (EP X pins σ Q) (.ref D) s3.heap.objs.size) { s3 with heap := pushCells (s3.heap.push { cls := .type "dict", data := .dict #[] }) scope.names }
  rw [← hce, ← hs4]
  rw [← hce] at pg pt pe I4
  rw [← hs4] at I4
  have cL : ce.locals = s3.heap.objs.size := by rw [hce]; rfl
  obtain ⟨H3, hH3⟩ : ∃ H3, H3 = upd H2 D (.lst []) := ⟨_, rfl⟩
  rw [← hH3] at I3 I4 pg pt pe w0 f3 pin3
  have K4 : Inv (hblk X p s3 H3 scope ce fp) [] (wipe σ (own.map (·.2))) H3 s4 := to_hblk I4 ⟨kept4 _ _ pin3.1, pin3.2.1, by
    rw [cL]
    exact Nat.ne_of_lt (Heap.lt_size pin3.1), fun hm => (List.mem_cons.mp (I3.stkSub p.1 hm)).elim pin3.2.2.1 pin3.2.2.2.1, pin3.2.2.2.2⟩
  have hc : HotC (hblk X p s3 H3 scope ce fp) := ⟨p, hot, List.mem_singleton.mpr rfl⟩
  have npf : ∀ b ∈ fp, p.1 ≠ b := fun b hb => (f3 b hb).1.2.2.2.2.2 p (List.mem_append_left _ hp)
  have foot : ∀ {σ' : L2.St} {H' : Hp} {s' : Shared}, Inv (hblk X p s3 H3 scope ce fp) [] σ' H' s' → (∀ b ∈ fp, H' b = none) → ∀ b ∈ fp, FpOk (hblk X p s3 H3 scope ce fp) [] H' b := fun {σ' H' s'} J n b hb =>
    ⟨n b hb, (J.ok.exf b hb).1, J.ok.exfs b hb, .inl hb, fun x c z => (J.ok.exf b hb).2 x c z, fun y hy => by
      rw [List.mem_singleton.mp (show y ∈ [p] from hy)]
      exact npf b hb⟩
  have loop : codeAny (model X.prog X.w) X.A (.compLoop (.ListComp elt [⟨tg, iter, ifs, 0⟩] scope pos) 0 (.ref it) (.ref D) ce) (compPost (model X.prog X.w) X.A X.xe none (EP X pins σ Q) (.ref D) s3.heap.objs.size) s4 := by
    refine compLoop_any (fun n s' => ∃ i H', Inv (hblk X p s3 H3 scope ce fp) [] (wipe σ (own.map (·.2))) H' s' ∧ tn i s'.heap ∧ (∀ b ∈ fp, H' b = none) ∧ W i n H') ?_ m0 ⟨0, H3, K4, T.keep _ _ _ t3 (fun b _ o z => kept4 b o z), fun b hb => (f3 b hb).1.1, w0⟩
    intro n s5 hs5
    obtain ⟨i, H5, I5, t5, n5, w5⟩ := hs5
    cases turn i n H5 w5 with
    | inl z =>
      obtain ⟨stop, done⟩ := z
      refine thnF (T.done (hblk X p s3 H3 scope ce fp) rfl rfl rfl hc i [] s5 _ H5 (fun _ _ => False) I5 (foot I5 n5) t5 stop) (fun r s6 hr => ?_)
      obtain ⟨hr, I6⟩ := hr
      subst hr
      have I7 : Inv X pins σ H5 s6 := I3.call' (ch := fp) I6.os I6.base I6.hok I6.bare (fun b hb => ⟨(f3 b hb).1.2.2.2.1, (f3 b hb).1.2.1, (f3 b hb).1.2.2.2.2.1, (f3 b hb).1.2.2.2.2.2⟩)
      have nC : H5 s3.heap.objs.size = none := by
        rw [← cL]
        exact I6.free
      obtain ⟨m, hn, _⟩ := I6.loc
      have f7 := I3.fpOk (Nat.le_refl _) nC
      refine ⟨m, by rw [← cL]; exact hn, fun h'' sb => ?_⟩
      exact ⟨.ref D, H5, I7.turned (t' := s6.toks) (fun b o hb z => (sb.2 b hb).trans z) f7.1 f7.2.1 f7.2.2.2.1 f7.2.2.2.2.1 f7.2.2.2.2.2, rfl, done⟩
    | inr z =>
      obtain ⟨go, Nx, hNx, step⟩ := z
      refine thnF (T.item (hblk X p s3 H3 scope ce fp) rfl rfl rfl hc i [] s5 _ H5 (fun _ _ => False) I5 (foot I5 n5) t5 go) (fun r s6 hr => ?_)
      obtain ⟨u, hr, h6⟩ := hr
      subst hr
      refine thnF h6 (fun _ s7 h7 => ?_)
      obtain ⟨x, H7, I7, r7, y7, t7, n7⟩ := h7
      have J7 := I7.pinned (foot I7 n7) (T.obj _ _ t7)
      refine thnF (pg.run _ s7 _ H7 x u _ J7 r7 (step x H7 y7)) (fun _ s8 h8 => ?_)
      obtain ⟨σ8, H8, I8, w8, q8⟩ := h8
      refine thnF (pt.run _ s8 σ8 H8 _ I8 q8) (fun b s9 h9 => ?_)
      obtain ⟨H9, I9, q9⟩ := h9
      have back : ∀ {s' : Shared} {H' : Hp}, Inv (hblk X p s3 H3 scope ce fp) ([] ++ pinsAt fp s7.heap) σ8 H' s' → Nx H' →
          ∃ m, m < n ∧ ∃ i H', Inv (hblk X p s3 H3 scope ce fp) [] (wipe σ (own.map (·.2))) H' s' ∧ tn i s'.heap ∧ (∀ b ∈ fp, H' b = none) ∧ W i m H' := fun {s' H'} J nx => by
        obtain ⟨m', lt, w'⟩ := hNx H' nx
        have still : ∀ b ∈ fp, ∀ o, s7.heap.get? b = some o → s'.heap.get? b = some o ∧ H' b = none := fun b hb o z =>
          ⟨(J.pin (b, o) (List.mem_append_right _ (List.mem_append_right _ (mem_pinsAt hb z)))).1, (J.pin (b, o) (List.mem_append_right _ (List.mem_append_right _ (mem_pinsAt hb z)))).2.1⟩
        refine ⟨m', lt, i + 1, H', (J.unpinned (pins := [])).weak (by rw [← w8, wipe_length]) (fun j v z => ?_), T.keep _ _ _ t7 (fun b hb o z => (still b hb o z).1), fun b hb => ?_, w'⟩
        · rw [← w8] at z
          exact (wipe_some z).1
        · obtain ⟨o, z, _⟩ := T.obj _ _ t7 b hb
          exact (still b hb o z).2
      by_cases hb : b = true
      · subst hb
        rw [if_pos rfl] at q9 ⊢
        refine thnF (pe.run _ s9 σ8 H9 _ I9 q9) (fun z s10 h10 => ?_)
        obtain ⟨yv, H10, I10, r10, acc, a10, b10, nx⟩ := h10
        exact app_ok (X := hblk X p s3 H3 scope ce fp) I10 a10 b10 r10 (fun s11 I11 => back I11 nx)
      · rw [if_neg hb] at q9 ⊢
        exact back I9 q9
  exact codeAny_compStart_list loop (T.self X.A 0 _ _ _ (T.keep _ _ _ t3 (fun b _ o z => kept4 b o z)) loop)⟩
end My
namespace My
open PySem L2 L2H PyProof.Rows PySem.Spec
/-- a def that is handed the exception that is handled, one of the class D -/
structure FnE (P : Program) (w : World) (K : PySem.W.Frag) (mg : Str → Option Value) (base : Heap) (CX : CXT) (k : Nat) (D f : Addr) (fd : FuncData) (ps : List Str) (sp : Sp) : Prop where
  one : ps.length = 1
  run : ∀ (A : Around) (outer : List Env) (s : Shared) (H : Hp) (args : Args) (us : List Value) (Q : VK) (E : XK) (p : Addr × Obj), RoomH k A → Hot1 A p → (p.2.cls = .ref D ∧ p.2.dict = none) → PinOk outer H s p → Env0 P w K mg base A outer s H →
    BindsTo s fd args (ps.zip us) → Vals [V.ref p.1] us → sp [.ref p.1] H Q E → codeAny (model P w) A (.call (.ref f) args) (CR CX outer P w H s Q E) s
theorem fn_ofE {CX : CXT} {P : Program} {w : World} {K : PySem.W.Frag} {mg : Str → Option Value} {base : Heap} {k : Nat} {D f : Addr} {name qual : Str} {params : Arguments} {body : List Stmt} {scope : Scope} {dV kV doc pm cdv ct oc : Value} {an od : Option Addr}
    {osl : Array (Option Value)} {N ps : List Str} {sp : Sp} (lk : K.lookup f = some ⟨oc, od, .func (PySem.W.fnOf name qual params body scope dV kV doc pm an cdv ct), osl⟩) (hcd : PySem.W.codeIn K cdv qual = true) (S : FnScope N ps scope) (one : ps.length = 1)
    (hbody : ∀ (A : Around) (outer : List Env) (s : Shared) (H : Hp) (Q : VK) (E : XK) (p : Addr × Obj), Hot1 A p → (p.2.cls = .ref D ∧ p.2.dict = none) → RoomH k (A.deeper (envOfC qual scope s.heap.objs.size f cdv)) → sp [.ref p.1] H Q E →
      ∃ t, PSs (cxH CX P w K mg base N qual scope f cdv A outer s H E p) body t ∧ t { nx := fun _ H' => Q .non H', rt := Q } (L2.start N [.ref p.1]) H) :
    FnE P w K mg base CX (k + 1) D f (PySem.W.fnOf name qual params body scope dV kV doc pm an cdv ct) ps sp where
  one := one
  run := fun A outer s H args us Q E p room hot cls pin e0 hb r h => by
    have stays : ∀ b o, base.get? b = some o → s.heap.get? b = some o := fun b o e => (e0.bs b o e).1
    have KX : K.In s.heap := e0.mod.kin.keeps stays
    have names : ∀ y ∈ ps.zip us, scope.names.lookup y.1 = some .local ∨ (scope.names.lookup y.1 = some .cell ∧ ((cellsFrom (s.heap.objs.size + 1) scope.names []).lookup y.1).isSome = true) := fun y hy =>
      (S.par y.1 (List.of_mem_zip hy).1).imp id (fun q => ⟨q, PySem.W.cellsFrom_some _ _ _ (.inl q)⟩)
    refine codeAny_call_function room.depth (KX _ _ lk) rfl S.co S.gen rfl (PySem.W.codeRec_of KX hcd) (hb _ _ _ _ (wpAny_newFunctionEnv_cells S.kind names (fun env he s1 x => ?_)))
    subst he
    refine ⟨(e0.mod.nolimit.keeps stays).keeps x.toInCall.keep, codeAny_func ?_⟩
    obtain ⟨t, ht, hq⟩ := hbody A outer s H Q E p hot cls (room.deeper _) h
    have I := inv_startH (CX := CX) (E := E) S pin e0 (show [V.ref p.1].length = ps.length from one.symm) r x
    refine wpAny_mono (ht.run [] s1 _ H _ I hq) (fun fl s' hs => ?_) (fun e s' hs => hs)
    cases fl with
    | next =>
      obtain ⟨σ', H', J, q⟩ := hs
      exact ⟨.non, H', J.os, J.bare, J.base, J.hok, rfl, q⟩
    | ret u =>
      obtain ⟨v, σ', H', J, rv, q⟩ := hs
      exact ⟨v, H', J.os, J.bare, J.base, J.hok, rv, q⟩
    | brk =>
      obtain ⟨_, _, _, q⟩ := hs
      exact False.elim q
    | cont =>
      obtain ⟨_, _, _, q⟩ := hs
      exact False.elim q
/-- its call where the exception is handled -/
def tCallE (a : Addr) (sp : Sp) (t : TA) : TE := fun σ H Q => t σ H fun vs H1 => vs = [.ref a] ∧ sp [.ref a] H1 Q E0
section
variable {X : Cx} {k : Nat} {D f : Addr} {fd : FuncData} {ps : List Str} {sp : Sp} {x : Str} {q pos : Pos} {e : Expr} {es : List Expr} {t : TA} {p : Addr × Obj}
theorem pe_callE (F : FnE X.prog X.w X.K X.mg X.base CX0 k D f fd ps sp) (hr : RoomH k X.A) (hot : Hot1 X.A p) (hp : p ∈ X.pn) (cls : p.2.cls = .ref D ∧ p.2.dict = none) (hg : Gl X x) (hm : X.mg x = some (.ref f)) (hk : PySem.W.keepIn X.K (.ref f) = true) (hb : Binds X.K fd ps [])
    (ha : PA X (e :: es) t) (hdb : (x == ("__debug__" : Str)) = false := by decide) (h1 : starEach (e :: es) X.env = (false, eval e X.env) :: starEach es X.env := by rfl) (h2 : (backTo pos (starEach es X.env)).any (·.1) = false := by rfl) :
    PE X (.Call (.Name x q) (e :: es) [] pos) (tCallE p.1 sp t) := ⟨fun pins s σ H Q I h => by
  refine wpAny_Call_Name_kw (ld_glob I hg hm ?_ hdb)
  refine PySem.W.callWith_K (h₀ := X.base) I.ok.mod.kin hk (thn (ha.run pos pins s σ H _ I h) (fun us s1 hh => ?_)) h1 h2
  obtain ⟨vs, H1, I1, r1, rfl, q1⟩ := hh
  refine ⟨I1.kIn, ?_⟩
  have b := hb s1 us I1.kIn (by rw [List.append_nil, ← r1.length]; exact F.one.symm)
  rw [List.append_nil] at b
  have P1 := I1.pin p (List.mem_append_left _ hp)
  have pin : PinOk X.stack H1 s1 p := ⟨P1.1, P1.2.1, fun hm => (List.mem_cons.mp (I1.stkSub p.1 hm)).elim P1.2.2.1 P1.2.2.2.1, P1.2.2.2.2⟩
  show wpAny _ _ (call (.ref f) us) _ _ _
  refine wpAny_call (codeAny_mono (F.run X.A X.stack s1 H1 ⟨us, []⟩ us Q E0 p hr hot cls pin I1.env0 b r1 q1) (fun r s' hq => ?_))
  cases r with
  | error er => exact pass0 pins σ H1 s1 er s' I1 hq
  | ok fl =>
    cases fl with
    | ret u => exact I1.after hq
    | next => exact False.elim hq
    | brk => exact False.elim hq
    | cont => exact False.elim hq⟩
end
end My
namespace My
open PySem L2 L2H PyProof.Rows PySem.Spec
section
variable {P : Program} {w : World} {K : PySem.W.Frag} {mg : Str → Option Value} {base : Heap}
/-- a def that may raise -/
theorem FunA.okX {x qual : Str} {st : Stmt} {f : Addr} {fd : FuncData} {N ps : List Str} {k : Nat} {sp : Sp} (F : FunA K x qual st f fd) (S : FnScope N ps (defScope st)) (len : ∀ vs H Q E, sp vs H Q E → vs.length = ps.length)
    (hbody : ∀ (cdv : Value) (A : Around) (outer : List Env) (s : Shared) (H : Hp) (vs : List V) (Q : VK) (E : XK), Room k (A.deeper (PyProof.Rows.envOfC qual (defScope st) s.heap.objs.size f cdv)) → sp vs H Q E →
      ∃ t, PSs (cxOf (L2N.CX P w) P w K mg base N qual (defScope st) f cdv A outer s H E) (defBody st) t ∧ t { nx := fun _ H' => Q .non H', rt := Q } (L2.start N vs) H) : FnOk P w K mg base (L2N.CX P w) (k + 1) f fd ps sp := by
  obtain ⟨oc, od, dV, kV, doc, pm, an, cdv, ct, osl, rfl, lk, hcd⟩ := F.ex
  exact fn_of lk hcd S len (hbody cdv)
/-- a def that is handed the exception -/
theorem FunA.okE {x qual : Str} {st : Stmt} {D f : Addr} {fd : FuncData} {N ps : List Str} {k : Nat} {sp : Sp} (F : FunA K x qual st f fd) (S : FnScope N ps (defScope st)) (one : ps.length = 1)
    (hbody : ∀ (cdv : Value) (A : Around) (outer : List Env) (s : Shared) (H : Hp) (Q : VK) (E : XK) (p : Addr × Obj), Hot1 A p → (p.2.cls = .ref D ∧ p.2.dict = none) → RoomH k (A.deeper (PyProof.Rows.envOfC qual (defScope st) s.heap.objs.size f cdv)) → sp [.ref p.1] H Q E →
      ∃ t, PSs (cxH CX0 P w K mg base N qual (defScope st) f cdv A outer s H E p) (defBody st) t ∧ t { nx := fun _ H' => Q .non H', rt := Q } (L2.start N [.ref p.1]) H) : FnE P w K mg base CX0 (k + 1) D f fd ps sp := by
  obtain ⟨oc, od, dV, kV, doc, pm, an, cdv, ct, osl, rfl, lk, hcd⟩ := F.ex
  exact fn_ofE lk hcd S one (hbody cdv)
structure CalX (P : Program) (w : World) (K : PySem.W.Frag) (mg : Str → Option Value) (base : Heap) (x : Str) (k : Nat) (ps : List Str) (sp : Sp) : Prop where
  ex : ∃ (f : Addr) (fd : FuncData), FnOk P w K mg base (L2N.CX P w) k f fd ps sp ∧ mg x = some (.ref f) ∧ PySem.W.keepIn K (.ref f) = true ∧ Binds K fd ps []
structure CalE (P : Program) (w : World) (K : PySem.W.Frag) (mg : Str → Option Value) (base : Heap) (D : Addr) (x : Str) (k : Nat) (ps : List Str) (sp : Sp) : Prop where
  ex : ∃ (f : Addr) (fd : FuncData), FnE P w K mg base CX0 k D f fd ps sp ∧ mg x = some (.ref f) ∧ PySem.W.keepIn K (.ref f) = true ∧ Binds K fd ps []
end
section
variable {X : Cx} {x : Str} {p pos : Pos} {e : Expr} {es : List Expr} {t : TA} {k : Nat} {ps : List Str} {sp : Sp} {W : WX}
/-- a call of a def that may raise -/
theorem pcS (C : CalX X.prog X.w X.K X.mg X.base x k ps sp) (hr : Room k X.A) (hg : Gl X x) (tk : L2N.Takes X W) (ha : PA X (e :: es) t) (hdb : (x == ("__debug__" : Str)) = false := by decide)
    (he : starEach (e :: es) X.env = (false, eval e X.env) :: starEach es X.env := by rfl) (hpl : (backTo pos (starEach es X.env)).any (·.1) = false := by rfl) :
    PE X (.Call (.Name x p) (e :: es) [] pos) (tCallS sp (WE W) t) := by
  obtain ⟨f, fd, F, hm, hk, hb⟩ := C.ex
  exact pe_callS F hr hg hm hk hb (fun σ => L2N.passAt tk σ) ha hdb he hpl
theorem pcE {q : Addr × Obj} {D : Addr} (C : CalE X.prog X.w X.K X.mg X.base D x k ps sp) (hr : RoomH k X.A) (hot : Hot1 X.A q) (hq : q ∈ X.pn) (cls : q.2.cls = .ref D ∧ q.2.dict = none) (hg : Gl X x) (ha : PA X (e :: es) t) (hdb : (x == ("__debug__" : Str)) = false := by decide)
    (h1 : starEach (e :: es) X.env = (false, eval e X.env) :: starEach es X.env := by rfl) (h2 : (backTo pos (starEach es X.env)).any (·.1) = false := by rfl) :
    PE X (.Call (.Name x p) (e :: es) [] pos) (tCallE q.1 sp t) := by
  obtain ⟨f, fd, F, hm, hk, hb⟩ := C.ex
  exact pe_callE F hr hot hq cls hg hm hk hb ha hdb h1 h2
/-- a block's rule under a condition -/
theorem pss_if {R : Prop} {b : List Stmt} {t : TS} (h : R → PSs X b t) : PSs X b (fun D σ H => R ∧ t D σ H) := ⟨fun pins s σ H D I ⟨r, q⟩ => (h r).run pins s σ H D I q⟩
end
section
variable {K : PySem.W.Frag} {σ : L2.St} {H : Hp} {D : Ends} {te : TE} {tt : TT} {t : TA} {Q : VK}
theorem w_callS {sp : Sp} {E : L2.St → XK} (h : t σ H fun vs H1 => sp vs H1 Q (E σ)) : tCallS sp E t σ H Q := h
theorem w_callE {sp : Sp} {a : Addr} (h : t σ H fun vs H1 => vs = [.ref a] ∧ sp [.ref a] H1 Q E0) : tCallE a sp t σ H Q := h
theorem r_argE {a : Addr} {R : Prop} (h : R) : [V.ref a] = [V.ref a] ∧ R := ⟨rfl, h⟩
theorem r_isE {C a : Addr} {c : V} {cv : Value} {b : Bool} (hc : ClsV c cv) (e : PySem.W.kitOne K (.ref C) cv = some b) (h : Q (.bl b) H) : rIsE K C a [.ref a, c] H Q := ⟨c, cv, b, rfl, fun u r => hc.eq r, e, h⟩
/-- [k for k in range(n) if ..], the tests known -/
theorem lc_rngF {n j : Nat} {vs : List Nat} {Da : Addr} {Qd : Hp → Prop} (b : Nat → Bool) (hw : ∀ x, wipe ((wipe σ vs).set j (some x)) vs = wipe σ vs) (hn : n ≤ 1000) (hD : H Da = none)
    (ht : ∀ i H1 (R : Bool → Hp → Prop), i < n → Same H H1 → R (b i) H1 → tt ((wipe σ vs).set j (some (.int (0 + (i : Int))))) H1 R)
    (he : ∀ i H1 (R : V → Hp → Prop), i < n → Same H H1 → R (.int (0 + (i : Int))) H1 → te ((wipe σ vs).set j (some (.int (0 + (i : Int))))) H1 R)
    (hd : ∀ H1, Same H H1 → H1 Da = some (.lst (((List.range n).filter b).map fun (k : Nat) => V.int (0 + (k : Int)))) → Qd H1) : lcT (Itr 0 n) (gName j) tt te vs σ H Da Qd := by
  have z := lc_range (lo := 0) (n := n) (g := gName j) (tt := tt) (te := te) (vs := vs) (σ := σ) (H1 := H) (D := Da) (Qd := Qd)
    (fun i H1 => i ≤ n ∧ Same H H1 ∧ H1 Da = some (.lst (((List.range i).filter b).map fun (k : Nat) => V.int (0 + (k : Int))))) ⟨Nat.zero_le _, Same.new hD, upd_same⟩ (by
    rintro i H1 hi ⟨_, s, e⟩
    refine ⟨hw _, ht i H1 _ hi s ?_⟩
    by_cases hb : b i = true
    · rw [if_pos hb]
      refine he i H1 _ hi s ⟨_, e, ?_, by omega, Same.mut s hD, ?_⟩
      · rw [List.length_map]
        have := List.length_filter_le b (List.range i)
        rw [List.length_range] at this
        exact Nat.lt_of_lt_of_le (m := 100000) (by omega) (by decide)
      · rw [upd_same, List.range_succ, List.filter_append]
        simp [hb]
    · rw [if_neg hb]
      refine ⟨by omega, s, ?_⟩
      rw [e, List.range_succ, List.filter_append]
      simp [hb]) (by
    rintro H1 ⟨_, s, e⟩
    exact hd H1 s e)
  exact z
end
end My
namespace My
open PySem L2 L2H PyProof.Rows PySem.Spec
section
variable {K : PySem.W.Frag} {C D : Addr} {b : Bool}
theorem kit_ref (h1 : PySem.W.hasDictIn K C = true) (ht : PySem.W.typeIn K (.ref C) = some (.type "type")) (h : PySem.W.subIn K (.ref D) (.ref C) = some b) (ne : (Value.ref D == Value.ref C) = false) : PySem.W.kitOne K (.ref D) (.ref C) = some b := by
  obtain ⟨cd, hc, _⟩ := PySem.W.any_some h1
  have e : ((PySem.W.clsIn K C).isSome && PySem.W.typeIn K (.ref C) == some (.type "type")) = true := by rw [hc, ht] <;> rfl
  show (if (Value.ref D == Value.ref C) = true then some true else if ((PySem.W.clsIn K C).isSome && PySem.W.typeIn K (.ref C) == some (.type "type")) = true then PySem.W.subIn K (.ref D) (.ref C) else none) = some b
  rw [ne, if_neg Bool.false_ne_true, if_pos e]
  exact h
theorem kit_self : PySem.W.kitOne K (.ref D) (.ref D) = some true := by
  show (if (Value.ref D == Value.ref D) = true then some true else _) = some true
  rw [if_pos (by simp)]
theorem kit_b {T : String} (hm : PySem.W.kitMeta T = true) (h : PySem.W.subIn K (.ref D) (.type T) = some b) : PySem.W.kitOne K (.ref D) (.type T) = some b := by
  show (if (Value.ref D == Value.type T) = true then some true else if PySem.W.kitMeta T = true then PySem.W.subIn K (.ref D) (.type T) else none) = some b
  rw [show (Value.ref D == Value.type T) = false from rfl, if_neg Bool.false_ne_true, if_pos hm]
  exact h
end
/-- a raise -/
def tRaise (C : Addr) (W : WX) : TS := fun _ σ H => W (.ref C) none σ H
section
variable {X : Cx} {C : Addr} {W : WX} {x : Str} {p cpos pos : Pos} {bmB : List Value} {B newId initId : String}
theorem ps_raise0 (hc : X.calm = true) (tk : L2N.Takes X W) (F : ExcBaseFacts B newId initId bmB) (q : PySem.W.excIn X.K C bmB newId = true) (gC : X.mg x = some (.ref C)) (kC : PySem.W.keepIn X.K (.ref C) = true)
    (b : PySem.W.subIn X.K (.ref C) (.type "BaseException") = some true) (t : PySem.W.typeIn X.K (.ref C) = some (.type "type")) (hg : Gl X x) (hdb : (x == ("__debug__" : Str)) = false := by decide) :
    PS X (.Raise (some (.Call (.Name x p) [] [] cpos)) none pos) (tRaise C W) := L2N.ps_raise hc tk (pmk0 F q gC kC (raises_own b t) hg hdb)
theorem takesN {X : Cx} : L2N.Takes X (fun _ _ _ _ => False) := fun _ _ x => by
  obtain ⟨_, _, _, _, _, _, _, _, _, _, _, _, _, _, _, _, z⟩ := x
  exact z.elim
theorem roomH_mark {k : Nat} {A : Around} {v : Option Value} (r : Room k A) : RoomH k (A.mark v) := ⟨r.dp, r.un⟩
theorem hot_of {A : Around} {a : Addr} {oe : Obj} {cls : Value} {d : Option Addr} (hz : L2N.Zn cls d oe) (hf : ∃ vs, oe.data = .fields vs) : Hot1 (A.mark (some (.ref a))) (a, oe) := ⟨rfl, hf.elim fun vs e => ⟨vs, e, hz.2.2 vs e⟩⟩
end
section
variable {K : PySem.W.Frag} {σ : L2.St} {H : Hp} {D : Ends} {u : TS} {W : WX} {C : Addr}
theorem w_raise (h : W (.ref C) none σ H) : tRaise C W D σ H := h
theorem w_seqR (h : W (.ref C) none σ H) : tSeq (tRaise C W) u D σ H := h
theorem w_asY {c cls : Value} {i : Nat} {ts : Addr → Value → Option Addr → TS} {Wo : WX} {d : Option Addr} (e : PySem.W.exmOne K cls c = some true)
    (h : ∀ a, H a = none → ts a cls d { nx := fun σ' H' => D.nx (σ'.set i none) H', rt := D.rt, bk := fun σ' H' => D.bk (σ'.set i none) H', ct := fun σ' H' => D.ct (σ'.set i none) H' } (σ.set i (some (.ref a))) H) :
    WE (wAs K c i ts Wo D) σ cls d H := ⟨true, e, fun _ => h, fun q => Bool.noConfusion q⟩
theorem w_ifR {R : Prop} {t : TS} (r : R) (h : t D σ H) : (fun (D : Ends) (σ : L2.St) (H : Hp) => R ∧ t D σ H) D σ H := ⟨r, h⟩
end
end My
namespace My
open PySem L2 L2H PyProof.Rows PySem.Spec
def tTry (K : PySem.W.Frag) (c : Value) (i : Nat) (ts : Addr → Value → Option Addr → TS) (Wo : WX) (tb : WX → TS) : TS := fun D σ H => tb (wAs K c i ts Wo D) D σ H
def tIfR (R : Prop) (t : TS) : TS := fun D σ H => R ∧ t D σ H
section
variable {X : Cx} {K : PySem.W.Frag} {x n : Str} {c : Value} {i : Nat} {body suite : List Stmt} {b₀ : Stmt} {np pos pos' : Pos} {tb : WX → TS} {ts : Addr → Value → Option Addr → TS} {Wo : WX}
theorem ps_try0 (hK : X.K = K) (hs : X.stack = X.env :: X.outer) (hf : X.env.frame = some X.env.locals) (hN : X.N.Nodup) (hi : X.N[i]? = some n) (hln : X.env.kindOf n = some .local) (hc : Names X x c) (tk : L2N.Takes X Wo)
    (hb : ∀ (W : WX) (pn : List (Addr × Obj)) (xe : Value → Shared → Prop), L2N.Takes (X.tr pn xe) W → PassesOwn (model X.prog X.w) X.A X.env xe → PSs (X.tr pn xe) body (tb W))
    (hsu : ∀ (a : Addr) (oe : Obj) (cls : Value) (d : Option Addr) (pn : List (Addr × Obj)), L2N.Zn cls d oe → (∃ vs, oe.data = .fields vs) → PSs (X.suite a ((a, oe) :: pn)) (b₀ :: suite) (ts a cls d)) :
    PS X (.Try body [.ExceptHandler (some (.Name x np)) (some n) (b₀ :: suite) pos'] [] [] pos) (tTry K c i ts Wo tb) := by
  subst hK
  exact L2N.ps_try_as hs hf hN hi hln hc tk hb hsu
theorem pss_ifR {R : Prop} {b : List Stmt} {t : TS} (h : R → PSs X b t) : PSs X b (tIfR R t) := pss_if h
variable {σ : L2.St} {H : Hp} {D : Ends} {u : TS}
theorem w_try (h : tb (wAs K c i ts Wo D) D σ H) : tTry K c i ts Wo tb D σ H := h
theorem w_seqTry (h : tb (wAs K c i ts Wo { D with nx := u D }) { D with nx := u D } σ H) : tSeq (tTry K c i ts Wo tb) u D σ H := h
theorem w_tifR {R : Prop} {t : TS} (r : R) (h : t D σ H) : tIfR R t D σ H := ⟨r, h⟩
end
end My
namespace My
open PySem L2 L2H PyProof.Rows PySem.Spec
section
variable {X : Cx} {C D : Addr} {a : Addr} {oe : Obj} {x : Str} {p pos : Pos} {e : Expr} {es : List Expr} {t : TA} {k : Nat} {ps : List Str} {sp : Sp}
theorem call_isA (hp : (a, oe) ∈ X.pn) (hx : ExcC X.K D) (hc : oe.cls = .ref D) (hd : oe.dict = none) (hf : ∃ vs, oe.data = .fields vs) : CallR X (.builtin "isinstance") (rIsE X.K D a) := call_isP (p := (a, oe)) hp hx hc hd hf
theorem pcA (C : CalE X.prog X.w X.K X.mg X.base D x k ps sp) (hr : RoomH k X.A) (hot : Hot1 X.A (a, oe)) (hq : (a, oe) ∈ X.pn) (hc : oe.cls = .ref D) (hd : oe.dict = none) (hg : Gl X x) (ha : PA X (e :: es) t) (hdb : (x == ("__debug__" : Str)) = false := by decide)
    (h1 : starEach (e :: es) X.env = (false, eval e X.env) :: starEach es X.env := by rfl) (h2 : (backTo pos (starEach es X.env)).any (·.1) = false := by rfl) :
    PE X (.Call (.Name x p) (e :: es) [] pos) (tCallE a sp t) := pcE (q := (a, oe)) C hr hot hq ⟨hc, hd⟩ hg ha hdb h1 h2
end
end My
namespace My
open PySem L2 L2H PyProof.Rows PySem.Spec
section
variable {X : Cx} {K : PySem.W.Frag} {C D : Addr} {a : Addr} {oe : Obj}
theorem kc_isP (hK : X.K = K) {p : Addr × Obj} (hp : p ∈ X.pn) (hx : ExcC K D) (hc : p.2.cls = .ref D) (hd : p.2.dict = none) (hf : ∃ vs, p.2.data = .fields vs) : CallR X (.builtin "isinstance") (rIsE K D p.1) := hK ▸ call_isP hp (hK ▸ hx) hc hd hf
theorem kc_isA (hK : X.K = K) (hp : (a, oe) ∈ X.pn) (hx : ExcC K D) (hc : oe.cls = .ref D) (hd : oe.dict = none) (hf : ∃ vs, oe.data = .fields vs) : CallR X (.builtin "isinstance") (rIsE K D a) := kc_isP hK (p := (a, oe)) hp hx hc hd hf
theorem hu_mark {A : Around} {k : Nat} {v : Option Value} (hr : Room k A) : (A.mark v).units + 64 < cLine := (hu_of64 (k := k) hr : A.units + 64 < cLine)
end
end My

set_option Elab.async false
set_option linter.all false
namespace My
open PySem L2
/-! lcm of four, the last one wider -/
def rLcm4d : List V → Hp → VK → Prop := fun xs H Q => ∃ (a b c d : Int) (k k2 : Nat), xs = [.int a, .int b, .int c, .int d] ∧ 0 < a ∧ 0 < b ∧ 0 < c ∧ 0 < d ∧ B k a ∧ B k b ∧ B k c ∧ B k2 d ∧ 3 * k + k2 ≤ 13400 ∧
  ∀ L : Int, 0 < L → a ∣ L → b ∣ L → c ∣ L → d ∣ L → (∀ D : Int, a ∣ D → b ∣ D → c ∣ D → d ∣ D → L ∣ D) → Q (.int L) H
theorem cr_lcm4d {X : Cx} : CallR X (.builtin "math.lcm") rLcm4d := by
  intro pins s σ H vs us Q I r h
  obtain ⟨a, b, c, d, k, k2, rfl, pa, pb, pc, pd, ba, bb, bc, bd, hk, q⟩ := h
  obtain ⟨t1, t2, t3, t4, rfl⟩ := Vals.int4 r
  have e1 := ba.lt
  have e2 := bb.lt
  have e3 := bc.lt
  have e4 := bd.lt
  have m2 := lcm_lt e1 e2
  have m3 := lcm_lt m2 e3
  have m4 := lcm_lt m3 e4
  have up : ∀ {n i j : Nat}, n < 2 ^ i → i ≤ j → n < 2 ^ j := fun h hij => Nat.lt_of_lt_of_le h (Nat.pow_le_pow_right (by decide) hij)
  have o1 : (1 : Nat) < 2 ^ (13400 + 1) := up (i := 1) (by decide) (by decide)
  have g := run_lcm4 a b c d t1 t2 t3 t4 (log_mx o1 (up e1 (by omega)) (Nat.le_refl _))
    (by rw [l1]; exact log_mx (up e1 (by omega)) (up e2 (by omega)) (Nat.le_refl _)) (by rw [l1]; exact log_mx (up m2 (by omega)) (up e3 (by omega)) (Nat.le_refl _))
    (by rw [l1]; exact log_mx (up m3 (by omega)) (up e4 (by omega)) (Nat.le_refl _))
    (by rw [l1, Int.natAbs_natCast]
        refine Nat.lt_of_le_of_lt (log_lt (k := 13400) (up m4 (by omega))) ?_
        decide)
  rw [l1] at g
  refine call_function_meets PySem.W.MGF.kind_lcm PySem.W.MGF.plain_lcm PySem.W.MGF.entry_lcm (args_lcm4 _ _ _ _) g.meets ⟨.int _, H, I.tok _, ⟨_, rfl⟩, q _ ?_ ?_ ?_ ?_ ?_ ?_⟩
  · have z1 : 0 < a.natAbs.lcm b.natAbs := Nat.lcm_pos (by omega) (by omega)
    have z2 := Nat.lcm_pos z1 (show 0 < c.natAbs by omega)
    have z3 := Nat.lcm_pos z2 (show 0 < d.natAbs by omega)
    omega
  · exact Int.natAbs_dvd_natAbs.1 (Nat.dvd_trans (Nat.dvd_lcm_left _ _) (Nat.dvd_trans (Nat.dvd_lcm_left _ _) (Nat.dvd_lcm_left _ _)))
  · exact Int.natAbs_dvd_natAbs.1 (Nat.dvd_trans (Nat.dvd_lcm_right _ _) (Nat.dvd_trans (Nat.dvd_lcm_left _ _) (Nat.dvd_lcm_left _ _)))
  · exact Int.natAbs_dvd_natAbs.1 (Nat.dvd_trans (Nat.dvd_lcm_right _ _) (Nat.dvd_lcm_left _ _))
  · exact Int.natAbs_dvd_natAbs.1 (Nat.dvd_lcm_right _ _)
  · intro D h1 h2 h3 h4
    exact Int.natAbs_dvd_natAbs.1 (Nat.lcm_dvd (Nat.lcm_dvd (Nat.lcm_dvd (Int.natAbs_dvd_natAbs.2 h1) (Int.natAbs_dvd_natAbs.2 h2)) (Int.natAbs_dvd_natAbs.2 h3)) (Int.natAbs_dvd_natAbs.2 h4))
theorem r_lcm4d {H : Hp} {Q : VK} {a b c d : Int} {k k2 : Nat} (pa : 0 < a) (pb : 0 < b) (pc : 0 < c) (pd : 0 < d) (ba : B k a) (bb : B k b) (bc : B k c) (bd : B k2 d) (hk : 3 * k + k2 ≤ 13400)
    (q : ∀ L : Int, 0 < L → a ∣ L → b ∣ L → c ∣ L → d ∣ L → (∀ D : Int, a ∣ D → b ∣ D → c ∣ D → d ∣ D → L ∣ D) → Q (.int L) H) : rLcm4d [.int a, .int b, .int c, .int d] H Q := ⟨a, b, c, d, k, k2, rfl, pa, pb, pc, pd, ba, bb, bc, bd, hk, q⟩
theorem RD.ofW {n d n2 d2 e f : Nat} {p : V3} {t : Rat} (h : VN n d p) (ht : BN n2 d2 t) (he : n + 2 * d + d2 ≤ e) (he2 : n2 + 3 * d ≤ e) (hf : 3 * d + d2 ≤ f) : RD e f p t := by
  refine ⟨(p.x.den : Int) * (p.y.den : Int) * (p.z.den : Int) * (t.den : Int), p.x.num * ((p.y.den : Int) * (p.z.den : Int) * (t.den : Int)), p.y.num * ((p.x.den : Int) * (p.z.den : Int) * (t.den : Int)), p.z.num * ((p.x.den : Int) * (p.y.den : Int) * (t.den : Int)), t.num * ((p.x.den : Int) * (p.y.den : Int) * (p.z.den : Int)),
    Int.mul_pos (Int.mul_pos (Int.mul_pos (denP _) (denP _)) (denP _)) (denP _), (B.mul (B.mul (B.mul h.x.d h.y.d) h.z.d) ht.d).le (by omega), (B.mul h.x.n (B.mul (B.mul h.y.d h.z.d) ht.d)).le (by omega), (B.mul h.y.n (B.mul (B.mul h.x.d h.z.d) ht.d)).le (by omega), (B.mul h.z.n (B.mul (B.mul h.x.d h.y.d) ht.d)).le (by omega), (B.mul ht.n (B.mul (B.mul h.x.d h.y.d) h.z.d)).le (by omega), ?_, ?_, ?_, ?_⟩
  all_goals
    have e0 := numc p.x
    have e1 := numc p.y
    have e2 := numc p.z
    have e3 := numc t
    simp only [Rat.intCast_mul]
    grind
theorem SqT.ofNeg {K : PySem.W.Frag} {H : Hp} {a : Addr} {q : Rat} (h : SqT K H a [.int (-q.num), .int (q.den : Int)]) : SqT K H a [.int (-q).num, .int ((-q).den : Int)] := by
  rw [Rat.neg_num, Rat.neg_den]; exact h
/-! planes along a direction -/
structure Pla (n : V3) (t : Rat) (a b c d s : Int) : Prop where
  p : PlF a b c d
  hs : s = 1 ∨ s = -1
  ex : ∃ l : Rat, 0 < l ∧ ((s * a : Int) : Rat) = l * n.x ∧ ((s * b : Int) : Rat) = l * n.y ∧ ((s * c : Int) : Rat) = l * n.z ∧ ((s * d : Int) : Rat) = l * t
theorem Pla.of {n : V3} {t : Rat} {e f : Nat} {n0 n1 n2 n3 n4 p0 p1 p2 p3 s g : Int} (w : WR e f n t n0 n1 n2 n3 n4) (h : HF n0 n1 n2 n3 p0 p1 p2 p3 s g) : Pla n t p0 p1 p2 p3 s := by
  have gp : (0 : Rat) < (g : Rat) := by exact_mod_cast h.pos
  have lp : (0 : Rat) < (n4 : Rat) := by exact_mod_cast w.pos
  refine ⟨h.p, h.s, (n4 : Rat) / (g : Rat), by rw [Rat.div_def]; exact Rat.mul_pos lp (Rat.inv_pos.2 gp), ?_, ?_, ?_, ?_⟩
  · have e := h.e0 ▸ w.e0
    simp only [Rat.intCast_mul] at *
    grind
  · have e := h.e1 ▸ w.e1
    simp only [Rat.intCast_mul] at *
    grind
  · have e := h.e2 ▸ w.e2
    simp only [Rat.intCast_mul] at *
    grind
  · have e := h.e3 ▸ w.e3
    simp only [Rat.intCast_mul] at *
    grind
theorem Pla.same {n m : V3} {t u k : Rat} {a b c d s a' b' c' d' s' : Int} (hk : k = 1 ∨ k = -1) (h : Pla n t a b c d s) (h' : Pla m u a' b' c' d' s') (ex : m.x = k * n.x) (ey : m.y = k * n.y) (ez : m.z = k * n.z) (et : u = k * t) : a' = a ∧ b' = b ∧ c' = c ∧ d' = d := by
  obtain ⟨l, hl, x0, x1, x2, x3⟩ := h.ex
  obtain ⟨j, hj, y0, y1, y2, y3⟩ := h'.ex
  have pl := num_pos.2 hl
  have pj := num_pos.2 hj
  rw [ex] at y0
  rw [ey] at y1
  rw [ez] at y2
  rw [et] at y3
  rcases hk with rfl | rfl
  · obtain ⟨r0, r1, r2, r3, _⟩ := HF.uniq (HF.self h.p h.hs) (HF.self h'.p h'.hs) (Int.mul_pos pj (denP l)) (Int.mul_pos pl (denP j)) (rat_int (by grind)) (rat_int (by grind)) (rat_int (by grind)) (rat_int (by grind))
    exact ⟨r0, r1, r2, r3⟩
  · have hs : -s = 1 ∨ -s = -1 := by rcases h.hs with h | h <;> omega
    have z0 : ((-s * a : Int) : Rat) = l * (-n.x) := by rw [Int.neg_mul, Rat.intCast_neg, x0]; grind
    have z1 : ((-s * b : Int) : Rat) = l * (-n.y) := by rw [Int.neg_mul, Rat.intCast_neg, x1]; grind
    have z2 : ((-s * c : Int) : Rat) = l * (-n.z) := by rw [Int.neg_mul, Rat.intCast_neg, x2]; grind
    have z3 : ((-s * d : Int) : Rat) = l * (-t) := by rw [Int.neg_mul, Rat.intCast_neg, x3]; grind
    obtain ⟨r0, r1, r2, r3, _⟩ := HF.uniq (HF.self h.p hs) (HF.self h'.p h'.hs) (Int.mul_pos pj (denP l)) (Int.mul_pos pl (denP j)) (rat_int (by grind)) (rat_int (by grind)) (rat_int (by grind)) (rat_int (by grind))
    exact ⟨r0, r1, r2, r3⟩
def nrm (p q r : V3) : V3 := cr (vsb q p) (vsb r p)
def Lin (p q r : V3) : Prop := (nrm p q r).x = 0 ∧ (nrm p q r).y = 0 ∧ (nrm p q r).z = 0
def off (p q r v : V3) : Rat := dt (nrm p q r) (vsb v p)
def PTh (p q r : V3) (a b c d : Int) : Prop := ∃ s, Pla (nrm p q r) (-(dt (nrm p q r) p)) a b c d s
theorem Pla.val {n : V3} {t : Rat} {a b c d s : Int} (h : Pla n t a b c d s) : ∃ l : Rat, 0 < l ∧ ∀ v : V3, (s : Rat) * pval a b c d v = l * (dt n v + t) := by
  obtain ⟨l, hl, x0, x1, x2, x3⟩ := h.ex
  refine ⟨l, hl, fun v => ?_⟩
  simp only [Rat.intCast_mul] at *
  simp only [pval, dt]
  grind
theorem PTh.val {p q r : V3} {a b c d : Int} (h : PTh p q r a b c d) : ∃ l : Rat, l ≠ 0 ∧ ∀ v : V3, pval a b c d v = l * off p q r v := by
  obtain ⟨s, h⟩ := h
  obtain ⟨l, hl, e⟩ := h.val
  have hs := h.hs
  refine ⟨(s : Rat) * l, ?_, fun v => ?_⟩
  · have : l ≠ 0 := by grind
    rcases hs with rfl | rfl
    · simp only [Rat.intCast_one, Rat.one_mul]; exact this
    · simp only [Rat.intCast_neg, Rat.intCast_one]; grind
  · have e1 := e v
    have e2 : dt (nrm p q r) v + -(dt (nrm p q r) p) = off p q r v := by simp only [off, dt, vsb]; grind
    rw [e2] at e1
    rcases hs with rfl | rfl
    · simp only [Rat.intCast_one, Rat.one_mul] at *; exact e1
    · simp only [Rat.intCast_neg, Rat.intCast_one] at *; grind
theorem off_p {p q r : V3} : off p q r p = 0 := by simp only [off, dt, vsb]; grind
theorem off_q {p q r : V3} : off p q r q = 0 := by simp only [off, nrm, cr, dt, vsb]; grind
theorem off_r {p q r : V3} : off p q r r = 0 := by simp only [off, nrm, cr, dt, vsb]; grind
theorem off_rqp {p q r v : V3} : off r q p v = - off p q r v := by simp only [off, nrm, cr, dt, vsb]; grind
theorem PTh.on {p q r : V3} {a b c d : Int} (h : PTh p q r a b c d) : pval a b c d p = 0 ∧ pval a b c d q = 0 ∧ pval a b c d r = 0 := by
  obtain ⟨l, _, e⟩ := h.val
  refine ⟨?_, ?_, ?_⟩
  · rw [e, off_p, Rat.mul_zero]
  · rw [e, off_q, Rat.mul_zero]
  · rw [e, off_r, Rat.mul_zero]
theorem PTh.off0 {p q r v : V3} {a b c d : Int} (h : PTh p q r a b c d) : pval a b c d v = 0 ↔ off p q r v = 0 := by
  obtain ⟨l, hl, e⟩ := h.val
  rw [e, Rat.mul_eq_zero]
  exact ⟨fun h => h.resolve_left hl, .inr⟩
theorem PTh.same {p q r : V3} {a b c d a' b' c' d' : Int} (h : PTh p q r a b c d) (h' : PTh p q r a' b' c' d') : a' = a ∧ b' = b ∧ c' = c ∧ d' = d := by
  obtain ⟨s, h⟩ := h
  obtain ⟨s', h'⟩ := h'
  exact Pla.same (k := 1) (.inl rfl) h h' (by grind) (by grind) (by grind) (by grind)
theorem PTh.rqp {p q r : V3} {a b c d a' b' c' d' : Int} (h : PTh p q r a b c d) (h' : PTh r q p a' b' c' d') : a' = a ∧ b' = b ∧ c' = c ∧ d' = d := by
  obtain ⟨s, h⟩ := h
  obtain ⟨s', h'⟩ := h'
  exact Pla.same (k := -1) (.inr rfl) h h' (by simp only [nrm, cr, vsb]; grind) (by simp only [nrm, cr, vsb]; grind) (by simp only [nrm, cr, vsb]; grind) (by simp only [nrm, cr, dt, vsb]; grind)
theorem PTh.qrp {p q r : V3} {a b c d a' b' c' d' : Int} (h : PTh p q r a b c d) (h' : PTh q r p a' b' c' d') : a' = a ∧ b' = b ∧ c' = c ∧ d' = d := by
  obtain ⟨s, h⟩ := h
  obtain ⟨s', h'⟩ := h'
  exact Pla.same (k := 1) (.inl rfl) h h' (by simp only [nrm, cr, vsb]; grind) (by simp only [nrm, cr, vsb]; grind) (by simp only [nrm, cr, vsb]; grind) (by simp only [nrm, cr, dt, vsb]; grind)
theorem PTh.rpq {p q r : V3} {a b c d a' b' c' d' : Int} (h : PTh p q r a b c d) (h' : PTh r p q a' b' c' d') : a' = a ∧ b' = b ∧ c' = c ∧ d' = d := by
  obtain ⟨s, h⟩ := h
  obtain ⟨s', h'⟩ := h'
  exact Pla.same (k := 1) (.inl rfl) h h' (by simp only [nrm, cr, vsb]; grind) (by simp only [nrm, cr, vsb]; grind) (by simp only [nrm, cr, vsb]; grind) (by simp only [nrm, cr, dt, vsb]; grind)
theorem Lin.qrp {p q r : V3} (h : Lin p q r) : Lin q r p := by
  obtain ⟨h0, h1, h2⟩ := h
  simp only [nrm, cr, vsb] at h0 h1 h2
  refine ⟨?_, ?_, ?_⟩ <;> simp only [nrm, cr, vsb] <;> grind
theorem Lin.rqp {p q r : V3} : Lin p q r ↔ Lin r q p := by
  constructor <;>
  · rintro ⟨h0, h1, h2⟩
    simp only [nrm, cr, vsb] at h0 h1 h2
    refine ⟨?_, ?_, ?_⟩ <;> simp only [nrm, cr, vsb] <;> grind
theorem Lin.n_qrp {p q r : V3} (h : ¬ Lin p q r) : ¬ Lin q r p := fun e => h e.qrp.qrp
theorem Lin.n_rpq {p q r : V3} (h : ¬ Lin p q r) : ¬ Lin r p q := fun e => h e.qrp
theorem Lin.n_rqp {p q r : V3} (h : ¬ Lin p q r) : ¬ Lin r q p := fun e => h (Lin.rqp.2 e)
theorem Lin.pqp {p q : V3} : Lin p q p := by refine ⟨?_, ?_, ?_⟩ <;> simp only [nrm, cr, vsb] <;> grind
theorem Lin.pqq {p q : V3} : Lin p q q := by refine ⟨?_, ?_, ?_⟩ <;> simp only [nrm, cr, vsb] <;> grind
/-- the three dens -/
def dn (p : V3) : Int := (p.x.den : Int) * (p.y.den : Int) * (p.z.den : Int)
theorem dn_pos {p : V3} : 0 < dn p := Int.mul_pos (Int.mul_pos (denP _) (denP _)) (denP _)
/-- an integer that is a plane's value over a bottom -/
def VT (a b c d : Int) (p : V3) (t m : Int) : Prop := 0 < m ∧ (t : Rat) = pval a b c d p * (m : Rat)
theorem VT.zero {a b c d t m : Int} {p : V3} (h : VT a b c d p t m) : t = 0 ↔ pval a b c d p = 0 := by
  have mz : (m : Rat) ≠ 0 := by have := h.1; exact_mod_cast (show m ≠ 0 by omega)
  constructor
  · intro e
    have := h.2
    rw [e] at this
    exact (Rat.mul_eq_zero.1 this.symm).resolve_right mz
  · intro e
    have := h.2
    rw [e, Rat.zero_mul] at this
    exact_mod_cast this
theorem VT.pos {a b c d t m : Int} {p : V3} (h : VT a b c d p t m) : 0 < t ↔ 0 < pval a b c d p := by
  have mp : (0 : Rat) < (m : Rat) := by have := h.1; exact_mod_cast this
  have e := h.2
  constructor
  · intro ht
    have : (0 : Rat) < (t : Rat) := by exact_mod_cast ht
    rw [e] at this
    exact (Rat.mul_pos_iff_of_pos_right mp).1 this
  · intro hp
    have := Rat.mul_pos hp mp
    rw [← e] at this
    exact_mod_cast this
theorem VT.neg {a b c d t m : Int} {p : V3} (h : VT a b c d p t m) : t < 0 ↔ pval a b c d p < 0 := by
  have h1 := h.zero
  have h2 := h.pos
  constructor
  · intro ht
    have n1 : ¬ 0 < pval a b c d p := fun e => by have := h2.2 e; omega
    have n2 : pval a b c d p ≠ 0 := fun e => by have := h1.2 e; omega
    grind
  · intro hp
    have n1 : ¬ 0 < t := fun e => by have := h2.1 e; grind
    have n2 : t ≠ 0 := fun e => by have := h1.1 e; grind
    omega
theorem VT.sg {a b c d t m : Int} {p : V3} (h : VT a b c d p t m) {r : Int} (h1 : t > 0 → r = 1) (h2 : t < 0 → r = -1) (h3 : t = 0 → r = 0) : r = My.sg (pval a b c d p) := by
  rcases Int.lt_trichotomy t 0 with e | e | e
  · rw [h2 e, sg_neg (h.neg.1 e)]
  · rw [h3 e, h.zero.1 e, sg_0]
  · rw [h1 e, sg_pos (h.pos.1 e)]
theorem VT.over {a b c d : Int} {p : V3} : VT a b c d p (a * (p.x.num * (p.y.den : Int) * (p.z.den : Int)) + b * (p.y.num * (p.x.den : Int) * (p.z.den : Int)) + c * (p.z.num * (p.x.den : Int) * (p.y.den : Int)) + d * ((p.x.den : Int) * (p.y.den : Int) * (p.z.den : Int))) (dn p) := by
  refine ⟨dn_pos, ?_⟩
  have e0 := numc p.x
  have e1 := numc p.y
  have e2 := numc p.z
  simp only [dn, Rat.intCast_mul, Rat.intCast_add, pval]
  grind
theorem VT.q {a b c d t m : Int} {p : V3} (h : VT a b c d p t m) : (t : Rat) / (m : Rat) = pval a b c d p := by
  have mz : (m : Rat) ≠ 0 := by have := h.1; exact_mod_cast (show m ≠ 0 by omega)
  rw [h.2]
  grind
theorem BN.subM {n d n' d' : Nat} {p q : Rat} (m : Nat) (hp : BN n d p) (hq : BN n' d' q) (h1 : n + d' ≤ m) (h2 : n' + d ≤ m) : BN (m + 1) (d + d') (p - q) := by
  rw [← sub_q p q]
  exact BN.dv (mul0 (denI p) (denI q)) ((B.sub (B.mul hp.n hq.d) (B.mul hq.n hp.d)).le (by omega)) ((B.mul hp.d hq.d).le (by omega))
theorem BN.addM {n d n' d' : Nat} {p q : Rat} (m : Nat) (hp : BN n d p) (hq : BN n' d' q) (h1 : n + d' ≤ m) (h2 : n' + d ≤ m) : BN (m + 1) (d + d') (p + q) := by
  rw [← add_q p q]
  exact BN.dv (mul0 (denI p) (denI q)) ((B.add (B.mul hp.n hq.d) (B.mul hq.n hp.d)).le (by omega)) ((B.mul hp.d hq.d).le (by omega))
theorem nrmB {p q r : V3} (hp : VN 134 134 p) (hq : VN 134 134 q) (hr : VN 134 134 r) : VN 1075 1072 (nrm p q r) := by
  have s : ∀ {a b : V3}, VN 134 134 a → VN 134 134 b → VN 269 268 (vsb a b) := fun ha hb => ⟨BN.subM 268 ha.x hb.x (by omega) (by omega), BN.subM 268 ha.y hb.y (by omega) (by omega), BN.subM 268 ha.z hb.z (by omega) (by omega)⟩
  have u := s hq hp
  have v := s hr hp
  exact ⟨BN.subM 1074 (BN.mul u.y v.z) (BN.mul u.z v.y) (by omega) (by omega), BN.subM 1074 (BN.mul u.z v.x) (BN.mul u.x v.z) (by omega) (by omega), BN.subM 1074 (BN.mul u.x v.y) (BN.mul u.y v.x) (by omega) (by omega)⟩
theorem nrmD {n p : V3} (hn : VN 1075 1072 n) (hp : VN 134 134 p) : BN 3640 3630 (dt n p) :=
  BN.le (BN.addM 3622 (BN.addM 2415 (BN.mul hn.x hp.x) (BN.mul hn.y hp.y) (by omega) (by omega)) (BN.mul hn.z hp.z) (by omega) (by omega)) (by omega) (by omega)
theorem sg_z {x : Rat} (h : My.sg x = 0) : x = 0 := by
  rcases (show x < 0 ∨ x = 0 ∨ 0 < x by grind) with e | e | e
  · rw [sg_neg e] at h; cases h
  · exact e
  · rw [sg_pos e] at h; cases h
theorem VT.sgn {a b c d t m : Int} {p : V3} (h : VT a b c d p t m) : ((if decide (0 < t) = true then 1 else 0) - (if decide (t < 0) = true then 1 else 0) : Int) = My.sg (pval a b c d p) := by
  simp only [decide_eq_true_eq]
  refine h.sg ?_ ?_ ?_ <;> intro e
  · rw [if_pos (by omega), if_neg (by omega)]; rfl
  · rw [if_neg (by omega), if_pos (by omega)]; rfl
  · rw [if_neg (by omega), if_neg (by omega)]; rfl
theorem VT.cross {a b c d t : Int} {p : V3} (h : VT a b c d p t (dn p)) : (pval a b c d p).num * ((p.x.den : Int) * (p.y.den : Int) * (p.z.den : Int)) = t * ((pval a b c d p).den : Int) := by
  have e1 := numc (pval a b c d p)
  have e2 := h.2
  have e : (((pval a b c d p).num * dn p : Int) : Rat) = ((t * ((pval a b c d p).den : Int) : Int) : Rat) := by
    rw [Rat.intCast_mul, Rat.intCast_mul, ← e1, e2]
    grind
  exact_mod_cast e
theorem sg_one {x : Rat} (h : x ≠ 0) : My.sg x = 1 ∨ My.sg x = -1 := by
  rcases (show x < 0 ∨ 0 < x by grind) with e | e
  · exact .inr (sg_neg e)
  · exact .inl (sg_pos e)
theorem VT.sgp {a b c d t m : Int} {p : V3} (h : VT a b c d p t m) : ¬ My.sg (pval a b c d p) * t < 0 := by
  rcases Int.lt_trichotomy t 0 with e | e | e
  · rw [sg_neg (h.neg.1 e)]; omega
  · rw [e]; omega
  · rw [sg_pos (h.pos.1 e)]; omega
theorem flat_of {p q r : V3} {u0 u1 u2 v0 v1 v2 : Int} {D E : Rat} (hD : D ≠ 0) (hE : E ≠ 0) (e0 : (u0 : Rat) = (q.x - p.x) * D) (e1 : (u1 : Rat) = (q.y - p.y) * D) (e2 : (u2 : Rat) = (q.z - p.z) * D) (f0 : (v0 : Rat) = (r.x - p.x) * E) (f1 : (v1 : Rat) = (r.y - p.y) * E) (f2 : (v2 : Rat) = (r.z - p.z) * E) :
    (u0 * v1 = u1 * v0 ∧ u0 * v2 = u2 * v0 ∧ u1 * v2 = u2 * v1) ↔ Lin p q r := by
  have go : ∀ a b c d : Int, (a * b = c * d) ↔ (a : Rat) * (b : Rat) = (c : Rat) * (d : Rat) := fun a b c d => by
    rw [← Rat.intCast_mul, ← Rat.intCast_mul]
    exact ⟨fun e => by rw [e], fun e => by exact_mod_cast e⟩
  have DE : D * E ≠ 0 := by
    intro e
    rcases Rat.mul_eq_zero.1 e with e | e
    · exact hD e
    · exact hE e
  rw [go, go, go, e0, e1, e2, f0, f1, f2]
  simp only [Lin, nrm, cr, vsb]
  have z : ∀ x y : Rat, x = y * (D * E) → (x = 0 ↔ y = 0) := fun x y e => by
    rw [e, Rat.mul_eq_zero]
    exact ⟨fun h => h.resolve_right DE, .inl⟩
  have z0 := z ((q.x - p.x) * D * ((r.y - p.y) * E) - (q.y - p.y) * D * ((r.x - p.x) * E)) ((q.x - p.x) * (r.y - p.y) - (q.y - p.y) * (r.x - p.x)) (by grind)
  have z1 := z ((q.z - p.z) * D * ((r.x - p.x) * E) - (q.x - p.x) * D * ((r.z - p.z) * E)) ((q.z - p.z) * (r.x - p.x) - (q.x - p.x) * (r.z - p.z)) (by grind)
  have z2 := z ((q.y - p.y) * D * ((r.z - p.z) * E) - (q.z - p.z) * D * ((r.y - p.y) * E)) ((q.y - p.y) * (r.z - p.z) - (q.z - p.z) * (r.y - p.y)) (by grind)
  constructor
  · rintro ⟨h0, h1, h2⟩
    exact ⟨z2.1 (by grind), z1.1 (by grind), z0.1 (by grind)⟩
  · rintro ⟨h0, h1, h2⟩
    have y0 := z0.2 h2
    have y1 := z1.2 h1
    have y2 := z2.2 h0
    exact ⟨by grind, by grind, by grind⟩
theorem dnz (p q : V3) : (dn p : Rat) * (dn q : Rat) ≠ 0 := by
  have a := dn_pos (p := p)
  have b := dn_pos (p := q)
  intro e
  rcases Rat.mul_eq_zero.1 e with e | e
  · have : dn p = 0 := by exact_mod_cast e
    omega
  · have : dn q = 0 := by exact_mod_cast e
    omega
theorem over_x (p q : V3) : ((q.x.num * (q.y.den : Int) * (q.z.den : Int) * ((p.x.den : Int) * (p.y.den : Int) * (p.z.den : Int)) - p.x.num * (p.y.den : Int) * (p.z.den : Int) * ((q.x.den : Int) * (q.y.den : Int) * (q.z.den : Int)) : Int) : Rat) = (q.x - p.x) * ((dn p : Rat) * (dn q : Rat)) := by
  have e0 := numc p.x
  have e1 := numc q.x
  simp only [dn, Rat.intCast_mul, Rat.intCast_sub]
  grind
theorem over_y (p q : V3) : ((q.y.num * (q.x.den : Int) * (q.z.den : Int) * ((p.x.den : Int) * (p.y.den : Int) * (p.z.den : Int)) - p.y.num * (p.x.den : Int) * (p.z.den : Int) * ((q.x.den : Int) * (q.y.den : Int) * (q.z.den : Int)) : Int) : Rat) = (q.y - p.y) * ((dn p : Rat) * (dn q : Rat)) := by
  have e0 := numc p.y
  have e1 := numc q.y
  simp only [dn, Rat.intCast_mul, Rat.intCast_sub]
  grind
theorem over_z (p q : V3) : ((q.z.num * (q.x.den : Int) * (q.y.den : Int) * ((p.x.den : Int) * (p.y.den : Int) * (p.z.den : Int)) - p.z.num * (p.x.den : Int) * (p.y.den : Int) * ((q.x.den : Int) * (q.y.den : Int) * (q.z.den : Int)) : Int) : Rat) = (q.z - p.z) * ((dn p : Rat) * (dn q : Rat)) := by
  have e0 := numc p.z
  have e1 := numc q.z
  simp only [dn, Rat.intCast_mul, Rat.intCast_sub]
  grind
theorem eqv_w (a b c : Int) : PyData.eqv (vD ⟨(a : Rat), (b : Rat), (c : Rat)⟩) (.tuple [.tuple [.int a, .int 1], .tuple [.int b, .int 1], .tuple [.int c, .int 1]]) = true := by
  simp only [vD, qD, numI, denII, eqv_T, eqv_C, eqv_I, eqv_N, decide_true, Bool.and_self]
theorem eqv_4 (a b c d : Int) : PyData.eqv (.tuple [.int a, .int b, .int c, .int d]) (.tuple [.int a, .int b, .int c, .int d]) = true := by
  simp only [eqv_T, eqv_C, eqv_I, eqv_N, decide_true, Bool.and_self]
theorem eqv_h (a b c d s : Int) : PyData.eqv (.tuple [.tuple [.int a, .int b, .int c, .int d], .int s]) (.tuple [.tuple [.int a, .int b, .int c, .int d], .int s]) = true := by
  simp only [eqv_T, eqv_C, eqv_I, eqv_N, decide_true, Bool.and_self]
theorem eqv_vD (p : V3) : PyData.eqv (vD p) (vD p) = true := by
  simp only [vD, qD, eqv_V, and_self, decide_true]
theorem three_of {ps : List V3} (h : ps.length = 3) : ∃ p q r, ps = [p, q, r] := by
  match ps, h with
  | [p, q, r], _ => exact ⟨p, q, r, rfl⟩
section
variable {K : PySem.W.Frag} {H H0 : Hp} {s l : Addr}
theorem VcL.set {acc : List V} {ps : List V3} (h : VcL K H acc ps) {j : Nat} {x : Addr} {p : V3} (hv : Vc K H x p) : VcL K H (acc.set j (.ref x)) (ps.set j p) := by
  unfold VcL at *
  induction h generalizing j with
  | nil => exact .nil
  | cons r t ih =>
    cases j with
    | zero => exact .cons ⟨x, rfl, hv⟩ t
    | succ j => exact .cons r ih
theorem r_setV {ps : List V3} {p : V3} {x : Addr} {Q : Hp → Prop} {k : Int} {j : Nat} (nl : H0 l = none) (st0 : St K H0 s) (e : Fr s H0 H) (st : St K H s) (h : VL K H l ps) (hv : Vc K H x p) (ix : ixN ps.length k = some j)
    (q : ∀ H1, Fr s H0 H1 → St K H1 s → TK K H H1 → VL K H1 l (ps.set j p) → Q H1) : rSetL (.ref l) (.int k) (.ref x) H Q := by
  obtain ⟨acc, ha, hacc⟩ := h
  exact r_setK (K := K) nl st0 e st ha (by rw [hacc.len]; exact ix) rfl (fun H1 f1 s1 hl kp => q H1 f1 s1 kp ⟨_, hl, (hacc.tk kp).set (hv.tk kp)⟩)
end
theorem if_ltI {a b : Int} {A B : Prop} (h1 : a < b → A) (h2 : ¬ a < b → B) : if decide (a < b) = true then A else B := by
  by_cases h : a < b
  · rw [if_pos (decide_eq_true h)]; exact h1 h
  · rw [if_neg (by rw [decide_eq_false h]; decide)]; exact h2 h
theorem blend1 {p q : V3} {x : Rat} (hp : VN 134 134 p) (hq : VN 134 134 q) (hx : BN 6 6 x) : VN 410 408 (va p (sc x (vsb q p))) := by
  have a : VN 269 268 (vsb q p) := ⟨BN.subM 268 hq.x hp.x (by omega) (by omega), BN.subM 268 hq.y hp.y (by omega) (by omega), BN.subM 268 hq.z hp.z (by omega) (by omega)⟩
  have b := VN.sc hx a
  exact ⟨BN.addM 409 hp.x b.x (by omega) (by omega), BN.addM 409 hp.y b.y (by omega) (by omega), BN.addM 409 hp.z b.z (by omega) (by omega)⟩
theorem blend2 {b r : V3} {y : Rat} (hb : VN 410 408 b) (hr : VN 134 134 r) (hy : BN 6 6 y) : VN 960 956 (va b (sc y (vsb r b))) := by
  have a : VN 545 542 (vsb r b) := ⟨BN.subM 544 hr.x hb.x (by omega) (by omega), BN.subM 544 hr.y hb.y (by omega) (by omega), BN.subM 544 hr.z hb.z (by omega) (by omega)⟩
  have c := VN.sc hy a
  exact ⟨BN.addM 959 hb.x c.x (by omega) (by omega), BN.addM 959 hb.y c.y (by omega) (by omega), BN.addM 959 hb.z c.z (by omega) (by omega)⟩
theorem dvm {n d : Int} (h : d ≠ 0) : ((n : Rat) / (d : Rat)) * (d : Rat) = (n : Rat) := by
  have : (d : Rat) ≠ 0 := icz h
  grind
/-- an integer or a ratio -/
def RvQ (K : PySem.W.Frag) (H : Hp) (v : V) (q : Rat) : Prop := (∃ z : Int, v = .int z ∧ q = (z : Rat)) ∨ ∃ a : Addr, v = .ref a ∧ SqT K H a [.int q.num, .int (q.den : Int)]
end My

set_option Elab.async false
set_option linter.all false
set_option maxRecDepth 100000
/-! exception objects as values: made, their fields read -/
namespace My
open PySem L2 PySem.Spec PyProof.Rows
section
variable {X : Cx} {e : Expr} {es : List Expr} {te : TE} {ta : TA} {n x : Str} {p pos : Pos} {C fI : Addr} {k : Nat} {fd : FuncData} {ps : List Str} {sp : Sp} {bmB : List Value} {B newId initId : String}
/-- e.n of an exception object that is held as a value -/
def tOxf (K : PySem.W.Frag) (f : Str) (te : TE) : TE := fun σ H Q => te σ H fun x H1 => ∃ (a C d : Addr) (fs : List (Str × V)) (v : V), x = .ref a ∧ XfC K C ∧ PySem.W.findIn K (.ref C) f = some none ∧ H1 a = some (exo a C (some d)) ∧ H1 d = some (exd d fs) ∧ fs.lookup f = some v ∧ Q v H1
theorem pe_oxf (he : PE X e te) (hb : attributeBase e n X.env (eval e X.env) = eval e X.env := by rfl) : PE X (.Attribute e n pos) (tOxf X.K n te) := by
  refine ⟨fun pins s σ H Q I h => attr_of hb (thn (he.run pins s σ H _ I h) fun u s1 ⟨y, H1, I1, ry, a, C, d, fs, v, ey, T, hno, ha, hd, hl, q⟩ => ?_)⟩
  subst ey
  cases ry
  obtain ⟨t1, ho⟩ := exo_at I1.hok ha
  obtain ⟨mA, hns, rel⟩ := exd_at I1.hok hd
  obtain ⟨od, hod, lk⟩ := lookIn_ns hns
  obtain ⟨u, hu, ru⟩ := RelO.some_of (v := v) (o := mA n) (hl ▸ rel n)
  have at_ : PySem.W.InstAt s1.heap a _ C (some od) := ⟨ho, rfl, rfl, hod⟩
  exact HandSPX.exc_get I1.kIn at_ T.ga T.gg T.exC (PySem.W.findObj_own T.hdC hno rfl (by rw [lk, hu])) (handed_of ru) ⟨v, H1, I1.tok _, ru, q⟩
/-- X() of an own class without own __init__, as a value -/
theorem pe_exo0 (F : ExcBaseFacts B newId initId bmB) (q : PySem.W.excIn X.K C bmB newId = true) (gC : X.mg x = some (.ref C)) (kC : PySem.W.keepIn X.K (.ref C) = true) (hg : Gl X x) (hdb : (x == ("__debug__" : Str)) = false := by decide) :
    PE X (.Call (.Name x p) [] [] pos) (fun _ H Q => ∀ a, H a = none → Q (.ref a) (upd H a (exo a C none))) := by
  refine ⟨fun pins s σ H Q I h => wpAny_Call_Name_kw (ld_glob I hg gC (PySem.W.callWith_K0 I.kIn kC ?_) hdb)⟩
  obtain ⟨bm, N, nm, qn, bs, hdct, sn, sub, ab, col, dd, k0, k1, k2, k3, k5, mN, c1, c2, c3, T⟩ := exc_obj I.kIn q
  refine wpAny_call_exc_subT F T c1 c2 c3 (fun h' a made => ?_) (Nat.zero_le _)
  have hn : H a = none := I.hok.gone made.new
  obtain ⟨t, ht, _, _⟩ := made.there
  exact ⟨.ref a, upd H a (exo a C none), I.laidN made.keeps made.new hn (exo_ok ht), rfl, h a hn⟩
/-- X(e, ..) of an own class with own __init__ that keeps sp, as a value -/
theorem pe_oexV {ds : List Value} {dvs : List V} (T : OexC X.K C) (iC : PySem.W.findIn X.K (.ref C) "__init__" = some (some (.ref fI))) (tI : PySem.W.typeIn X.K (.ref fI) = some (.type "function"))
    (F1 : FnOk X.prog X.w X.K X.mg X.base CX0 k fI fd ps sp) (hr : Room (k + 1) X.A) (hb : Binds X.K fd ps ds) (hd : Vals dvs ds) (hg : Gl X x) (hm : X.mg x = some (.ref C)) (ha : PA X (e :: es) ta)
    (hdb : (x == ("__debug__" : Str)) = false := by decide) (he : starEach (e :: es) X.env = (false, eval e X.env) :: starEach es X.env := by rfl) (hpl : (backTo pos (starEach es X.env)).any (·.1) = false := by rfl) :
    PE X (.Call (.Name x p) (e :: es) [] pos) (fun σ H Q => ta σ H fun vs H1 => vs.length ≤ 1000 ∧ ∀ a, H1 a = none → sp (.ref a :: (vs ++ dvs)) (upd H1 a (exo a C none)) (fun v H2 => v = .non ∧ Q (.ref a) H2) E0) := by
  refine ⟨fun pins s σ H Q I h => wpAny_Call_Name_kw (ld_glob I hg hm ?_ hdb)⟩
  refine PySem.W.callWith_K (h₀ := X.base) I.ok.mod.kin T.kC (thn (ha.run pos pins s σ H _ I h) fun us s1 ⟨vs, H1, I1, rv, few, q⟩ => ⟨I1.kIn, ?_⟩) he hpl
  obtain ⟨nm, qn, N, bs, bm, sn, sub, ab, col, dd, k0, k1, k2, k3, k5, atC, nest⟩ := T.cls
  obtain ⟨hp, g, dr, tk, os⟩ := s1
  have up : hp.objs.size ≤ hp.objs.size + 1 := by omega
  have fresh : H1 (hp.objs.size + 1) = none := I1.hok.fresh up
  have keep : ∀ b o, hp.get? b = some o → ((hp.push (PySem.W.kdv_tup us)).push (PySem.HandSPX.excO C hp.objs.size)).get? b = some o := fun b o z => Heap.get?_push_of_some _ (Heap.get?_push_of_some _ z)
  have here : ((hp.push (PySem.W.kdv_tup us)).push (PySem.HandSPX.excO C hp.objs.size)).get? (hp.objs.size + 1) = some (PySem.HandSPX.excO C hp.objs.size) := by heap_get
  have J := I1.laid (t' := tk) (a := hp.objs.size + 1) (o := exo (hp.objs.size + 1) C none) keep up (exo_ok here)
  have z := q (hp.objs.size + 1) fresh
  have rr : Vals (V.ref (hp.objs.size + 1) :: (vs ++ dvs)) (Value.ref (hp.objs.size + 1) :: (us ++ ds)) := .cons rfl (rv.append hd)
  have len : (Value.ref (hp.objs.size + 1) :: us ++ ds).length = ps.length := (rr.length).symm.trans (F1.len _ _ _ _ z)
  have line : us.length ≤ sizeLine := by
    have := Paired.length rv
    rw [sizeLine_eq]
    omega
  refine wpAny_call (PySem.HandSPX.call_own F.excBase_ValueError (fun Y => PySem.HandSPX.refsVE_contains Y bm nest) (I1.kIn _ _ atC) (PySem.W.looks_findIn I1.kIn iC) (fun self => PySem.W.bind_fn I1.kIn self tI) line
    (codeAny_mono (F1.run _ X.stack _ _ ⟨Value.ref (hp.objs.size + 1) :: us, []⟩ (Value.ref (hp.objs.size + 1) :: (us ++ ds)) _ _ E0 (hr.make C us []) (J.env0.make C us []) (hb _ (Value.ref (hp.objs.size + 1) :: us) J.kIn len) rr z) fun r s' out => ?_))
  cases r with
  | error er => exact pass0 pins σ _ _ er s' J out
  | ok fl =>
    cases fl with
    | ret u =>
      obtain ⟨v, H2, os2, bare, un, ok2, ru, rfl, q2⟩ := out
      exact ⟨ru, V.ref (hp.objs.size + 1), H2, J.call' (ch := []) os2 un ok2 bare (fun b z => absurd z (by simp)), rfl, q2⟩
    | next => exact False.elim out
    | brk => exact False.elim out
    | cont => exact False.elim out
/-- isinstance(e, c), e an exception object held as a value -/
def rIsO (K : PySem.W.Frag) : List V → Hp → VK → Prop := fun xs H Q => ∃ (a D : Addr) (d : Option Addr), ExcC K D ∧ H a = some (exo a D d) ∧ (∀ dd, d = some dd → ∃ fs, H dd = some (exd dd fs)) ∧ rIsE K D a xs H Q
theorem call_isO : CallR X (.builtin "isinstance") (rIsO X.K) := fun pins s σ H xs us Q I r h => by
  obtain ⟨a, D, d, hx, ha, hd, c, cv, b, rfl, hcv, e, q⟩ := h
  obtain ⟨u1, u2, rfl, r1, r2⟩ := vals2 r
  cases r1
  have e2 := hcv _ r2
  subst e2
  obtain ⟨t1, ho⟩ := exo_at I.hok ha
  have at_ : ∃ od, PySem.W.InstAt s.heap a ({ cls := .ref D, dict := d, data := .fields #[.ref t1, .none, .none, .none, .bool false, .none] } : Obj) D od := by
    cases d with
    | none => exact ⟨none, ho, rfl, rfl, trivial⟩
    | some dd =>
      obtain ⟨fs, hf⟩ := hd dd rfl
      obtain ⟨mA, hns, rel⟩ := exd_at I.hok hf
      obtain ⟨od, hod, lk⟩ := lookIn_ns hns
      exact ⟨some od, ho, rfl, rfl, hod⟩
  obtain ⟨od, at_⟩ := at_
  exact PySem.W.kia_one (PySem.W.kitx_exc (od := od) (by obtain ⟨cd, hc, _⟩ := PySem.W.any_some hx.hd; rw [hc]; rfl) hx.hg hx.hk hx.hs hx.ha hx.hn hx.ht hx.hm) I.kIn at_ e (fun z => nomatch z) (fun tk => ⟨.bl b, H, I.tok tk, rfl, q⟩)
theorem kc_isO {K : PySem.W.Frag} (hK : X.K = K) : CallR X (.builtin "isinstance") (rIsO K) := hK ▸ call_isO
theorem r_isO {K : PySem.W.Frag} {H : Hp} {Q : VK} {a D c : Addr} {d : Option Addr} {b : Bool} (hx : ExcC K D) (ha : H a = some (exo a D d)) (hd : ∀ dd, d = some dd → ∃ fs, H dd = some (exd dd fs)) (e : PySem.W.kitOne K (.ref D) (.ref c) = some b) (q : Q (.bl b) H) : rIsO K [.ref a, .ref c] H Q :=
  ⟨a, D, d, hx, ha, hd, .ref c, .ref c, b, rfl, fun u r => r, e, q⟩
theorem r_isOb {K : PySem.W.Frag} {H : Hp} {Q : VK} {a D : Addr} {n : String} {d : Option Addr} {b : Bool} (hx : ExcC K D) (ha : H a = some (exo a D d)) (hd : ∀ dd, d = some dd → ∃ fs, H dd = some (exd dd fs)) (e : PySem.W.kitOne K (.ref D) (.type n) = some b) (q : Q (.bl b) H) : rIsO K [.ref a, .ty n] H Q :=
  ⟨a, D, d, hx, ha, hd, .ty n, .type n, b, rfl, fun u r => r, e, q⟩
end
end My

set_option Elab.async false
set_option linter.all false
set_option maxRecDepth 100000
/-! plain data of any shape: read, copied, bent -/
namespace My
open PySem L2 PySem.Spec PyProof.Rows
/-! data whose lists stand off the addresses N -/
mutual
inductive Dn (K : PySem.W.Frag) (N : List Addr) (H : Hp) : V → PyData → Prop
  | non : Dn K N H .non .none
  | bl (b : Bool) : Dn K N H (.bl b) (.bool b)
  | int (i : Int) : Dn K N H (.int i) (.int i)
  | str (x : Str) : Dn K N H (.str x) (.str x)
  | lst {a : Addr} {xs : List V} {ds : List PyData} : a ∉ N → H a = some (.lst xs) → DnA K N H xs ds → Dn K N H (.ref a) (.list ds)
  | tup {a : Addr} {xs : List V} {ds : List PyData} : SqT K H a xs → DnA K N H xs ds → Dn K N H (.ref a) (.tuple ds)
inductive DnA (K : PySem.W.Frag) (N : List Addr) (H : Hp) : List V → List PyData → Prop
  | nil : DnA K N H [] []
  | cons {v : V} {vs : List V} {d : PyData} {ds : List PyData} : Dn K N H v d → DnA K N H vs ds → DnA K N H (v :: vs) (d :: ds)
end
mutual
theorem Dn.mp {K : PySem.W.Frag} {N N' : List Addr} {H H' : Hp} (hl : ∀ a xs, a ∉ N → H a = some (.lst xs) → a ∉ N' ∧ H' a = some (.lst xs)) (ht : TK K H H') : ∀ {v : V} {d : PyData}, Dn K N H v d → Dn K N' H' v d
  | _, _, .non => .non
  | _, _, .bl b => .bl b
  | _, _, .int i => .int i
  | _, _, .str x => .str x
  | _, _, .lst n h a => .lst (hl _ _ n h).1 (hl _ _ n h).2 (DnA.mp hl ht a)
  | _, _, .tup h a => .tup (ht _ _ h) (DnA.mp hl ht a)
theorem DnA.mp {K : PySem.W.Frag} {N N' : List Addr} {H H' : Hp} (hl : ∀ a xs, a ∉ N → H a = some (.lst xs) → a ∉ N' ∧ H' a = some (.lst xs)) (ht : TK K H H') : ∀ {vs : List V} {ds : List PyData}, DnA K N H vs ds → DnA K N' H' vs ds
  | _, _, .nil => .nil
  | _, _, .cons h a => .cons (Dn.mp hl ht h) (DnA.mp hl ht a)
end
mutual
theorem Dn.dp {K : PySem.W.Frag} {N : List Addr} {H : Hp} : ∀ {v : V} {d : PyData}, Dn K N H v d → Dp K H v d
  | _, _, .non => .non
  | _, _, .bl b => .bl b
  | _, _, .int i => .int i
  | _, _, .str x => .str x
  | _, _, .lst n h a => .lst (SqL.of h) (DnA.dp a)
  | _, _, .tup h a => .tup h (DnA.dp a)
theorem DnA.dp {K : PySem.W.Frag} {N : List Addr} {H : Hp} : ∀ {vs : List V} {ds : List PyData}, DnA K N H vs ds → DpAll K H vs ds
  | _, _, .nil => .nil
  | _, _, .cons h a => .cons (Dn.dp h) (DnA.dp a)
end
section
variable {K : PySem.W.Frag} {N N' : List Addr} {H H' : Hp} {v : V} {d : PyData} {vs : List V} {ds : List PyData}
theorem Dn.same (e : Same H H') (h : Dn K N H v d) : Dn K N H' v d := h.mp (fun _ _ n h => ⟨n, e _ _ h⟩) (TK.same e)
theorem DnA.same (e : Same H H') (h : DnA K N H vs ds) : DnA K N H' vs ds := h.mp (fun _ _ n h => ⟨n, e _ _ h⟩) (TK.same e)
theorem Dn.upd {l : Addr} {xs : List V} {o : HO} (hN : l ∈ N) (hl : H l = some (.lst xs)) (h : Dn K N H v d) : Dn K N (L2.upd H l o) v d :=
  h.mp (fun a _ n h => ⟨n, (upd_ne (fun e => n (e ▸ hN))).trans h⟩) (TK.upd hl)
theorem DnA.upd {l : Addr} {xs : List V} {o : HO} (hN : l ∈ N) (hl : H l = some (.lst xs)) (h : DnA K N H vs ds) : DnA K N (L2.upd H l o) vs ds :=
  h.mp (fun a _ n h => ⟨n, (upd_ne (fun e => n (e ▸ hN))).trans h⟩) (TK.upd hl)
theorem Dn.add {l : Addr} (hl : H l = none) (h : Dn K N H v d) : Dn K (l :: N) H v d :=
  h.mp (fun a _ n h => ⟨fun e => (List.mem_cons.1 e).elim (fun e => by rw [e, hl] at h; cases h) n, h⟩) (TK.refl _ _)
theorem DnA.add {l : Addr} (hl : H l = none) (h : DnA K N H vs ds) : DnA K (l :: N) H vs ds :=
  h.mp (fun a _ n h => ⟨fun e => (List.mem_cons.1 e).elim (fun e => by rw [e, hl] at h; cases h) n, h⟩) (TK.refl _ _)
theorem Dn.mono (hN : ∀ a, a ∈ N' → a ∈ N) (h : Dn K N H v d) : Dn K N' H v d := h.mp (fun _ _ n h => ⟨fun q => n (hN _ q), h⟩) (TK.refl _ _)
theorem DnA.mono (hN : ∀ a, a ∈ N' → a ∈ N) (h : DnA K N H vs ds) : DnA K N' H vs ds := h.mp (fun _ _ n h => ⟨fun q => n (hN _ q), h⟩) (TK.refl _ _)
theorem Dn.fr {st : Addr} (e : Fr st H H') (hs : My.St K H st) (hN : st ∈ N) (h : Dn K N H v d) : Dn K N H' v d :=
  h.mp (fun a _ n h => ⟨n, e.keep _ _ (fun q => n (q ▸ hN)) h⟩) (TK.fr e hs)
theorem Dn.all (h : Dn K N H v d) : Dn K [] H v d := h.mono fun _ q => absurd q (by simp)
theorem DnA.len (h : DnA K N H vs ds) : vs.length = ds.length := DpAll.len h.dp
theorem DnA.get : ∀ {vs : List V} {ds : List PyData} (_ : DnA K N H vs ds) {i : Nat} {x : V} (_ : vs[i]? = some x), ∃ d, ds[i]? = some d ∧ Dn K N H x d
  | _, _, .nil, _, _, e => by simp at e
  | _, _, .cons a t, 0, _, e => by cases e; exact ⟨_, rfl, a⟩
  | _, _, .cons a t, i + 1, _, e => DnA.get t e
theorem DnA.snoc : ∀ {vs : List V} {ds : List PyData} (_ : DnA K N H vs ds) (_ : Dn K N H v d), DnA K N H (vs ++ [v]) (ds ++ [d])
  | _, _, .nil, h => .cons h .nil
  | _, _, .cons a t, h => .cons a (DnA.snoc t h)
theorem DnA.append {vs' : List V} {ds' : List PyData} : ∀ {vs : List V} {ds : List PyData} (_ : DnA K N H vs ds) (_ : DnA K N H vs' ds'), DnA K N H (vs ++ vs') (ds ++ ds')
  | _, _, .nil, h => h
  | _, _, .cons a t, h => .cons a (DnA.append t h)
theorem DnA.drop : ∀ {vs : List V} {ds : List PyData} (_ : DnA K N H vs ds) (n : Nat), DnA K N H (vs.drop n) (ds.drop n)
  | _, _, .nil, n => by simp only [List.drop_nil]; exact .nil
  | _, _, .cons a t, 0 => .cons a t
  | _, _, .cons a t, n + 1 => DnA.drop t n
theorem DnA.take : ∀ {vs : List V} {ds : List PyData} (_ : DnA K N H vs ds) (n : Nat), DnA K N H (vs.take n) (ds.take n)
  | _, _, .nil, n => by simp only [List.take_nil]; exact .nil
  | _, _, .cons a t, 0 => .nil
  | _, _, .cons a t, n + 1 => .cons a (DnA.take t n)
theorem DnA.rev : ∀ {vs : List V} {ds : List PyData} (_ : DnA K N H vs ds), DnA K N H vs.reverse ds.reverse
  | _, _, .nil => .nil
  | _, _, .cons a t => by simp only [List.reverse_cons]; exact (DnA.rev t).snoc a
/-- addresses that are there -/
def Al (H : Hp) (N : List Addr) : Prop := ∀ a, a ∈ N → H a ≠ none
theorem Al.same (e : Same H H') (h : Al H N) : Al H' N := fun a q z => by
  have := h a q
  cases hh : H a with
  | none => exact this hh
  | some o => rw [e _ _ hh] at z; cases z
theorem Al.fr {st : Addr} (e : Fr st H H') (hs : My.St K H st) (h : Al H N) : Al H' N := fun a q z => by
  have := h a q
  by_cases c : a = st
  · subst c
    obtain ⟨l, ns, i1, i2, i3, i4, i5, i6, hs⟩ := hs
    obtain ⟨ys, hy, _⟩ := e.hd _ hs.at_
    rw [hy] at z; cases z
  · cases hh : H a with
    | none => exact this hh
    | some o => rw [e.keep _ _ c hh] at z; cases z
theorem Al.nil : Al H [] := fun _ q => absurd q (by simp)
theorem Al.st {st : Addr} (hs : My.St K H st) : Al H [st] := fun a q => by
  rw [List.mem_singleton.1 q]; exact hs.some
theorem Al.cons {l : Addr} {o : HO} (hl : H l = some o) (h : Al H N) : Al H (l :: N) := fun a q z => by
  rcases List.mem_cons.1 q with rfl | q
  · rw [hl] at z; cases z
  · exact h a q z
theorem Al.new {p : Addr} (h : Al H N) (hp : H p = none) : p ∉ N := fun q => h p q hp
end
/-- what a value is made of: small ints, short texts, lists and tuples no deeper than n -/
def Pd : Nat → PyData → Prop
  | 0, _ => False
  | _ + 1, .none => True
  | _ + 1, .bool _ => True
  | _ + 1, .int i => B 1100 i
  | _ + 1, .str x => x.length ≤ 100
  | n + 1, .list ds => ds.length ≤ 150 ∧ ∀ d, d ∈ ds → Pd n d
  | n + 1, .tuple ds => ds.length ≤ 150 ∧ ∀ d, d ∈ ds → Pd n d
  | _ + 1, _ => False
/-- the same behind a bend -/
def Pe : Nat → PyData → Prop
  | 0, _ => False
  | _ + 1, .none => True
  | _ + 1, .bool _ => True
  | _ + 1, .int _ => True
  | _ + 1, .str _ => True
  | n + 1, .list ds => ds.length ≤ 400 ∧ ∀ d, d ∈ ds → Pe n d
  | n + 1, .tuple ds => ds.length ≤ 400 ∧ ∀ d, d ∈ ds → Pe n d
  | _ + 1, _ => False
theorem Pd.succ : ∀ {n : Nat} {d : PyData}, Pd n d → Pd (n + 1) d
  | 0, _, h => h.elim
  | n + 1, .none, _ => trivial
  | n + 1, .bool _, _ => trivial
  | n + 1, .int _, h => h
  | n + 1, .str _, h => h
  | n + 1, .list _, h => ⟨h.1, fun d q => (h.2 d q).succ⟩
  | n + 1, .tuple _, h => ⟨h.1, fun d q => (h.2 d q).succ⟩
theorem Pd.mono {n m : Nat} {d : PyData} (h : Pd n d) (e : n ≤ m) : Pd m d := by
  induction e with
  | refl => exact h
  | step _ ih => exact ih.succ
theorem Pe.succ : ∀ {n : Nat} {d : PyData}, Pe n d → Pe (n + 1) d
  | 0, _, h => h.elim
  | n + 1, .none, _ => trivial
  | n + 1, .bool _, _ => trivial
  | n + 1, .int _, h => trivial
  | n + 1, .str _, h => trivial
  | n + 1, .list _, h => ⟨h.1, fun d q => (h.2 d q).succ⟩
  | n + 1, .tuple _, h => ⟨h.1, fun d q => (h.2 d q).succ⟩
theorem Pe.mono {n m : Nat} {d : PyData} (h : Pe n d) (e : n ≤ m) : Pe m d := by
  induction e with
  | refl => exact h
  | step _ ih => exact ih.succ
theorem Pd.pe : ∀ {n : Nat} {d : PyData}, Pd n d → Pe n d
  | 0, _, h => h.elim
  | n + 1, .none, _ => trivial
  | n + 1, .bool _, _ => trivial
  | n + 1, .int _, h => trivial
  | n + 1, .str _, h => trivial
  | n + 1, .list _, h => ⟨Nat.le_trans h.1 (by decide), fun d q => (h.2 d q).pe⟩
  | n + 1, .tuple _, h => ⟨Nat.le_trans h.1 (by decide), fun d q => (h.2 d q).pe⟩
/-- some data no deeper than n -/
def Pn (K : PySem.W.Frag) (N : List Addr) (H : Hp) (n : Nat) (v : V) : Prop := ∃ d, Dn K N H v d ∧ Pe n d
def PnA (K : PySem.W.Frag) (N : List Addr) (H : Hp) (n m : Nat) (vs : List V) : Prop := ∃ ds, DnA K N H vs ds ∧ (∀ d, d ∈ ds → Pe n d) ∧ vs.length ≤ m
section
variable {K : PySem.W.Frag} {N N' : List Addr} {H H' : Hp} {v : V} {vs ws : List V} {n m m' : Nat} {a : Addr}
theorem Pn.same (e : Same H H') (h : Pn K N H n v) : Pn K N H' n v := let ⟨d, x, y⟩ := h; ⟨d, x.same e, y⟩
theorem Pn.mono (h : Pn K N H n v) {m : Nat} (e : n ≤ m) : Pn K N H m v := let ⟨d, x, y⟩ := h; ⟨d, x, y.mono e⟩
theorem Pn.up (h : Pn K N H n v) : Pn K N H (n + 1) v := h.mono (Nat.le_succ n)
theorem Pn.non : Pn K N H (n + 1) .non := ⟨_, .non, trivial⟩
theorem Pn.bl (b : Bool) : Pn K N H (n + 1) (.bl b) := ⟨_, .bl b, trivial⟩
theorem Pn.int (i : Int) : Pn K N H (n + 1) (.int i) := ⟨_, .int i, trivial⟩
theorem Pn.str (x : Str) : Pn K N H (n + 1) (.str x) := ⟨_, .str x, trivial⟩
theorem Pn.tup (q : SqT K H a vs) (h : PnA K N H n m vs) (l : m ≤ 400) : Pn K N H (n + 1) (.ref a) := let ⟨ds, x, y, z⟩ := h; ⟨_, .tup q x, by rw [← x.len]; omega, y⟩
theorem Pn.lst (hn : a ∉ N) (q : H a = some (.lst vs)) (h : PnA K N H n m vs) (l : m ≤ 400) : Pn K N H (n + 1) (.ref a) := let ⟨ds, x, y, z⟩ := h; ⟨_, .lst hn q x, by rw [← x.len]; omega, y⟩
theorem PnA.nil : PnA K N H n 0 [] := ⟨[], .nil, fun _ q => absurd q (by simp), Nat.le_refl _⟩
theorem PnA.cons (h : Pn K N H n v) (t : PnA K N H n m vs) : PnA K N H n (m + 1) (v :: vs) := let ⟨d, x, y⟩ := h; let ⟨ds, z, u, l⟩ := t; ⟨d :: ds, .cons x z, fun e q => (List.mem_cons.1 q).elim (fun q => q ▸ y) (u e), Nat.succ_le_succ l⟩
theorem PnA.append (h : PnA K N H n m vs) (t : PnA K N H n m' ws) : PnA K N H n (m + m') (vs ++ ws) := let ⟨ds, x, y, l⟩ := h; let ⟨es, z, u, l'⟩ := t; ⟨ds ++ es, x.append z, fun e q => (List.mem_append.1 q).elim (y e) (u e), by rw [List.length_append]; omega⟩
theorem PnA.snoc (h : PnA K N H n m vs) (t : Pn K N H n v) : PnA K N H n (m + 1) (vs ++ [v]) := h.append (.cons t .nil)
theorem PnA.cut (h : PnA K N H n m vs) (lo hi : Option Int) : PnA K N H n m (cutV vs lo hi) := let ⟨ds, x, y, l⟩ := h; ⟨_, (x.drop _).take _, fun e q => y e (List.mem_of_mem_drop (List.mem_of_mem_take q)), Nat.le_trans (cutV_length _ _ _) l⟩
theorem PnA.rev (h : PnA K N H n m vs) : PnA K N H n m vs.reverse := let ⟨ds, x, y, l⟩ := h; ⟨_, x.rev, fun e q => y e (List.mem_reverse.1 q), by rw [List.length_reverse]; exact l⟩
theorem PnA.same (e : Same H H') (h : PnA K N H n m vs) : PnA K N H' n m vs := let ⟨d, x, y⟩ := h; ⟨d, x.same e, y⟩
theorem PnA.mono (h : PnA K N H n m vs) {n' : Nat} (e : n ≤ n') : PnA K N H n' m vs := let ⟨d, x, y, z⟩ := h; ⟨d, x, fun z q => (y z q).mono e, z⟩
theorem PnA.upd {l : Addr} {xs : List V} {o : HO} (hN : l ∈ N) (hl : H l = some (.lst xs)) (h : PnA K N H n m vs) : PnA K N (L2.upd H l o) n m vs := let ⟨d, x, y⟩ := h; ⟨d, x.upd hN hl, y⟩
theorem PnA.less (hN : ∀ a, a ∈ N' → a ∈ N) (h : PnA K N H n m vs) : PnA K N' H n m vs := let ⟨d, x, y⟩ := h; ⟨d, x.mono hN, y⟩
theorem Pn.less (hN : ∀ a, a ∈ N' → a ∈ N) (h : Pn K N H n v) : Pn K N' H n v := let ⟨d, x, y⟩ := h; ⟨d, x.mono hN, y⟩
theorem Al.new' {p : Addr} (hp : H p = none) (h : Al H N) : p ∉ N := h.new hp
theorem r_ixM {Q : VK} {p : Addr} {xs : List V} {i : Int} (q : SqL K H p xs) (h0 : 0 ≤ i) (h1 : i < (xs.length : Int)) (h : ∀ v, v ∈ xs → Q v H) : rIxL K (.ref p) (.int i) H Q := by
  obtain ⟨v, ea, hm, _⟩ := atI_in h0 h1
  exact r_ixL q ea (h v hm)
theorem r_catB {Q : VK} {a b : Addr} {xs ys : List V} (ha : SqT K H a xs) (hb : SqT K H b ys) (hn : xs.length + ys.length ≤ 100000) (h : ∀ p H1, Same H H1 → SqT K H1 p (xs ++ ys) → Q (.ref p) H1) : rCatA K (.ref a) (.ref b) H Q := r_catA ha hb rfl (decide_eq_true hn) h
theorem r_catLB {H : Hp} {a b : Addr} {xs ys : List V} {Q : VK} (h1 : H a = some (.lst xs)) (h2 : H b = some (.lst ys)) (hn : xs.length + ys.length ≤ 100000) (h : ∀ p H1, H p = none → Same H H1 → H1 p = some (.lst (xs ++ ys)) → Q (.ref p) H1) : rCat (.ref a) (.ref b) H Q :=
  ⟨a, b, xs, ys, rfl, rfl, h1, h2, Nat.le_trans hn (by decide), fun p np => h p _ np (Same.new np) upd_same⟩
theorem p256 : ∀ n : Nat, (1 : Int) ≤ 256 ^ n
  | 0 => by decide
  | n + 1 => by
    have := p256 n
    rw [Int.pow_succ]
    omega
end
/-! kinds -/
def kdD : PyData → String
  | .none => "NoneType" | .bool _ => "bool" | .int _ => "int" | .str _ => "str" | .list _ => "list" | .tuple _ => "tuple" | _ => "dict"
section
variable {K : PySem.W.Frag} {N : List Addr} {H : Hp} {v : V} {d : PyData} {Q : VK}
theorem _root_.My.Dp.ty (h : Dp K H v d) : TyX K H v (.type (kdD d)) := by
  cases h with
  | non => exact .base .non
  | bl b => exact .base (.bl b)
  | int i => exact .base (.int i)
  | str x => exact .base (.str x)
  | lst h _ =>
    rcases h with (h | ⟨o, h⟩) | ⟨o, its, n, ho, hc, _⟩
    · exact .base (.lst h)
    · exact .base (.frz h)
    · exact .kList ho hc
  | tup h _ =>
    rcases h with (h | ⟨o, h⟩) | ⟨o, its, n, ho, hc, _⟩
    · exact .base (.tup h)
    · exact .fTuple h
    · exact .kTuple ho hc
theorem r_isD {n : String} {b : Bool} (h : Dp K H v d) (e : kitB (kdD d) n = some b) (q : Q (.bl b) H) : rIsi K [v, .ty n] H Q := ⟨v, .ty n, _, _, b, rfl, .ty n, Dp.ty h, kit_ty e, q⟩
theorem kd_tuple (d : PyData) : kitB (kdD d) "tuple" = some (match d with | .tuple _ => true | _ => false) := by cases d <;> (dsimp only [kdD]; decide +kernel)
theorem kd_list (d : PyData) : kitB (kdD d) "list" = some (match d with | .list _ => true | _ => false) := by cases d <;> (dsimp only [kdD]; decide +kernel)
theorem kd_str (d : PyData) : kitB (kdD d) "str" = some (match d with | .str _ => true | _ => false) := by cases d <;> (dsimp only [kdD]; decide +kernel)
theorem kd_bool (d : PyData) : kitB (kdD d) "bool" = some (match d with | .bool _ => true | _ => false) := by cases d <;> (dsimp only [kdD]; decide +kernel)
theorem kd_int (d : PyData) : kitB (kdD d) "int" = some (match d with | .bool _ => true | .int _ => true | _ => false) := by cases d <;> (dsimp only [kdD]; decide +kernel)
end
/-! isinstance(x, (A, B)) -/
section
variable {X : Cx} {K : PySem.W.Frag} {H : Hp} {Q : VK} {v : V} {d : PyData}
theorem kc_isiT (h : X.K = K) : CallR X (.builtin "isinstance") (rIsiT K) := h ▸ call_isiT
def seqD : PyData → Bool
  | .tuple _ => true
  | .list _ => true
  | _ => false
theorem r_isLT {tp : Addr} {b : Bool} (ht : H tp = some (.tup [.ty "list", .ty "tuple"])) (h : Dp K H v d) (e : seqD d = b) (q : Q (.bl b) H) : rIsiT K [v, .ref tp] H Q := by
  refine ⟨v, tp, _, _, [.type "list", .type "tuple"], b, rfl, ht, .cons (.ty _) (.cons (.ty _) .nil), Dp.ty h, ?_, q⟩
  subst e
  cases d with
  | list _ => exact kitAny_cons (b := true) (kit_ty (by dsimp only [kdD]; decide +kernel)) (fun e => nomatch e) (fun _ => rfl)
  | tuple _ => exact kitAny_cons (b := false) (kit_ty (by dsimp only [kdD]; decide +kernel)) (fun _ => kitAny_cons (b := true) (kit_ty (by dsimp only [kdD]; decide +kernel)) (fun e => nomatch e) (fun _ => rfl)) (fun e => nomatch e)
  | _ => exact kitAny_cons (b := false) (kit_ty (by dsimp only [kdD]; decide +kernel)) (fun _ => kitAny_cons (b := false) (kit_ty (by dsimp only [kdD]; decide +kernel)) (fun _ => kitAny_nil) (fun e => nomatch e)) (fun e => nomatch e)
/-! for x in a list or a tuple -/
theorem PI.or {tg e : Expr} {w1 w2 : L2.TI} (h1 : PI X tg e w1) (h2 : PI X tg e w2) : PI X tg e (fun σ H R => w1 σ H R ∨ w2 σ H R) := ⟨fun pins s σ H R I hw => hw.elim (h1.run pins s σ H R I) (h2.run pins s σ H R I)⟩
def iAny (K : PySem.W.Frag) (te : TE) : L2.TI := fun σ H R => iList K te σ H R ∨ iTup K te σ H R
theorem kp_any (h : X.K = K) {tg e : Expr} {te : TE} (he : PE X e te) : PI X tg e (iAny K te) := PI.or (kp_list h he) (kp_tup h he)
theorem w_iAL {te : TE} {σ : L2.St} {R : It → Hp → Prop} (h : te σ H fun x H1 => iL K x H1 R) : iAny K te σ H R := .inl h
theorem w_iAT {te : TE} {σ : L2.St} {R : It → Hp → Prop} (h : te σ H fun x H1 => iT K x H1 R) : iAny K te σ H R := .inr h
theorem ks_tupA (h : X.K = K) : SlR X (rSlA K) := h ▸ sl_tupA
theorem r_slA {a : Addr} {xs : List V} {lo hi : Option Int} (q : SqT K H a xs) (h : ∀ p H1, Same H H1 → SqT K H1 p (cutV xs lo hi) → Q (.ref p) H1) : rSlA K (.ref a) lo hi H Q := by
  refine ⟨a, xs, rfl, q, fun e => h a H (Same.refl _) ?_, fun _ p np => h p _ (Same.new np) (SqT.of upd_same)⟩
  unfold cutV
  rw [e.1, e.2, List.drop_zero, Nat.sub_zero, List.take_of_length_le (Nat.le_refl _)]
  exact q
/-! t[::-1] -/
def rRevT (K : PySem.W.Frag) : V → Option Int → Hp → VK → Prop := fun x o H Q => o = some (-1) ∧ ∃ a xs, x = .ref a ∧ SqT K H a xs ∧ ∀ p, H p = none → Q (.ref p) (L2.upd H p (.tup xs.reverse))
def tRevT (K : PySem.W.Frag) (te : TE) (th : TO) : TE := fun σ H Q => te σ H fun x H1 => th σ H1 fun o H2 => rRevT K x o H2 Q
theorem rev_adj (n : Nat) : Builtin.Slice.sliceAdjust none none (-1) (n : Int) = ((n : Int) - 1, -1) := by
  unfold Builtin.Slice.sliceAdjust
  simp
theorem rev_places (n : Nat) : Builtin.Slice.slicePlaces ((n : Int) - 1) (-1) (-1) = n := by
  unfold Builtin.Slice.slicePlaces
  simp only [show ¬ ((-1 : Int) > 0) by decide, if_false, show (-(-1 : Int)) = 1 by decide, Int.ediv_one]
  split <;> omega
theorem rev_pick (xs : Array Value) : ((List.range xs.size).filterMap fun (m : Nat) => xs[(((xs.size : Int) - 1) + (m : Int) * (-1)).toNat]?).toArray = xs.toList.reverse.toArray := by
  have e : (List.range xs.size).filterMap (fun (m : Nat) => xs[(((xs.size : Int) - 1) + (m : Int) * (-1)).toNat]?) = ((List.range xs.size).map fun m => xs.size - 1 - m).filterMap (xs[·]?) := by
    rw [List.filterMap_map]
    have g : ∀ l : List Nat, (∀ m, m ∈ l → m < xs.size) → l.filterMap (fun (m : Nat) => xs[(((xs.size : Int) - 1) + (m : Int) * (-1)).toNat]?) = l.filterMap ((xs[·]?) ∘ fun m => xs.size - 1 - m) := by
      intro l
      induction l with
      | nil => intro _; rfl
      | cons m t ih =>
        intro h
        have hm := h m (by simp)
        have e : xs[(((xs.size : Int) - 1) + (m : Int) * (-1)).toNat]? = xs[xs.size - 1 - m]? := by
          congr 1
          omega
        rw [List.filterMap_cons, List.filterMap_cons, ih fun k hk => h k (by simp [hk])]
        have e2 : xs[(((xs.size : Int) - 1) + (m : Int) * (-1)).toNat]? = ((fun x => xs[x]?) ∘ fun m => xs.size - 1 - m) m := e
        rw [e2]
    exact g _ fun m hm => List.mem_range.1 hm
  rw [e, PySem.W.krv_range, List.filterMap_reverse, PySem.W.krv_all]
theorem getItem_tuple_rev {prog : Program} {w : World} {A : Around} {E : Value → Shared → Prop} {s : Shared} {t sl : Addr} {items : Array Value} {vk : Value} {Q : Value → Shared → Prop} (ht : IsTup s.heap t items) (hs : s.heap.IsSliceOf sl .none .none vk) (pk : IsPart vk (some (-1)))
    (h : Q (.ref s.heap.objs.size) { s with heap := s.heap.push { cls := .type "tuple", data := .seq items.toList.reverse.toArray } })
    (hsz : items.size ≤ sizeLine) : wpAny (model prog w) A (getItem (.ref t) (.ref sl)) Q E s := by
  have htake : sizeOk (.seq items.toList.reverse.toArray) := by
    show items.toList.reverse.toArray.size ≤ sizeLine
    rw [List.size_toArray, List.length_reverse, Array.length_toList]
    omega
  obtain ⟨os, hos, hcs, hds⟩ := id hs
  have hTs : s.TypeIs (.ref sl) "slice" := ⟨os, hos, hcs⟩
  unfold getItem
  try with_reducible refine wpAny_holding ?_
  first | refine wpAny_bind (wpAny_pure ?_) | skip
  refine wpAny_bind (wpAny_sequenceKey ht.typeIs (by decide) ?_)
  refine wpAny_bind (wpAny_callSpecial?_slot (name := Str.ofString "__getitem__") ht.typeIs PyProof.Rows.slot_tuple_getitem
    (wpAny_call_entry PyProof.Rows.slot_tuple_getitem ht.typeIs entry_tuple_getitem ?_ (args_tuple_getitem _ _)))
  show wpAny _ _ (Builtin.Tuple.tupleItemsOf (.ref t) >>= _) _ _ s
  refine wpAny_bind (tupleItemsOf_ ht ?_)
  refine wpAny_bind (wpAny_typeOf hTs ?_)
  rw [if_pos (by decide)]
  refine wpAny_bind (m := Builtin.Slice.sliceApplied _ _) ?_
  unfold Builtin.Slice.sliceApplied Builtin.Slice.sliceFields
  refine wpAny_bind (wpAny_bind (wpAny_field hos hds (x := .none) rfl (wpAny_bind (wpAny_field hos hds (x := .none) rfl (wpAny_bind (wpAny_field hos hds (x := vk) rfl (wpAny_pure ?_)))))))
  refine wpAny_bind (HT.slicePart_ pk ?_)
  show wpAny _ _ (if ((-1 : Int) == 0) = true then _ else _) _ _ s
  rw [if_neg (by decide)]
  refine wpAny_bind (HT.slicePart_ .none (wpAny_bind (HT.slicePart_ .none (wpAny_bind (wpAny_pure ?_)))))
  show wpAny _ _ (match Builtin.Slice.sliceAdjust none none (-1) (items.size : Int) with | (lo, hi) => pure (lo, (-1 : Int), Builtin.Slice.slicePlaces lo hi (-1))) _ _ s
  rw [rev_adj]
  show wpAny _ _ (pure ((items.size : Int) - 1, (-1 : Int), Builtin.Slice.slicePlaces ((items.size : Int) - 1) (-1) (-1))) _ _ s
  rw [rev_places]
  refine wpAny_pure ?_
  have hno : ¬ ((((items.size : Int) - 1) == 0 && (-1 : Int) == 1 && items.size == items.size) = true) := by simp
  show wpAny _ _ (if (((items.size : Int) - 1) == 0 && (-1 : Int) == 1 && items.size == items.size) = true then _ else _) _ _ s
  rw [if_neg hno, rev_pick]
  first
    | exact wpAny_bind (m := Builtin.Tuple.tupleExact _) (wpAny_newObj_type (wpAny_pure ⟨_, rfl, wpAny_pure h⟩) htake)
    | exact wpAny_bind (m := Builtin.Tuple.tupleExact _) (wpAny_newObj_type (wpAny_bind (wpAny_pure (wpAny_pure ⟨_, rfl, wpAny_pure h⟩))) htake)
theorem pe_revT (hK : X.K = K) {e st : Expr} {te : TE} {th : TO} {pos p2 : Pos} (he : PE X e te) (hst : PO X (some st) th) : PE X (.Subscript e (.Slice none none (some st) p2) pos) (tRevT K te th) := by
  subst hK
  refine ⟨fun pins s σ H Q I h => ?_⟩
  refine Subscript_ (thn (he.run pins s σ H _ I h) fun v s1 ⟨x, H1, I1, r1, q1⟩ => ?_)
  refine wpAny_Slice ?_
  rw [evalPart_none]
  refine wpAny_pure ?_
  refine wpAny_pure ?_
  refine thn (hst.run pins s1 σ H1 _ I1 q1) fun vk s3 ⟨o, H3, I3, pk, ho, a, xs, hx, hq, q3⟩ => ?_
  subst ho
  subst hx
  cases r1
  have I4 : Inv X pins σ H3 { s3 with heap := s3.heap.push { cls := .type "slice", data := .fields #[.none, .none, vk] } } := I3.kept (t' := s3.toks) fun b ob q => Heap.get?_push_of_some _ q
  obtain ⟨its, r, ht, hz⟩ := I4.tuple hq
  have hlen := r.length
  refine tail_any (ops := [.ref a, .ref s3.heap.objs.size]) ht.typeIs PyProof.Rows.slot_tuple_getitem.lookup ?_ (by with_unfolding_all rfl)
  refine getItem_tuple_rev ht (Heap.IsSliceOf.new ..) pk ?_ (by rw [List.size_toArray] <;> omega)
  refine ⟨.ref _, _, I4.laid (t' := s3.toks) (o := .tup xs.reverse) (fun b ob q => Heap.get?_push_of_some _ q) (Nat.le_refl _) ?_, rfl, q3 _ (I4.hok.fresh (Nat.le_refl _))⟩
  exact ⟨by rw [List.length_reverse]; omega, _, by simpa using r.reverse, IsTup.new _ _⟩
theorem w_revT {te : TE} {th : TO} {σ : L2.St} (h : te σ H fun x H1 => th σ H1 fun o H2 => rRevT K x o H2 Q) : tRevT K te th σ H Q := h
theorem r_revT {a : Addr} {xs : List V} (q : SqT K H a xs) (h : ∀ p H1, Same H H1 → SqT K H1 p xs.reverse → Q (.ref p) H1) : rRevT K (.ref a) (some (-1)) H Q :=
  ⟨rfl, a, xs, rfl, q, fun p np => h p _ (Same.new np) (SqT.of upd_same)⟩
theorem r_revL {a : Addr} {xs : List V} (q : SqL K H a xs) (h : ∀ p H1, H p = none → Same H H1 → H1 p = some (.lst xs.reverse) → Q (.ref p) H1) : rRev K (.ref a) (some (-1)) H Q :=
  ⟨rfl, a, xs, rfl, q, fun p np => h p _ np (Same.new np) upd_same⟩
theorem r_slL {a : Addr} {xs : List V} {lo hi : Option Int} (q : SqL K H a xs) (h : ∀ p H1, H p = none → Same H H1 → H1 p = some (.lst (cutV xs lo hi)) → Q (.ref p) H1) : rSlL K (.ref a) lo hi H Q :=
  ⟨a, xs, rfl, q, fun p np => h p _ np (Same.new np) upd_same⟩
/-! texts -/
def rCatX : R2 := fun x y H Q => ∃ i j, x = .str i ∧ y = .str j ∧ i.length + j.length ≤ sizeLine ∧ Q (.str (i ++ j)) H
theorem ko_catX : OpR X (binaryOp .Add) rCatX := op_add_str
theorem r_catX {i j : Str} (h : i.length + j.length ≤ 100000) (q : Q (.str (i ++ j)) H) : rCatX (.str i) (.str j) H Q := ⟨i, j, rfl, rfl, Nat.le_trans h (by decide), q⟩
def rUp : V → List V → Hp → VK → Prop := fun x xs H Q => ∃ a, x = .str a ∧ xs = [] ∧ a.length ≤ 5592405 ∧ Q (.str (Txt.upper a)) H
theorem ke_upper {o : Expr} {to : TE} {apos pos : Pos} (ho : PE X o to) (hbase : attributeBase o "upper" X.env (eval o X.env) = eval o X.env := by rfl) (hline : (apos.endLine == pos.line) = true := by rfl) : PE X (.Call (.Attribute o "upper" apos) [] [] pos) (tM0 rUp to) := L2.pe_upper ho hbase hline
def upP (x : V) (H : Hp) (Q : VK) : Prop := (∃ a, x = .str a) ∧ rUp x [] H Q
theorem w_up {to : TE} {σ : L2.St} (h : to σ H fun x H1 => upP x H1 Q) : tM0 rUp to σ H Q := h
theorem r_up {a : Str} (h : a.length ≤ 100000) (q : Q (.str (Txt.upper a)) H) : upP (.str a) H Q := ⟨⟨a, rfl⟩, a, rfl, rfl, Nat.le_trans h (by decide), q⟩
def rStrI : List V → Hp → VK → Prop := fun xs H Q => ∃ i, xs = [.int i] ∧ i.natAbs.log2 < 1920 ∧ Q (.str (toString i)) H
theorem kc_strI : CallR X (.type "str") rStrI := call_str_int
theorem r_strI {i : Int} (h : B 1900 i) (q : Q (.str (toString i)) H) : rStrI [.int i] H Q := ⟨i, rfl, Nat.lt_of_lt_of_le (PySem.Flt.log2_lt_of (k := 1900) (by decide) h.lt) (by decide), q⟩
/-! x in a tuple of texts -/
def inSt (ss : List Str) : PyData → Bool
  | .str z => ss.any fun y => y == z
  | _ => false
def rInS (K : PySem.W.Frag) : R2 := fun x y H Q => ∃ p ss d, y = .ref p ∧ SqT K H p (ss.map V.str) ∧ Dp K H x d ∧ Q (.bl (inSt ss d)) H
def isSt (d : PyData) (u : Value) : Bool := match u, d with
  | .str y _, .str z => y == z
  | _, _ => false
theorem isSt_eq {A : Around} {s : Shared} {X : Cx} {pins : List (Addr × Obj)} {σ : L2.St} (I : Inv X pins σ H s) (hu : A.units < cLine) {y : Str} {t : Tok} {x : V} {v : Value} (h : Dp X.K H x d) (r : RelV x v) : SeqAt.EqAt A s (.str y t) v (isSt d (.str y t)) := by
  cases h with
  | non => cases r; exact SeqAt.EqAt.str_none y t
  | bl b => cases r; exact SeqAt.EqAt.str_bool y t b
  | int i => obtain ⟨u, rfl⟩ := r; exact SeqAt.EqAt.str_int y t i u
  | str z => obtain ⟨u, rfl⟩ := r; exact SeqAt.EqAt.str_str y t z u
  | lst hl _ =>
    cases r
    obtain ⟨its, rv, hh, _⟩ := I.list hl
    exact SeqAt.EqAt.str_list y t hh.isList hu
  | tup hl _ =>
    cases r
    obtain ⟨its, rv, hh, _⟩ := I.tuple hl
    exact SeqAt.EqAt.str_tuple y t (show s.heap.IsTuple _ its.toArray from hh) hu
theorem strs_mem : ∀ {ss : List Str} {us : List Value}, Vals (ss.map V.str) us → ∀ u, u ∈ us → ∃ z t, u = Value.str z t
  | [], _, r, u, h => by
    cases r
    cases h
  | y :: ss, _, r, u, h => by
    cases r with
    | cons r1 rs =>
      obtain ⟨t, rfl⟩ := r1
      rcases List.mem_cons.1 h with rfl | h
      · exact ⟨y, t, rfl⟩
      · exact strs_mem rs u h
theorem any_isSt : ∀ {ss : List Str} {us : List Value}, Vals (ss.map V.str) us → us.any (isSt d) = inSt ss d
  | [], _, r => by
    cases r
    cases d <;> rfl
  | y :: ss, _, r => by
    cases r with
    | cons r1 rs =>
      obtain ⟨t, rfl⟩ := r1
      rw [List.any_cons, any_isSt rs]
      cases d <;> simp [isSt, inSt]
theorem op_inS (hu : X.A.units + 64 < cLine) : OpR X (compareOp .In) (rInS X.K) := by
  intro pins s σ H x y v u Q I rx ry h
  obtain ⟨p, ss, d, rfl, hq, hd, q⟩ := h
  cases ry
  obtain ⟨its, r, pl, hz⟩ := I.tuple hq
  refine SeqAt.in_tupleAt (isSt d) pl (fun w hw => ?_) ⟨.bl _, H, I, rfl, ?_⟩
  · have hw2 : w ∈ its := by simpa using hw
    obtain ⟨z, t, rfl⟩ := strs_mem r w hw2
    exact isSt_eq I (show X.A.units + 1 < cLine by omega) hd rx
  · rw [show its.toArray.any (isSt d) = its.any (isSt d) by simp, any_isSt r]
    exact q
theorem ko_inS (h : X.K = K) (hu : X.A.units + 64 < cLine) : OpR X (compareOp .In) (rInS K) := h ▸ op_inS hu
theorem r_inS {p : Addr} {ss : List Str} (hq : SqT K H p (ss.map V.str)) (hd : Dp K H v d) (q : Q (.bl (inSt ss d)) H) : rInS K v (.ref p) H Q := ⟨p, ss, d, rfl, hq, hd, q⟩
/-! all([..]) -/
theorem kc_all (h : X.K = K) (hc : X.calm = true) : CallR X (.builtin "all") (rAll K) := h ▸ cr_all hc
theorem r_all {a : Addr} {bs : List Bool} (q : SqL K H a (bs.map V.bl)) (h : Q (.bl (bs.all id)) H) : rAll K [.ref a] H Q := ⟨a, bs, rfl, q, h⟩
/-! a global that is a tuple of the module's top -/
def GT (K : PySem.W.Frag) (mg : Str → Option Value) (x : Str) (xs : List V) : Prop := ∃ a, mg x = some (.ref a) ∧ ∀ H, SqT K H a xs
def tGT (K : PySem.W.Frag) (xs : List V) : TE := fun _ H Q => ∀ a, SqT K H a xs → Q (.ref a) H
theorem pe_gt {x : Str} {xs : List V} {pos : Pos} (h : GT K X.mg x xs) (hg : Gl X x) (hd : (x == ("__debug__" : Str)) = false := by decide) : PE X (.Name x pos) (tGT K xs) :=
  ⟨fun _ _ _ H _ I q => let ⟨a, hm, ha⟩ := h; ld_glob I hg hm ⟨.ref a, H, I, rfl, q a (ha H)⟩ hd⟩
theorem w_gt {xs : List V} {σ : L2.St} (h : ∀ a, SqT K H a xs → Q (.ref a) H) : tGT K xs σ H Q := h
/-! x is True, of a bool -/
theorem r_isBb {b c : Bool} (h : Q (.bl (decide (b = c))) H) : rIsB (.bl b) (.bl c) H Q := ⟨c, rfl, by
  have e : decide (V.bl b = V.bl c) = decide (b = c) := by cases b <;> cases c <;> rfl
  rw [e]
  exact h⟩
theorem r_isBn {b : Bool} (h : Q (.bl false) H) : rIsB .non (.bl b) H Q := ⟨b, rfl, h⟩
theorem r_isBs {b : Bool} {x : Str} (h : Q (.bl false) H) : rIsB (.str x) (.bl b) H Q := ⟨b, rfl, h⟩
theorem r_isNb {b : Bool} (h : Q (.bl false) H) : rIsNo (.bl b) .non H Q := ⟨rfl, h⟩
theorem r_isNs {x : Str} (h : Q (.bl false) H) : rIsNo (.str x) .non H Q := ⟨rfl, h⟩
end
section
variable {X : Cx} {K : PySem.W.Frag} {H : Hp} {Q : VK} {D a : Addr} {oe : Obj}
/-- isinstance(e, (A, B, ..)), e the exception held -/
def rIsAT (K : PySem.W.Frag) (D a : Addr) : List V → Hp → VK → Prop := fun xs H Q => ∃ (tp : Addr) (cs : List V) (us : List Value) (b : Bool), xs = [.ref a, .ref tp] ∧ H tp = some (.tup cs) ∧ Paired ClsV cs us ∧ PySem.W.kitAny K (.ref D) us = some b ∧ Q (.bl b) H
theorem kc_isAT (hK : X.K = K) (hp : (a, oe) ∈ X.pn) (hx : ExcC K D) (hc : oe.cls = .ref D) (hd : oe.dict = none) (hf : ∃ vs, oe.data = .fields vs) : CallR X (.builtin "isinstance") (rIsAT K D a) := by
  subst hK
  intro pins s σ H xs us Q I r h
  obtain ⟨tp, cs, ws, b, rfl, hT, k, e, q⟩ := h
  obtain ⟨u1, u2, rfl, r1, r2⟩ := vals2 r
  cases r1
  cases (show u2 = Value.ref tp from r2)
  have g := (I.pin (a, oe) (List.mem_append_left _ hp)).1
  have at_ : PySem.W.InstAt s.heap a oe D none := by
    obtain ⟨vs, hv⟩ := hf
    obtain ⟨oc, od, oda, osl⟩ := oe
    simp only at hc hd hv
    subst hc hd hv
    exact ⟨g, rfl, rfl, trivial⟩
  obtain ⟨_, its, rv, o, h1, h2, n, h3⟩ := (show ObjOk X.prog X.w H s.heap tp (.tup cs) from I.hok tp _ hT)
  have e3 := ClsV.all k rv
  subst e3
  obtain ⟨oc, od, dt, sl⟩ := o
  simp only at h2 h3
  subst h2 h3
  exact PySem.W.kia_tup (PySem.W.handS_kitx_exc hx.hg hx.hk hx.hs hx.hd hx.ha hx.hn hx.ht hx.hm) I.kIn at_ h1 e (fun z => nomatch z) fun tk => ⟨.bl b, H, I.tok tk, rfl, q⟩
theorem r_isAT {tp : Addr} {cs : List V} {us : List Value} {b : Bool} (hT : H tp = some (.tup cs)) (k : Paired ClsV cs us) (e : PySem.W.kitAny K (.ref D) us = some b) (q : Q (.bl b) H) : rIsAT K D a [.ref a, .ref tp] H Q := ⟨tp, cs, us, b, rfl, hT, k, e, q⟩
theorem r_isA8 {tp : Addr} {c0 c1 c2 c3 c4 c5 c6 c7 : Addr} (hT : H tp = some (.tup [.ref c0, .ref c1, .ref c2, .ref c3, .ref c4, .ref c5, .ref c6, .ref c7])) (e0 : PySem.W.kitOne K (.ref D) (.ref c0) = some false) (e1 : PySem.W.kitOne K (.ref D) (.ref c1) = some false) (e2 : PySem.W.kitOne K (.ref D) (.ref c2) = some false) (e3 : PySem.W.kitOne K (.ref D) (.ref c3) = some false) (e4 : PySem.W.kitOne K (.ref D) (.ref c4) = some false) (e5 : PySem.W.kitOne K (.ref D) (.ref c5) = some false) (e6 : PySem.W.kitOne K (.ref D) (.ref c6) = some false) (e7 : PySem.W.kitOne K (.ref D) (.ref c7) = some false) (q : Q (.bl false) H) : rIsAT K D a [.ref a, .ref tp] H Q :=
  r_isAT (us := [.ref c0, .ref c1, .ref c2, .ref c3, .ref c4, .ref c5, .ref c6, .ref c7]) hT (.cons (.own _) (.cons (.own _) (.cons (.own _) (.cons (.own _) (.cons (.own _) (.cons (.own _) (.cons (.own _) (.cons (.own _) (.nil))))))))) (L2.kitAny_cons e0 (fun _ => L2.kitAny_cons e1 (fun _ => L2.kitAny_cons e2 (fun _ => L2.kitAny_cons e3 (fun _ => L2.kitAny_cons e4 (fun _ => L2.kitAny_cons e5 (fun _ => L2.kitAny_cons e6 (fun _ => L2.kitAny_cons e7 (fun _ => L2.kitAny_nil) (fun e => nomatch e)) (fun e => nomatch e)) (fun e => nomatch e)) (fun e => nomatch e)) (fun e => nomatch e)) (fun e => nomatch e)) (fun e => nomatch e)) (fun e => nomatch e)) q
theorem r_isA7 {tp : Addr} {c0 c1 c2 c3 c4 c5 c6 : Addr} (hT : H tp = some (.tup [.ref c0, .ref c1, .ref c2, .ref c3, .ref c4, .ref c5, .ref c6])) (e0 : PySem.W.kitOne K (.ref D) (.ref c0) = some false) (e1 : PySem.W.kitOne K (.ref D) (.ref c1) = some false) (e2 : PySem.W.kitOne K (.ref D) (.ref c2) = some false) (e3 : PySem.W.kitOne K (.ref D) (.ref c3) = some false) (e4 : PySem.W.kitOne K (.ref D) (.ref c4) = some false) (e5 : PySem.W.kitOne K (.ref D) (.ref c5) = some false) (e6 : PySem.W.kitOne K (.ref D) (.ref c6) = some false) (q : Q (.bl false) H) : rIsAT K D a [.ref a, .ref tp] H Q :=
  r_isAT (us := [.ref c0, .ref c1, .ref c2, .ref c3, .ref c4, .ref c5, .ref c6]) hT (.cons (.own _) (.cons (.own _) (.cons (.own _) (.cons (.own _) (.cons (.own _) (.cons (.own _) (.cons (.own _) (.nil)))))))) (L2.kitAny_cons e0 (fun _ => L2.kitAny_cons e1 (fun _ => L2.kitAny_cons e2 (fun _ => L2.kitAny_cons e3 (fun _ => L2.kitAny_cons e4 (fun _ => L2.kitAny_cons e5 (fun _ => L2.kitAny_cons e6 (fun _ => L2.kitAny_nil) (fun e => nomatch e)) (fun e => nomatch e)) (fun e => nomatch e)) (fun e => nomatch e)) (fun e => nomatch e)) (fun e => nomatch e)) (fun e => nomatch e)) q
end
end My
namespace My
open PySem L2
section
variable {K : PySem.W.Frag} {N : List Addr} {H H' : Hp} {v : V} {d : PyData} {Q : VK} {vs : List V} {ds : List PyData} {a : Addr}
theorem Dp.tupC (h : Dp K H v d) : (∃ a xs ds, v = .ref a ∧ d = .tuple ds ∧ SqT K H a xs ∧ DpAll K H xs ds) ∨ (kitB (kdD d) "tuple" = some false ∧ ∀ ds, d ≠ .tuple ds) := by
  cases h with
  | tup q a => exact .inl ⟨_, _, _, rfl, rfl, q, a⟩
  | lst q a => exact .inr ⟨by dsimp only [kdD]; decide +kernel, fun _ e => nomatch e⟩
  | non => exact .inr ⟨by dsimp only [kdD]; decide +kernel, fun _ e => nomatch e⟩
  | bl b => exact .inr ⟨by dsimp only [kdD]; decide +kernel, fun _ e => nomatch e⟩
  | int i => exact .inr ⟨by dsimp only [kdD]; decide +kernel, fun _ e => nomatch e⟩
  | str x => exact .inr ⟨by dsimp only [kdD]; decide +kernel, fun _ e => nomatch e⟩
theorem Dp.strC (h : Dp K H v d) : (∃ x, v = .str x ∧ d = .str x) ∨ (kitB (kdD d) "str" = some false ∧ ∀ x, d ≠ .str x) := by
  cases h with
  | str x => exact .inl ⟨_, rfl, rfl⟩
  | tup q a => exact .inr ⟨by dsimp only [kdD]; decide +kernel, fun _ e => nomatch e⟩
  | lst q a => exact .inr ⟨by dsimp only [kdD]; decide +kernel, fun _ e => nomatch e⟩
  | non => exact .inr ⟨by dsimp only [kdD]; decide +kernel, fun _ e => nomatch e⟩
  | bl b => exact .inr ⟨by dsimp only [kdD]; decide +kernel, fun _ e => nomatch e⟩
  | int i => exact .inr ⟨by dsimp only [kdD]; decide +kernel, fun _ e => nomatch e⟩
theorem Dp.listC (h : Dp K H v d) : (∃ a xs ds, v = .ref a ∧ d = .list ds ∧ SqL K H a xs ∧ DpAll K H xs ds) ∨ (kitB (kdD d) "list" = some false ∧ ∀ ds, d ≠ .list ds) := by
  cases h with
  | lst q a => exact .inl ⟨_, _, _, rfl, rfl, q, a⟩
  | tup q a => exact .inr ⟨by dsimp only [kdD]; decide +kernel, fun _ e => nomatch e⟩
  | non => exact .inr ⟨by dsimp only [kdD]; decide +kernel, fun _ e => nomatch e⟩
  | bl b => exact .inr ⟨by dsimp only [kdD]; decide +kernel, fun _ e => nomatch e⟩
  | int i => exact .inr ⟨by dsimp only [kdD]; decide +kernel, fun _ e => nomatch e⟩
  | str x => exact .inr ⟨by dsimp only [kdD]; decide +kernel, fun _ e => nomatch e⟩
theorem DpAll.getV : ∀ {vs : List V} {ds : List PyData} (_ : DpAll K H vs ds) {i : Nat} {x : V} (_ : vs[i]? = some x), ∃ d, ds[i]? = some d ∧ Dp K H x d
  | _, _, .nil, _, _, e => by simp at e
  | _, _, .cons a t, 0, _, e => by cases e; exact ⟨_, rfl, a⟩
  | _, _, .cons a t, i + 1, _, e => DpAll.getV t e
theorem DpAll.two (h : DpAll K H vs ds) (l : vs.length = 2) : ∃ x y d e, vs = [x, y] ∧ ds = [d, e] ∧ Dp K H x d ∧ Dp K H y e := by
  match vs, l with
  | [x, y], _ =>
    match ds, h with
    | [d, e], .cons a (.cons b .nil) => exact ⟨x, y, d, e, rfl, rfl, a, b⟩
theorem DpAll.three (h : DpAll K H vs ds) (l : vs.length = 3) : ∃ x y z d e f, vs = [x, y, z] ∧ ds = [d, e, f] ∧ Dp K H x d ∧ Dp K H y e ∧ Dp K H z f := by
  match vs, l with
  | [x, y, z], _ =>
    match ds, h with
    | [d, e, f], .cons a (.cons b (.cons c .nil)) => exact ⟨x, y, z, d, e, f, rfl, rfl, a, b, c⟩
theorem DpAll.head (h : DpAll K H vs ds) {n : Nat} (l : vs.length = n + 1) : ∃ x xs d es, vs = x :: xs ∧ ds = d :: es ∧ xs.length = n ∧ Dp K H x d ∧ DpAll K H xs es := by
  match vs, l with
  | x :: xs, l =>
    match ds, h with
    | d :: es, .cons a b => exact ⟨x, xs, d, es, rfl, rfl, by simpa using l, a, b⟩
theorem Same.at {o : HO} (e : Same H H') (h : H a = some o) : H' a = some o := e _ _ h
theorem len4 {α : Type} {xs : List α} (h : xs.length = 4) : ∃ a b c d, xs = [a, b, c, d] := by
  match xs, h with
  | [a, b, c, d], _ => exact ⟨a, b, c, d, rfl⟩
/-! what the tests tell -/
def IsR (d : PyData) : Prop := ∃ n m : Int, d = .tuple [.int n, .int m] ∧ 1 ≤ m ∧ Nat.gcd n.natAbs m.natAbs = 1
def IsV (d : PyData) : Prop := ∃ ds, d = .tuple ds ∧ ds.length = 3 ∧ ∀ x, x ∈ ds → IsR x
def IsC (d : PyData) : Prop := ∃ t ds, d = .tuple (t :: ds) ∧ ds.length = 4 ∧ (t = .str "pinhole" ∨ t = .str "straight") ∧ ∀ x, x ∈ ds → IsV x
theorem Same.nonB {a : Addr} (e : Same H H') (h : H' a = none) : H a = none := by
  cases hh : H a with
  | none => rfl
  | some o => rw [e _ _ hh] at h; cases h
/-- a list of answers, one an item -/
def BsD (R : PyData → Prop) (ds : List PyData) (acc : List V) : Prop := ∃ bs : List Bool, acc = bs.map V.bl ∧ Paired (fun (b : Bool) d => b = true ↔ R d) bs ds
theorem BsD.nil {R : PyData → Prop} : BsD R [] [] := ⟨[], rfl, .nil⟩
theorem paired_snoc {α β : Type} {R : α → β → Prop} {x : α} {y : β} (h : R x y) : ∀ {xs : List α} {ys : List β}, Paired R xs ys → Paired R (xs ++ [x]) (ys ++ [y])
  | _, _, .nil => .cons h .nil
  | _, _, .cons a t => .cons a (paired_snoc h t)
theorem BsD.snoc {R : PyData → Prop} {acc : List V} {i : Nat} {b : Bool} (h : BsD R (ds.take i) acc) (e : ds[i]? = some d) (hb : b = true ↔ R d) : BsD R (ds.take (i + 1)) (acc ++ [.bl b]) := by
  obtain ⟨bs, rfl, p⟩ := h
  refine ⟨bs ++ [b], by simp, ?_⟩
  rw [List.take_add_one, e]
  exact paired_snoc (R := fun (b : Bool) d => b = true ↔ R d) hb p
theorem paired_all {R : PyData → Prop} : ∀ {bs : List Bool} {ds : List PyData}, Paired (fun (b : Bool) d => b = true ↔ R d) bs ds → (bs.all id = true ↔ ∀ d, d ∈ ds → R d)
  | _, _, .nil => by simp
  | _, _, .cons a t => by
    rw [List.all_cons, Bool.and_eq_true, paired_all t]
    simp only [id_eq, a, List.mem_cons]
    constructor
    · rintro ⟨h1, h2⟩ d (rfl | hd)
      · exact h1
      · exact h2 d hd
    · exact fun h => ⟨h _ (.inl rfl), fun d hd => h d (.inr hd)⟩
theorem BsD.all {R : PyData → Prop} {acc : List V} (h : BsD R ds acc) : ∃ bs : List Bool, acc = bs.map V.bl ∧ (bs.all id = true ↔ ∀ d, d ∈ ds → R d) := by
  obtain ⟨bs, e, p⟩ := h
  exact ⟨bs, e, paired_all p⟩
/-- known shapes -/
theorem pe_q {n : Nat} (q : Rat) : Pe (n + 2) (qD q) := by
  refine ⟨(by decide : 2 ≤ 400), fun d hd => ?_⟩
  simp only [List.mem_cons, List.not_mem_nil, or_false] at hd
  rcases hd with rfl | rfl <;> exact trivial
theorem pe_v {n : Nat} (p : V3) : Pe (n + 3) (vD p) := by
  refine ⟨(by decide : 3 ≤ 400), fun d hd => ?_⟩
  simp only [List.mem_cons, List.not_mem_nil, or_false] at hd
  rcases hd with rfl | rfl | rfl <;> exact pe_q _
theorem pe_vv (p q : V3) : Pe 6 (.tuple [vD p, vD q]) := by
  refine ⟨(by decide : 2 ≤ 400), fun d hd => ?_⟩
  simp only [List.mem_cons, List.not_mem_nil, or_false] at hd
  rcases hd with rfl | rfl <;> exact pe_v (n := 2) _
theorem Vc.dn {p : V3} (h : Vc K H a p) : Dn K N H (.ref a) (vD p) := by
  obtain ⟨x, y, z, h1, h2, h3, h4⟩ := h
  exact .tup h1 (.cons (.tup h2 (.cons (.int _) (.cons (.int _) .nil))) (.cons (.tup h3 (.cons (.int _) (.cons (.int _) .nil))) (.cons (.tup h4 (.cons (.int _) (.cons (.int _) .nil))) .nil)))
theorem Pn.vc {p : V3} {n : Nat} (h : Vc K H a p) : Pn K N H (n + 3) (.ref a) := ⟨_, h.dn, pe_v p⟩
theorem Pn.add {l : Addr} {n : Nat} (hl : H l = none) (h : Pn K N H n v) : Pn K (l :: N) H n v := let ⟨d, x, y⟩ := h; ⟨d, x.add hl, y⟩
theorem PnA.add {l : Addr} {n m : Nat} (hl : H l = none) (h : PnA K N H n m vs) : PnA K (l :: N) H n m vs := let ⟨d, x, y⟩ := h; ⟨d, x.add hl, y⟩
theorem PnA.get {n m i : Nat} (h : PnA K N H n m vs) (e : vs[i]? = some v) : Pn K N H n v := let ⟨ds, x, y, _⟩ := h; let ⟨d, ed, dx⟩ := x.get e; ⟨d, dx, y d (List.mem_of_getElem? ed)⟩
theorem PnA.len {n m : Nat} (h : PnA K N H n m vs) : vs.length ≤ m := let ⟨_, _, _, l⟩ := h; l
theorem pd_q {n : Nat} {q : Rat} (h : BN 200 200 q) : Pd (n + 2) (qD q) := by
  refine ⟨(by decide : 2 ≤ 150), fun d hd => ?_⟩
  simp only [List.mem_cons, List.not_mem_nil, or_false] at hd
  rcases hd with rfl | rfl
  · exact h.n.le (by decide)
  · exact h.d.le (by decide)
theorem pd_v {n : Nat} {p : V3} (h : VN 200 200 p) : Pd (n + 3) (vD p) := by
  refine ⟨(by decide : 3 ≤ 150), fun d hd => ?_⟩
  simp only [List.mem_cons, List.not_mem_nil, or_false] at hd
  rcases hd with rfl | rfl | rfl
  · exact pd_q h.x
  · exact pd_q h.y
  · exact pd_q h.z
theorem QtL.three {acc : List V} {x y z : Rat} (h : QtL K H acc [x, y, z]) : ∃ a b c : Addr, acc = [.ref a, .ref b, .ref c] ∧ SqT K H a [.int x.num, .int (x.den : Int)] ∧ SqT K H b [.int y.num, .int (y.den : Int)] ∧ SqT K H c [.int z.num, .int (z.den : Int)] := by
  unfold QtL at h
  cases h with
  | cons r1 h =>
    cases h with
    | cons r2 h =>
      cases h with
      | cons r3 h =>
        cases h
        obtain ⟨a, rfl, ha⟩ := r1
        obtain ⟨b, rfl, hb⟩ := r2
        obtain ⟨c, rfl, hc⟩ := r3
        exact ⟨a, b, c, rfl, ha, hb, hc⟩
theorem eqv_v (p q : V3) : PyData.eqv (vD p) (vD q) = decide (p.x = q.x ∧ p.y = q.y ∧ p.z = q.z) := eqv_V _ _ _ _ _ _
theorem gatherL {H0 H1 : Hp} {l : Addr} {xs : List V} {n m : Nat} (_ : H1 l = some (.lst xs)) (np : H0 l = none) (s : Same H0 H1) (h : PnA K [] H0 n m xs) : PnA K [l] H1 n m xs := (PnA.add np h).same s
theorem r_appPn {l : Addr} {xs : List V} {y : V} {n m : Nat} (h : H l = some (.lst xs)) (hp : PnA K [l] H n m xs) (hy : Pn K [l] H n y) (hz : m < 100000)
    (q : ∀ H1 ys, TK K H H1 → H1 l = some (.lst ys) → PnA K [l] H1 n (m + 1) ys → Q .non H1) : rAppend (.ref l) [y] H Q :=
  r_app h (Nat.lt_of_le_of_lt hp.len hz) (q _ _ (TK.upd h) upd_same ((hp.snoc hy).upd (by simp) h))
theorem iff2 {b c : Bool} {R : Prop} (h : b = true ↔ R) (h2 : c = true ↔ R) : c = b := by
  cases b
  · cases c
    · rfl
    · exact absurd (h.2 (h2.1 rfl)) (by decide)
  · cases c
    · exact absurd (h2.2 (h.1 rfl)) (by decide)
    · rfl
end
end My

set_option Elab.async false
set_option maxRecDepth 100000
namespace My
open PySem L2 StX
variable {X : Cx} {K : PySem.W.Frag} {H H' : Hp} {Q : VK}
section
variable {x : Str} {p sp_ pos : Pos} {e : Expr} {es : List Expr} {t : TA} {te : TE} {k : Nat} {ps : List Str} {sp : Sp}
theorem Cal.fnR {P : Program} {w : World} {mg : Str → Option Value} {base : Heap} (C : Cal P w K mg base x k ps sp) :
    ∃ f, FnR P w K mg base CX0 k f sp ∧ mg x = some (.ref f) ∧ PySem.W.keepIn K (.ref f) = true := by
  obtain ⟨f, fd, F, hm, hk, hb⟩ := C.ex
  refine ⟨f, fun A outer s H us vs Q E hr I hv hsp => ?_, hm, hk⟩
  refine F.run A outer s H _ us vs Q E hr I ?_ hv hsp
  have hl : us.length = ps.length := by
    rw [← F.len vs H Q E hsp]
    exact (Paired.length hv).symm
  have h := hb s us (fun a o e => (I.bs a o (I.mod.kin a o e)).1) (by simpa using hl)
  rwa [List.append_nil] at h
/-- f(*t) -/
theorem pcT (C : Cal X.prog X.w X.K X.mg X.base x k ps sp) (hK : X.K = K) (hr : Room k X.A) (hg : Gl X x) (he : PE X e te) (hdb : (x == ("__debug__" : Str)) = false := by decide)
    (hs : starEach [e.Starred sp_] X.env = [(true, eval e X.env)] := by rfl) :
    PE X (.Call (.Name x p) [.Starred e sp_] [] pos) (fun σ H Q => te σ H fun y H1 => ∃ a xs, y = V.ref a ∧ (SqT K H1 a xs ∨ SqL K H1 a xs) ∧ sp xs H1 Q E0) := by
  obtain ⟨f, F, hm, hk⟩ := C.fnR
  subst hK
  exact pe_callS1 F hr hk hg hm pass0 he hdb hs
end
/-! texts: an item, a product, a join -/
def rIxC : R2 := fun x y H Q => ∃ (z : Str) (i : Int) (c : Nat), x = .str z ∧ y = .int i ∧ z.length ≤ sizeLine ∧ atI z.cps.toList i = some c ∧ Q (.str ⟨#[c]⟩) H
theorem kx_chr : IxR X rIxC := fun pins s σ H x y v u Q I rx ry h => ix_str pins s σ H x y v u Q I rx ry h
theorem r_ixCh {z : Str} {i : Int} {n : Nat} (hn : z.cps.toList.length = n) (h0 : 0 ≤ i) (h1 : i < n) (hz : n ≤ 100000) (q : ∀ c, Q (.str ⟨#[c]⟩) H) : rIxC (.str z) (.int i) H Q := by
  subst hn
  obtain ⟨j, rfl⟩ : ∃ j : Nat, i = j := ⟨i.toNat, by omega⟩
  have hl : j < z.cps.toList.length := by omega
  refine ⟨z, j, z.cps.toList[j], rfl, rfl, Nat.le_trans (by simpa [Str.length] using hz) (by decide), ?_, q _⟩
  rw [atI_nat]
  simp only [List.getElem?_eq_getElem hl]
theorem r_catXn {i j : Str} {n : Nat} (h : i.length + j.length ≤ 100000) (hn : (i ++ j).cps.toList.length = n) (q : ∀ z : Str, z.cps.toList.length = n → Q (.str z) H) : rCatX (.str i) (.str j) H Q := r_catX h (q _ hn)
def rMulS : R2 := fun x y H Q => ∃ (a : Str) (n : Int), x = .str a ∧ y = .int n ∧ MulOk a n ∧ Q (.str (Txt.mul a n)) H
theorem ko_mulS : OpR X (binaryOp .Mult) rMulS := by
  intro pins s σ H x y v u Q I rx ry h
  obtain ⟨a, n, rfl, rfl, ok, q⟩ := h
  obtain ⟨t, rfl⟩ := rx
  obtain ⟨t', rfl⟩ := ry
  exact SB.mul ok fun t' k => ⟨.str (Txt.mul a n), H, I.tok k, ⟨_, rfl⟩, q⟩
theorem mulOk1 {c : Nat} {n : Int} (h0 : 0 ≤ n) (h1 : n ≤ 6) : MulOk ⟨#[c]⟩ n := by
  have : n = 0 ∨ n = 1 ∨ n = 2 ∨ n = 3 ∨ n = 4 ∨ n = 5 ∨ n = 6 := by omega
  have e : Str.length ⟨#[c]⟩ = 1 := rfl
  rcases this with rfl | rfl | rfl | rfl | rfl | rfl | rfl <;> (unfold MulOk; rw [e]; decide)
theorem r_mulS {c : Nat} {n : Int} (h0 : 0 ≤ n) (h1 : n ≤ 6) (q : ∀ x, Q (.str x) H) : rMulS (.str ⟨#[c]⟩) (.int n) H Q := ⟨_, n, rfl, rfl, mulOk1 h0 h1, q _⟩
def rJoin (K : PySem.W.Frag) : V → List V → Hp → VK → Prop := fun x xs H Q => ∃ a p, ∃ ys : List Str, x = .str a ∧ xs = [.ref p] ∧ (SqL K H p (ys.map V.str) ∨ SqT K H p (ys.map V.str)) ∧ (ys.map (·.length)).sum + ys.length * a.length ≤ 16777216 ∧ Q (.str (Txt.join a ys)) H
theorem kj_join {o e : Expr} {to te : TE} {apos pos : Pos} (hK : X.K = K) (ho : PE X o to) (he : PE X e te) (hs : starEach [e] X.env = [(false, eval e X.env)] := by rfl) (hb : attributeBase o "join" X.env (eval o X.env) = eval o X.env := by rfl) (hl : (apos.endLine == pos.line) = true := by rfl) :
    PE X (.Call (.Attribute o "join" apos) [e] [] pos) (tM1 (rJoin K) to te) := by
  subst hK
  exact pe_join ho he hs hb hl
def joP (K : PySem.W.Frag) (x : V) (y : V) (H : Hp) (Q : VK) : Prop := rJoin K x [y] H Q
theorem w_join {to te : TE} {σ : L2.St} (h : to σ H fun x H1 => (∃ a, x = .str a) ∧ te σ H1 fun y H2 => joP K x y H2 Q) : tM1 (rJoin K) to te σ H Q := h
theorem r_join {a : Str} {p : Addr} {ys : List Str} (h : SqL K H p (ys.map V.str)) (hn : (ys.map (·.length)).sum + ys.length * a.length ≤ 16777216) (q : ∀ x, Q (.str x) H) : joP K (.str a) (.ref p) H Q := ⟨a, p, ys, rfl, rfl, .inl h, hn, q _⟩
end My

set_option Elab.async false
set_option linter.all false
set_option maxRecDepth 100000
/-! own exceptions made by name, with fields -/
namespace My
open PySem PySem.Spec PySem.Builtin PySem.Builtin.ObjectAttr PySem.HandSPX
section
variable {prog : Program} {w : World} {A : Around} {E : Value → Shared → Prop} {R : Result → Shared → Prop}
variable {h : Heap} {g : Array GenState} {d : Drawn} {t : Nat} {os : OsState} {nm q : Str} {C N : Addr}
variable {bs bm bmB sub : List Value} {hdct : Bool} {sn : List Str} {ab : Bool} {col : Option Bool}
variable {dd : Option Addr} {k0 k1 k2 k3 k5 : Option Value} {B nI iI : String}
set_option maxHeartbeats 4000000
theorem kw_chk {M : Model} (F : ExcBaseFacts B nI iI bmB) (tt : ∀ Y : String, bm.contains (.type Y) = bmB.contains (.type Y))
    {us : List Value} {kw : List (Str × Value)} {Q : Unit → Shared → Prop}
    (c0 : h.get? C = some (excClassObj nm q C N bs bm hdct sn sub ab col dd k0 k1 k2 k3 k5 nI))
    (z : Q () ⟨h, g, d, t, os⟩) : wpAny M A (checkBuiltinCall nI ⟨.ref C :: us, kw⟩) Q E ⟨h, g, d, t, os⟩ := by
  have inB : (Value.ref C :: bm).contains (.type B) = true := by rw [List.contains_cons, tt, F.hasB, Bool.or_true]
  have st := F.noStar
  simp only [checkBuiltinCall, F.newKind, F.newSplit, F.newRow]
  repeat
    first
      | refine wpAny_loadPart_at c0 ?_
      | (refine wpAny_isSubtype_exc c0 ?_; rw [inB])
      | refine wpAny_staticBase_exc c0 ?_
      | refine wpAny_madeBy_exc c0 ?_
      | simp only [bne_self_eq_false, Bool.false_eq_true, if_false]
      | wp_step
  exact z
theorem kw_new (F : ExcBaseFacts B nI iI bmB) (tt : ∀ Y : String, bm.contains (.type Y) = bmB.contains (.type Y))
    {us : List Value} {kw : List (Str × Value)}
    (c0 : h.get? C = some (excClassObj nm q C N bs bm hdct sn sub ab col dd k0 k1 k2 k3 k5 nI))
    (z : R (.ok (.ret (.ref (h.objs.size + 1)))) ⟨(h.push (W.kdv_tup us)).push (excO C h.objs.size), g, d, t, os⟩)
    (few : us.length ≤ sizeLine) : codeAny (model prog w) A (.builtin nI ⟨.ref C :: us, kw⟩) R ⟨h, g, d, t, os⟩ := by
  have en := F.ends
  have inB : (Value.ref C :: bm).contains (.type B) = true := by rw [List.contains_cons, tt, F.hasB, Bool.or_true]
  have inA : (Value.ref C :: bm).contains (.type "AttributeError") = false := by rw [List.contains_cons, tt, F.noAttr]; rfl
  have inN : (Value.ref C :: bm).contains (.type "NameError") = false := by rw [List.contains_cons, tt, F.noName]; rfl
  refine codeAny_builtinAt F.entry (wpAt_bind ?_)
  show wpAt _ _ _ (stack >>= _) _ _ _
  refine wpAt_bind (wpAt_stack fun p below => wpAt_of_wpAny ?_)
  wp_walk
  refine wpAt_of_wpAny ?_
  rw [F.owner]
  repeat
    first
      | with_reducible refine wpAny_madeHere_exc F.canon c0 ?_
      | with_reducible refine wpAny_loadPart_at c0 ?_
      | (with_reducible refine wpAny_isSubtype_exc c0 ?_; first | rw [inB] | rw [inA] | rw [inN])
      | wp_step
  show R _ _
  rw [Heap.size_push]
  exact z
theorem kw_tcall (F : ExcBaseFacts B nI iI bmB) (tt : ∀ Y : String, bm.contains (.type Y) = bmB.contains (.type Y))
    {us : List Value} {kw : List (Str × Value)} {fI : Addr} {Q : Fin → Shared → Prop}
    (c0 : h.get? C = some (excClassObj nm q C N bs bm hdct sn sub ab col dd k0 k1 k2 k3 k5 nI))
    (li : W.Looks (model prog w) h (typeLookup (.ref C) "__init__") (some (.ref fI)))
    (lb : ∀ me, W.Looks (model prog w) h (bindSpecial (.ref fI) me) (.ref fI, [me])) (few : us.length ≤ sizeLine)
    (z : codeAny (model prog w) A (.call (.ref fI) ⟨.ref (h.objs.size + 1) :: us, kw⟩)
      (fun r s' => match r with | .ok (.ret v) => v = .none ∧ Q (.done (.ret (.ref (h.objs.size + 1)))) s' | .ok _ => False | .error e => E e s')
      ⟨(h.push (W.kdv_tup us)).push (excO C h.objs.size), g, d, t, os⟩) :
    wpAny (model prog w) A (Builtin.«type.__call__» ⟨.ref C :: us, kw⟩) Q E ⟨h, g, d, t, os⟩ := by
  repeat
    first
      | with_reducible refine wpAny_loadPart_at c0 ?_
      | with_reducible refine wpAny_madeBy_exc c0 ?_
      | wp_step
  refine codeAny_call_builtin_code (Code.quiet_builtin _ F.quiet) (kw_chk F tt c0 ?_)
  refine kw_new F tt c0 ?_ few
  show wpAny _ _ _ _ _ _
  have up : ∀ b o, h.get? b = some o → ((h.push (W.kdv_tup us)).push (excO C h.objs.size)).get? b = some o := fun b o e => Heap.get?_push_of_some _ (Heap.get?_push_of_some _ e)
  have c1 := up _ _ c0
  have me : ((h.push (W.kdv_tup us)).push (excO C h.objs.size)).get? (h.objs.size + 1) = some (excO C h.objs.size) := by heap_get
  have inC : (Value.ref C :: bm).contains (.ref C) = true := by simp
  have li1 := li.keeps up
  have lb1 := (lb (.ref (h.objs.size + 1))).keeps up
  unfold isInstance
  repeat
    first
      | with_reducible refine wpAny_loadPart_at me ?_
      | (with_reducible refine wpAny_isSubtype_exc c1 ?_; rw [inC])
      | wp_step
  show wpAny _ _ (typeLookup (.ref C) _) _ _ _
  refine li1.at (wpAny_holding (wpAny_bind (lb1.at (wpAny_bind (wpAny_call (codeAny_mono z fun r s' y => ?_))))))
  rcases r with e | (v | _ | _ | _) <;> first | exact y | exact y.elim | skip
  obtain ⟨rfl, y⟩ := y
  first | exact wpAny_pure (wpAny_pure y) | (wp_walk; exact y)
theorem kw_call (F : ExcBaseFacts B nI iI bmB) (tt : ∀ Y : String, bm.contains (.type Y) = bmB.contains (.type Y))
    {us : List Value} {kw : List (Str × Value)} {fI : Addr}
    (c0 : h.get? C = some (excClassObj nm q C N bs bm hdct sn sub ab col dd k0 k1 k2 k3 k5 nI))
    (li : W.Looks (model prog w) h (typeLookup (.ref C) "__init__") (some (.ref fI)))
    (lb : ∀ me, W.Looks (model prog w) h (bindSpecial (.ref fI) me) (.ref fI, [me])) (few : us.length ≤ sizeLine)
    (z : codeAny (model prog w) (A.under (.builtin "type.__call__" ⟨.ref C :: us, kw⟩)) (.call (.ref fI) ⟨.ref (h.objs.size + 1) :: us, kw⟩) (W.InitBack (h.objs.size + 1) R)
      ⟨(h.push (W.kdv_tup us)).push (excO C h.objs.size), g, d, t, os⟩) : codeAny (model prog w) A (.call (.ref C) ⟨us, kw⟩) R ⟨h, g, d, t, os⟩ := by
  have f1 := tc_lookup
  have f2 := tc_bind (.ref C)
  have ty : (⟨h, g, d, t, os⟩ : Shared).TypeIs (.ref C) "type" := ⟨_, c0, rfl⟩
  refine codeAny_of_tree ?_
  show wpAny _ _ (callAny (.ref C) _) _ _ _
  repeat
    any_goals
      first
        | assumption
        | with_reducible refine wpAny_loadPart_at c0 ?_
        | wp_step
  refine ⟨rfl, ?_⟩
  refine codeAny_call_builtin_at (Code.quiet_builtin _ (by decide +kernel)) entry_typeCall (wpAny_check_type_call_sub c0 (kw_tcall F tt c0 li lb few ?_))
  exact codeAny_mono z fun r s' y => by rcases r with e | (v | _ | _ | _) <;> exact y
end
end My
namespace My
open PySem L2 PySem.Spec PyProof.Rows
section
variable {X : Cx} {e : Expr} {es : List Expr} {ta tk : TA} {x : Str} {p pos : Pos} {C fI : Addr} {k : Nat} {fd : FuncData} {ps : List Str} {sp : Sp}
/-- what a class call hands on, told apart from how it was made -/
theorem pe_oexR {R : List V → Hp → VK → Prop} (T : OexC X.K C) (iC : PySem.W.findIn X.K (.ref C) "__init__" = some (some (.ref fI)))
    (tI : PySem.W.typeIn X.K (.ref fI) = some (.type "function")) (F1 : FnOk X.prog X.w X.K X.mg X.base CX0 k fI fd ps sp) (hr : Room (k + 1) X.A)
    (hb : Binds X.K fd ps []) (hR : ∀ vs H Q, R vs H Q → vs.length ≤ 1000 ∧ ∀ a, H a = none → sp (.ref a :: vs) (upd H a (exo a C none)) (fun v H2 => v = .non ∧ Q (.ref a) H2) E0)
    (hg : Gl X x) (hm : X.mg x = some (.ref C)) (ha : PA X (e :: es) ta) (hdb : (x == ("__debug__" : Str)) = false := by decide)
    (he : starEach (e :: es) X.env = (false, eval e X.env) :: starEach es X.env := by rfl) (hpl : (backTo pos (starEach es X.env)).any (·.1) = false := by rfl) :
    PE X (.Call (.Name x p) (e :: es) [] pos) (fun σ H Q => ta σ H fun vs H1 => R vs H1 Q) := by
  refine ⟨fun pins s σ H Q I h => wpAny_Call_Name_kw (ld_glob I hg hm ?_ hdb)⟩
  refine PySem.W.callWith_K (h₀ := X.base) I.ok.mod.kin T.kC (thn (ha.run pos pins s σ H _ I h) fun us s1 ⟨vs, H1, I1, rv, q⟩ => ⟨I1.kIn, ?_⟩) he hpl
  obtain ⟨few, q⟩ := hR _ _ _ q
  obtain ⟨nm, qn, N, bs, bm, sn, sub, ab, col, dd, k0, k1, k2, k3, k5, atC, nest⟩ := T.cls
  obtain ⟨hp, g, dr, tk, os⟩ := s1
  have up : hp.objs.size ≤ hp.objs.size + 1 := by omega
  have fresh : H1 (hp.objs.size + 1) = none := I1.hok.fresh up
  have keep : ∀ b o, hp.get? b = some o → ((hp.push (PySem.W.kdv_tup us)).push (PySem.HandSPX.excO C hp.objs.size)).get? b = some o := fun b o z => Heap.get?_push_of_some _ (Heap.get?_push_of_some _ z)
  have here : ((hp.push (PySem.W.kdv_tup us)).push (PySem.HandSPX.excO C hp.objs.size)).get? (hp.objs.size + 1) = some (PySem.HandSPX.excO C hp.objs.size) := by heap_get
  have J := I1.laid (t' := tk) (a := hp.objs.size + 1) (o := exo (hp.objs.size + 1) C none) keep up (exo_ok here)
  have z := q (hp.objs.size + 1) fresh
  have rr : Vals (V.ref (hp.objs.size + 1) :: vs) (Value.ref (hp.objs.size + 1) :: us) := .cons rfl rv
  have len : (Value.ref (hp.objs.size + 1) :: us ++ []).length = ps.length := by
    rw [List.append_nil]
    exact (rr.length).symm.trans (F1.len _ _ _ _ z)
  have line : us.length ≤ sizeLine := by
    have := Paired.length rv
    rw [sizeLine_eq]
    omega
  have bnd := hb _ (Value.ref (hp.objs.size + 1) :: us) J.kIn len
  rw [List.append_nil] at bnd
  refine wpAny_call (kw_call F.excBase_ValueError (fun Y => PySem.HandSPX.refsVE_contains Y bm nest) (I1.kIn _ _ atC) (PySem.W.looks_findIn I1.kIn iC) (fun self => PySem.W.bind_fn I1.kIn self tI) line
    (codeAny_mono (F1.run _ X.stack _ _ ⟨Value.ref (hp.objs.size + 1) :: us, []⟩ (Value.ref (hp.objs.size + 1) :: us) _ _ E0 (hr.make C us []) (J.env0.make C us []) bnd rr z) fun r s' out => ?_))
  cases r with
  | error er => exact pass0 pins σ _ _ er s' J out
  | ok fl =>
    cases fl with
    | ret u =>
      obtain ⟨v, H2, os2, bare, un, ok2, ru, rfl, q2⟩ := out
      exact ⟨ru, V.ref (hp.objs.size + 1), H2, J.call' (ch := []) os2 un ok2 bare (fun b z => absurd z (by simp)), rfl, q2⟩
    | next => exact False.elim out
    | brk => exact False.elim out
    | cont => exact False.elim out
/-- the same with names alone -/
theorem pe_oexK {R : List V → Hp → VK → Prop} {kws : List Keyword} {ks : List Str} {g : List Value → List Value → List Value} {gV : List V → List V → List V} (T : OexC X.K C) (iC : PySem.W.findIn X.K (.ref C) "__init__" = some (some (.ref fI)))
    (tI : PySem.W.typeIn X.K (.ref fI) = some (.type "function")) (F1 : FnOk X.prog X.w X.K X.mg X.base CX0 k fI fd ps sp) (hr : Room (k + 1) X.A)
    (hb : KBn X.K fd ps 1 ks g gV) (hR : ∀ zs H Q, R zs H Q → ∀ a, H a = none → sp (gV [.ref a] zs) (upd H a (exo a C none)) (fun v H2 => v = .non ∧ Q (.ref a) H2) E0)
    (hg : Gl X x) (hm : X.mg x = some (.ref C)) (hkw : PK X kws tk) (hall : (backToKw pos (keywordEach kws X.env)).all (·.1.isSome) = true := by rfl)
    (hks : (backToKw pos (keywordEach kws X.env)).filterMap (·.1) = ks := by rfl) (hdb : (x == ("__debug__" : Str)) = false := by decide)
    (hpl : ((backTo pos (starEach [] X.env)).any (·.1) || (backToKw pos (keywordEach kws X.env)).any (·.1.isNone)) = false := by rfl)
    (hlen : ∀ zs H Q, R zs H Q → zs.length = ks.length) :
    PE X (.Call (.Name x p) [] kws pos) (fun σ H Q => tk σ H fun zs H1 => R zs H1 Q) := by
  refine ⟨fun pins s σ H Q I h => wpAny_Call_Name_kw (ld_glob I hg hm ?_ hdb)⟩
  refine PySem.W.callWith_KW0 (h₀ := X.base) I.ok.mod.kin T.kC hall (thn (hkw.run pos pins s σ H _ I h) fun ws s1 ⟨zs, H1, I1, rz, q⟩ => ⟨I1.kIn, ?_⟩) hpl
  rw [hks]
  have l2 := hlen _ _ _ q
  have q := hR _ _ _ q
  obtain ⟨nm, qn, N, bs, bm, sn, sub, ab, col, dd, k0, k1, k2, k3, k5, atC, nest⟩ := T.cls
  obtain ⟨hp, g1, dr, tk, os⟩ := s1
  have up : hp.objs.size ≤ hp.objs.size + 1 := by omega
  have fresh : H1 (hp.objs.size + 1) = none := I1.hok.fresh up
  have keep : ∀ b o, hp.get? b = some o → ((hp.push (PySem.W.kdv_tup [])).push (PySem.HandSPX.excO C hp.objs.size)).get? b = some o := fun b o z => Heap.get?_push_of_some _ (Heap.get?_push_of_some _ z)
  have here : ((hp.push (PySem.W.kdv_tup [])).push (PySem.HandSPX.excO C hp.objs.size)).get? (hp.objs.size + 1) = some (PySem.HandSPX.excO C hp.objs.size) := by heap_get
  have J := I1.laid (t' := tk) (a := hp.objs.size + 1) (o := exo (hp.objs.size + 1) C none) keep up (exo_ok here)
  have z := q (hp.objs.size + 1) fresh
  have r1 : Vals [V.ref (hp.objs.size + 1)] [Value.ref (hp.objs.size + 1)] := .cons rfl .nil
  refine wpAny_call (kw_call F.excBase_ValueError (fun Y => PySem.HandSPX.refsVE_contains Y bm nest) (I1.kIn _ _ atC) (PySem.W.looks_findIn I1.kIn iC) (fun self => PySem.W.bind_fn I1.kIn self tI) (Nat.zero_le _)
    (codeAny_mono (F1.run _ X.stack _ _ ⟨[Value.ref (hp.objs.size + 1)], ks.zip ws⟩ (g [Value.ref (hp.objs.size + 1)] ws) _ _ E0 (hr.make C [] (ks.zip ws)) (J.env0.make C [] (ks.zip ws)) (hb.to _ _ ws J.kIn rfl (rz.length.symm.trans l2)) (hb.rel r1 rz) z) fun r s' out => ?_))
  cases r with
  | error er => exact pass0 pins σ _ _ er s' J out
  | ok fl =>
    cases fl with
    | ret u =>
      obtain ⟨v, H2, os2, bare, un, ok2, ru, rfl, q2⟩ := out
      exact ⟨ru, V.ref (hp.objs.size + 1), H2, J.call' (ch := []) os2 un ok2 bare (fun b z => absurd z (by simp)), rfl, q2⟩
    | next => exact False.elim out
    | brk => exact False.elim out
    | cont => exact False.elim out
end
end My
namespace My
open PySem L2 PySem.Spec PyProof.Rows
/-- an object of the written part is an own class over ValueError whose instances have fields -/
def oexB (C : Addr) (o : Obj) : Bool :=
  match o.cls, o.data, o.slots.toList with
  | .type "type", .cls cd, [_, _, _, _, some (.builtin n), _] =>
    (match cd.mro with
    | .ref c :: bm => c == C && PySem.HandSPX.refsVE bm
    | _ => false) && n == "ValueError.__new__" && !cd.hasDel && cd.hasDict
  | _, _, _ => false
theorem oex_of {K : PySem.W.Frag} {C : Addr} {o : Obj} (l : K.lookup C = some o) (q : oexB C o = true) (sa : PySem.W.findIn K (.ref C) "__setattr__" = some (some (.builtin "object.__setattr__")))
    (ex : PySem.W.subIn K (.ref C) (.type "BaseException") = some true) (ty : PySem.W.typeIn K (.ref C) = some (.type "type")) (kp : PySem.W.keepIn K (.ref C) = true) : OexC K C := by
  refine ⟨?_, sa, ex, ty, kp⟩
  unfold oexB at q
  split at q
  · rename_i cd a0 a1 a2 a3 n a5 h1 h2 h3
    simp only [Bool.and_eq_true, beq_iff_eq, Bool.not_eq_true'] at q
    obtain ⟨⟨⟨q1, rfl⟩, q3⟩, q4⟩ := q
    split at q1
    · rename_i c bm hm
      simp only [Bool.and_eq_true, beq_iff_eq] at q1
      obtain ⟨rfl, q2⟩ := q1
      obtain ⟨cls, dict, data, slots⟩ := o
      obtain ⟨nm, bs, mro, ns, qn, hd, sn, sub, ab, col, del⟩ := cd
      dsimp only at h1 h2 h3 hm q3 q4
      subst h1 h2 hm q3 q4
      have hsl : slots = #[a0, a1, a2, a3, some (.builtin "ValueError.__new__"), a5] := by
        obtain ⟨s⟩ := slots
        simp only at h3
        rw [h3]
      subst hsl
      exact ⟨_, _, _, _, _, _, _, _, _, _, _, _, _, _, _, l, q2⟩
    · cases q1
  · cases q
/-- such a class with its fields' names -/
structure OxF (K : PySem.W.Frag) (C : Addr) (ns : List Str) : Prop where
  o : OexC K C
  x : XfC K C
  no : ∀ f, f ∈ ns → PySem.W.findIn K (.ref C) f = some none
/-- an exception of the class with its fields -/
def OxA (H : Hp) (a C : Addr) (ns : List Str) (ys : List V) : Prop := ∃ d fs, H a = some (exo a C (some d)) ∧ H d = some (exd d fs) ∧ ∀ (i : Nat) (f : Str), ns[i]? = some f → fs.lookup f = ys[i]?
theorem OxA.same {H H' : Hp} {a C : Addr} {ns : List Str} {ys : List V} (e : Same H H') (h : OxA H a C ns ys) : OxA H' a C ns ys := by
  obtain ⟨d, fs, h1, h2, h3⟩ := h
  exact ⟨d, fs, e _ _ h1, e _ _ h2, h3⟩
/-- what an own __init__ keeps: the fields are its arguments -/
def sp_ini (C : Addr) (ns : List Str) : Sp := fun vs H Q _ => ∃ a ys, vs = .ref a :: ys ∧ ys.length = ns.length ∧ H a = some (exo a C none) ∧ ∀ H', (∀ b o, b ≠ a → H b = some o → H' b = some o) → OxA H' a C ns ys → Q .non H'
def rOx (C : Addr) (ns : List Str) : List V → Hp → VK → Prop := fun ys H Q => ys.length = ns.length ∧ ns.length ≤ 5 ∧ ∀ a H', H a = none → Same H H' → OxA H' a C ns ys → Q (.ref a) H'
theorem rOx_sp {C : Addr} {ns : List Str} {vs : List V} {H : Hp} {Q : VK} (h : rOx C ns vs H Q) : vs.length ≤ 1000 ∧ ∀ a, H a = none → sp_ini C ns (.ref a :: vs) (upd H a (exo a C none)) (fun v H2 => v = .non ∧ Q (.ref a) H2) E0 := by
  obtain ⟨l, few, k⟩ := h
  refine ⟨by omega, fun a n => ⟨a, vs, rfl, l, upd_same, fun H' s o => ⟨rfl, k a H' n (fun b u q => ?_) o⟩⟩⟩
  have hb : b ≠ a := fun e => by
    rw [e, n] at q
    cases q
  exact s b u hb (by rw [upd_ne hb]; exact q)
structure OCl (P : Program) (w : World) (K : PySem.W.Frag) (mg : Str → Option Value) (base : Heap) (x : Str) (C : Addr) (ns : List Str) : Prop where
  f : OxF K C ns
  m : mg x = some (.ref C)
  ex : ∃ fI fd, PySem.W.findIn K (.ref C) "__init__" = some (some (.ref fI)) ∧ PySem.W.typeIn K (.ref fI) = some (.type "function") ∧ FnOk P w K mg base CX0 1 fI fd ("self" :: ns) (sp_ini C ns) ∧ Binds K fd ("self" :: ns) []
structure KOCl (P : Program) (w : World) (K : PySem.W.Frag) (mg : Str → Option Value) (base : Heap) (x : Str) (C : Addr) (ns ks : List Str) (idx : List Nat) : Prop where
  f : OxF K C ns
  m : mg x = some (.ref C)
  ex : ∃ fI fd, PySem.W.findIn K (.ref C) "__init__" = some (some (.ref fI)) ∧ PySem.W.typeIn K (.ref fI) = some (.type "function") ∧ FnOk P w K mg base CX0 1 fI fd ("self" :: ns) (sp_ini C ns) ∧ ∃ g, KBn K fd ("self" :: ns) 1 ks g (pkV (0 :: idx) [])
def tOx (C : Addr) (ns : List Str) (t : TA) : TE := fun σ H Q => t σ H fun ys H1 => rOx C ns ys H1 Q
def rOxK (C : Addr) (ns ks : List Str) (idx : List Nat) : List V → Hp → VK → Prop := fun zs H Q => zs.length = ks.length ∧ ∃ vs, (∀ a, pkV (0 :: idx) [] [.ref a] zs = .ref a :: vs) ∧ rOx C ns vs H Q
def tOxK (C : Addr) (ns ks : List Str) (idx : List Nat) (t : TA) : TE := fun σ H Q => t σ H fun zs H1 => rOxK C ns ks idx zs H1 Q
section
variable {X : Cx} {e : Expr} {es : List Expr} {ta tk : TA} {te : TE} {x n : Str} {p pos : Pos} {C : Addr} {ns ks : List Str} {idx : List Nat} {kws : List Keyword}
theorem pOx (c : OCl X.prog X.w X.K X.mg X.base x C ns) (hr : Room 2 X.A) (hg : Gl X x) (ha : PA X (e :: es) ta) (hdb : (x == ("__debug__" : Str)) = false := by decide)
    (he : starEach (e :: es) X.env = (false, eval e X.env) :: starEach es X.env := by rfl) (hpl : (backTo pos (starEach es X.env)).any (·.1) = false := by rfl) :
    PE X (.Call (.Name x p) (e :: es) [] pos) (tOx C ns ta) := by
  obtain ⟨fI, fd, i, t, F, b⟩ := c.ex
  exact pe_oexR (R := rOx C ns) c.f.o i t F hr b (fun _ _ _ h => rOx_sp h) hg c.m ha hdb he hpl
theorem pOxK (c : KOCl X.prog X.w X.K X.mg X.base x C ns ks idx) (hr : Room 2 X.A) (hg : Gl X x) (hkw : PK X kws tk) (hall : (backToKw pos (keywordEach kws X.env)).all (·.1.isSome) = true := by rfl)
    (hks : (backToKw pos (keywordEach kws X.env)).filterMap (·.1) = ks := by rfl) (hdb : (x == ("__debug__" : Str)) = false := by decide)
    (hpl : ((backTo pos (starEach [] X.env)).any (·.1) || (backToKw pos (keywordEach kws X.env)).any (·.1.isNone)) = false := by rfl) :
    PE X (.Call (.Name x p) [] kws pos) (tOxK C ns ks idx tk) := by
  obtain ⟨fI, fd, i, t, F, g, b⟩ := c.ex
  refine pe_oexK (R := rOxK C ns ks idx) c.f.o i t F hr b (fun zs H Q h a n => ?_) hg c.m hkw hall hks hdb hpl (fun _ _ _ h => h.1)
  obtain ⟨_, vs, e, h⟩ := h
  rw [e]
  exact (rOx_sp h).2 a n
end
section
variable {K : PySem.W.Frag} {C a : Addr} {ns ks : List Str} {idx : List Nat} {t : TA} {te : TE} {σ : L2.St} {H : Hp} {Q : VK} {ys zs vs : List V} {f : Str}
theorem w_ox (h : t σ H fun ys H1 => rOx C ns ys H1 Q) : tOx C ns t σ H Q := h
theorem w_oxK (h : t σ H fun ys H1 => rOxK C ns ks idx ys H1 Q) : tOxK C ns ks idx t σ H Q := h
theorem r_ox (l : ys.length = ns.length) (few : decide (ns.length ≤ 5) = true) (k : ∀ a H', H a = none → Same H H' → OxA H' a C ns ys → Q (.ref a) H') : rOx C ns ys H Q := ⟨l, of_decide_eq_true few, k⟩
theorem r_oxK (l : zs.length = ks.length) (e : ∀ a, pkV (0 :: idx) [] [.ref a] zs = .ref a :: vs) (l2 : vs.length = ns.length) (few : decide (ns.length ≤ 5) = true) (k : ∀ a H', H a = none → Same H H' → OxA H' a C ns vs → Q (.ref a) H') : rOxK C ns ks idx zs H Q := ⟨l, vs, e, l2, of_decide_eq_true few, k⟩
def rOxf (K : PySem.W.Frag) (f : Str) : V → Hp → VK → Prop := fun x H1 Q => ∃ (a C d : Addr) (fs : List (Str × V)) (v : V), x = .ref a ∧ XfC K C ∧ PySem.W.findIn K (.ref C) f = some none ∧ H1 a = some (exo a C (some d)) ∧ H1 d = some (exd d fs) ∧ fs.lookup f = some v ∧ Q v H1
theorem w_oxf (h : te σ H fun x H1 => rOxf K f x H1 Q) : tOxf K f te σ H Q := h
theorem r_oxf {i : Nat} {v : V} (F : OxF K C ns) (o : OxA H a C ns ys) (e : ns[i]? = some f) (ev : ys[i]? = some v) (q : Q v H) : rOxf K f (.ref a) H Q := by
  obtain ⟨d, fs, h1, h2, h3⟩ := o
  exact ⟨a, C, d, fs, v, rfl, F.x, F.no f (List.mem_of_getElem? e), h1, h2, (h3 i f e).trans ev, q⟩
end
end My
namespace My
open PySem L2 PySem.Spec PyProof.Rows
/-! the bodies: a field for each argument -/
section
variable {K : PySem.W.Frag} {C a : Addr} {D : Ends} {σ : L2.St} {H : Hp} {f1 f2 f3 : Str} {y1 y2 y3 : V}
theorem ost_new {f : Str} {y : V} {i j : Nat} (O : OexC K C) (no : PySem.W.findIn K (.ref C) f = some none) (e0 : σ[i]? = some (some (.ref a))) (e1 : σ[j]? = some (some y)) (ha : H a = some (exo a C none))
    (k : ∀ d H', H d = none → d ≠ a → (∀ b o, b ≠ a → H b = some o → H' b = some o) → H' a = some (exo a C (some d)) → H' d = some (exd d [(f, y)]) → D.nx σ H') : tOst K f (tVar i) (tVar j) D σ H := by
  refine w_var e1 (w_var e0 ⟨a, C, rfl, O, no, .inl ⟨ha, fun d n ne => k d _ n ne (fun b o hb q => ?_) upd_same ?_⟩⟩)
  · rw [upd_ne hb, upd_ne (fun e => by rw [e, n] at q; cases q)]
    exact q
  · rw [upd_ne ne]
    exact upd_same
theorem ost_old {f : Str} {y : V} {i j : Nat} {d : Addr} {fs : List (Str × V)} (O : OexC K C) (no : PySem.W.findIn K (.ref C) f = some none) (e0 : σ[i]? = some (some (.ref a))) (e1 : σ[j]? = some (some y)) (ha : H a = some (exo a C (some d))) (hd : H d = some (exd d fs)) (few : fs.length ≤ 900)
    (k : ∀ H', (∀ b o, b ≠ d → H b = some o → H' b = some o) → H' d = some (exd d ((f, y) :: fs)) → D.nx σ H') : tOst K f (tVar i) (tVar j) D σ H :=
  w_var e1 (w_var e0 ⟨a, C, rfl, O, no, .inr ⟨d, fs, ha, hd, few, k _ (fun b o hb q => by rw [upd_ne hb]; exact q) upd_same⟩⟩)
theorem ini_1 (O : OxF K C [f1]) (e0 : σ[0]? = some (some (.ref a))) (e1 : σ[1]? = some (some y1)) (ha : H a = some (exo a C none))
    (k : ∀ H', (∀ b o, b ≠ a → H b = some o → H' b = some o) → OxA H' a C [f1] [y1] → D.nx σ H') : tOst K f1 (tVar 0) (tVar 1) D σ H :=
  ost_new O.o (O.no _ (by simp)) e0 e1 ha fun d H' n ne s h1 h2 => k H' s ⟨d, _, h1, h2, fun i f e => by
    rcases i with _ | i
    · cases e; simp
    · simp at e⟩
theorem ini_2 (O : OxF K C [f1, f2]) (ne12 : (f1 == f2) = false) (e0 : σ[0]? = some (some (.ref a))) (e1 : σ[1]? = some (some y1)) (e2 : σ[2]? = some (some y2)) (ha : H a = some (exo a C none))
    (k : ∀ H', (∀ b o, b ≠ a → H b = some o → H' b = some o) → OxA H' a C [f1, f2] [y1, y2] → D.nx σ H') : tSeq (tOst K f1 (tVar 0) (tVar 1)) (tOst K f2 (tVar 0) (tVar 2)) D σ H :=
  ost_new O.o (O.no _ (by simp)) e0 e1 ha fun d H1 n ne s h1 h2 => ost_old O.o (O.no _ (by simp)) e0 e2 h1 h2 (by simp) fun H2 s2 h3 => k H2
    (fun b o hb q => s2 b o (fun e => by rw [e, n] at q; cases q) (s b o hb q)) ⟨d, _, s2 _ _ (Ne.symm ne) h1, h3, fun i f e => by
    have n1 : (f1 == f2) = false := ne12
    rcases i with _ | _ | i
    · cases e; simp [List.lookup, n1]
    · cases e; simp [List.lookup]
    · simp at e⟩
theorem ini_3 (O : OxF K C [f1, f2, f3]) (n12 : (f1 == f2) = false) (n13 : (f1 == f3) = false) (n23 : (f2 == f3) = false) (e0 : σ[0]? = some (some (.ref a))) (e1 : σ[1]? = some (some y1)) (e2 : σ[2]? = some (some y2)) (e3 : σ[3]? = some (some y3)) (ha : H a = some (exo a C none))
    (k : ∀ H', (∀ b o, b ≠ a → H b = some o → H' b = some o) → OxA H' a C [f1, f2, f3] [y1, y2, y3] → D.nx σ H') : tSeq (tOst K f1 (tVar 0) (tVar 1)) (tSeq (tOst K f2 (tVar 0) (tVar 2)) (tOst K f3 (tVar 0) (tVar 3))) D σ H :=
  ost_new O.o (O.no _ (by simp)) e0 e1 ha fun d H1 n ne s h1 h2 => ost_old O.o (O.no _ (by simp)) e0 e2 h1 h2 (by simp) fun H2 s2 h3 =>
    ost_old O.o (O.no _ (by simp)) e0 e3 (s2 _ _ (Ne.symm ne) h1) h3 (by simp) fun H3 s3 h4 => k H3
    (fun b o hb q => s3 b o (fun e => by rw [e, n] at q; cases q) (s2 b o (fun e => by rw [e, n] at q; cases q) (s b o hb q))) ⟨d, _, s3 _ _ (Ne.symm ne) (s2 _ _ (Ne.symm ne) h1), h4, fun i f e => by
    rcases i with _ | _ | _ | i
    · cases e; simp [List.lookup, n12, n13]
    · cases e; simp [List.lookup, n23]
    · cases e; simp [List.lookup]
    · simp at e⟩
end
end My
namespace My
open PySem L2 PySem.Spec PyProof.Rows
/-- C() without own __init__ -/
def tEx0 (C : Addr) : TE := fun _ H Q => ∀ a, H a = none → Q (.ref a) (upd H a (exo a C none))
section
variable {X : Cx} {x : Str} {p pos : Pos} {C : Addr} {bmB : List Value} {B nI iI : String}
theorem pOx0 (F : ExcBaseFacts B nI iI bmB) (q : PySem.W.excIn X.K C bmB nI = true) (gC : X.mg x = some (.ref C)) (kC : PySem.W.keepIn X.K (.ref C) = true) (hg : Gl X x) (hdb : (x == ("__debug__" : Str)) = false := by decide) :
    PE X (.Call (.Name x p) [] [] pos) (tEx0 C) := pe_exo0 F q gC kC hg hdb
theorem w_ex0 {σ : L2.St} {H : Hp} {Q : VK} (h : ∀ a H', H a = none → Same H H' → H' a = some (exo a C none) → Q (.ref a) H') : tEx0 C σ H Q := fun a n => h a _ n (Same.new n) upd_same
end
end My
namespace My
open PySem L2 PySem.Spec PyProof.Rows
theorem pe_oxfK {X : Cx} {K : PySem.W.Frag} (hK : X.K = K) {e : Expr} {te : TE} {n : Str} {pos : Pos} (he : PE X e te) (hb : attributeBase e n X.env (eval e X.env) = eval e X.env := by rfl) : PE X (.Attribute e n pos) (tOxf K n te) := hK ▸ pe_oxf he hb
section
variable {K : PySem.W.Frag} {C a : Addr} {ns : List Str} {H : Hp} {Q : VK} {ys : List V} {f : Str} {v : V}
theorem r_oxf0 (o : OxA H a C ns ys) (F : OxF K C ns) (e : ns[0]? = some f) (ev : ys[0]? = some v) (q : Q v H) : rOxf K f (.ref a) H Q := r_oxf F o e ev q
theorem r_oxf1 (o : OxA H a C ns ys) (F : OxF K C ns) (e : ns[1]? = some f) (ev : ys[1]? = some v) (q : Q v H) : rOxf K f (.ref a) H Q := r_oxf F o e ev q
theorem r_oxf2 (o : OxA H a C ns ys) (F : OxF K C ns) (e : ns[2]? = some f) (ev : ys[2]? = some v) (q : Q v H) : rOxf K f (.ref a) H Q := r_oxf F o e ev q
end
end My
namespace My
open PySem L2 PySem.Spec PyProof.Rows
section
variable {K : PySem.W.Frag} {C a : Addr} {ns ks : List Str} {H : Hp} {Q : VK} {z0 z1 z2 : V}
theorem r_oxK1 (l : ks.length = 1) (l2 : ns.length = 1) (k : ∀ a H', H a = none → Same H H' → OxA H' a C ns [z0] → Q (.ref a) H') : rOxK C ns ks [1] [z0] H Q := r_oxK (vs := [z0]) l.symm (fun _ => rfl) l2.symm (by rw [l2]; rfl) k
theorem r_oxK2 (l : ks.length = 2) (l2 : ns.length = 2) (k : ∀ a H', H a = none → Same H H' → OxA H' a C ns [z1, z0] → Q (.ref a) H') : rOxK C ns ks [2, 1] [z0, z1] H Q := r_oxK (vs := [z1, z0]) l.symm (fun _ => rfl) l2.symm (by rw [l2]; rfl) k
theorem r_oxK3 (l : ks.length = 3) (l2 : ns.length = 3) (k : ∀ a H', H a = none → Same H H' → OxA H' a C ns [z2, z1, z0] → Q (.ref a) H') : rOxK C ns ks [3, 2, 1] [z0, z1, z2] H Q := r_oxK (vs := [z2, z1, z0]) l.symm (fun _ => rfl) l2.symm (by rw [l2]; rfl) k
end
end My
namespace My
open PySem L2
/-- the list of numbers that an error's classes have (16: of none) -/
def errL (n : Nat) : List V := if n < 16 then [.int (n : Int)] else []
end My
namespace My
open PySem L2
/-- an exception object of the class at D -/
def ExO (H : Hp) (a D : Addr) : Prop := ∃ d, H a = some (exo a D d) ∧ ∀ dd, d = some dd → ∃ fs, H dd = some (exd dd fs)
theorem ExO.same {H H' : Hp} {a D : Addr} (e : Same H H') (h : ExO H a D) : ExO H' a D := by
  obtain ⟨d, h1, h2⟩ := h
  exact ⟨d, e _ _ h1, fun dd q => (h2 dd q).imp fun fs z => e _ _ z⟩
theorem OxA.ex {H : Hp} {a C : Addr} {ns : List Str} {ys : List V} (h : OxA H a C ns ys) : ExO H a C := by
  obtain ⟨d, fs, h1, h2, _⟩ := h
  exact ⟨some d, h1, fun dd q => by cases q; exact ⟨fs, h2⟩⟩
theorem ExO.of {H : Hp} {a C : Addr} (h : H a = some (exo a C none)) : ExO H a C := ⟨none, h, fun dd q => by cases q⟩
end My

set_option Elab.async false
set_option maxRecDepth 100000
set_option linter.all false
/-! what stands where -/
local macro_rules | `(tactic| walk_at "sq") => `(tactic| first
  | with_reducible assumption
  | exact L2.SqT.of (by with_reducible assumption)
  | (apply My.Same.tup; (focus (with_reducible assumption)); walk_at "sq")
  | (apply My.Fr.tup; (focus (with_reducible assumption)); (focus (walk_at "st")); walk_at "sq")
  | (apply My.tkap; (focus (with_reducible assumption)); walk_at "sq"))
local macro_rules | `(tactic| walk_at "st") => `(tactic| first
  | with_reducible assumption
  | exact My.StD.st (by with_reducible assumption)
  | ((apply My.St.same); (focus (with_reducible assumption)); walk_at "st"))
local macro_rules | `(tactic| walk_at "same") => `(tactic| first
  | exact L2.Same.refl _
  | with_reducible assumption
  | (refine L2.Same.trans ?_ (by with_reducible assumption); walk_at "same"))
local macro_rules | `(tactic| walk_at "fr") => `(tactic| first
  | exact My.Fr.refl _ _
  | with_reducible assumption
  | (refine My.Fr.trans ?_ (by with_reducible assumption); walk_at "fr")
  | (refine My.Fr.trans ?_ (My.Same.fr (by with_reducible assumption)); walk_at "fr"))
local macro_rules | `(tactic| walk_at "bits") => `(tactic| first
  | with_reducible assumption
  | ((with_reducible apply My.B.mul) <;> walk_at "bits")
  | ((with_reducible apply My.B.add) <;> walk_at "bits")
  | ((with_reducible apply My.B.sub) <;> walk_at "bits")
  | ((with_reducible apply My.B.neg); walk_at "bits")
  | ((with_reducible apply My.B.nat (k := 4)); (focus rfl))
  | ((with_reducible apply My.B.nat (k := 12)); (focus rfl))
  | ((with_reducible apply My.B.nat (k := 64)); (focus rfl))
  | ((with_reducible apply My.BQ.n); (focus (walk_at "bq")))
  | ((with_reducible apply My.BQ.d); (focus (walk_at "bq")))
  | ((with_reducible apply My.BN.n); (focus (walk_at "bn")))
  | ((with_reducible apply My.BN.d); (focus (walk_at "bn")))
  | ((with_reducible apply My.Rt.bn); (focus (with_reducible assumption)))
  | ((with_reducible apply My.Rt.bd); (focus (with_reducible assumption)))
  | ((with_reducible apply My.B.redn); (focus (with_reducible assumption)); walk_at "bits")
  | ((with_reducible apply My.B.redd); (focus (with_reducible assumption)); walk_at "bits")
  | ((with_reducible apply My.B.scl0); (focus (with_reducible assumption)); walk_at "bits")
  | ((with_reducible apply My.B.scl1); (focus (with_reducible assumption)); walk_at "bits")
  | ((with_reducible apply My.B.scl2); (focus (with_reducible assumption)); walk_at "bits")
  | ((with_reducible apply My.B.scl3); (focus (with_reducible assumption)); walk_at "bits")
  | ((with_reducible apply My.B.of_le); (focus (with_reducible assumption)); walk_at "bits")
  | exact My.B.sg
  | exact My.B.rng (k := 12) (by omega) (by omega)
  | exact My.B.rng (k := 64) (by omega) (by omega)
  | exact My.B.lit (k := 64) (by decide +kernel)
  | exact My.B.lit (k := 140) (by decide +kernel))
local macro_rules | `(tactic| walk_at "cmul") => `(tactic| (refine My.B.cmul (by walk_at "bits") (by walk_at "bits") (by first | decide | omega)))
local macro_rules | `(tactic| walk_at "C") => `(tactic| first
  | with_reducible assumption
  | ((with_reducible apply My.B.cmul); (focus (walk_at "bits")); (focus (walk_at "bits")); first | decide | omega)
  | (show (0 : Int) < _; omega)
  | trivial
  | omega
  | exact .inr ⟨by omega, by omega⟩
  | exact .inl ⟨by omega, by omega⟩
  | exact ⟨by decide, by decide, by decide⟩)
/-! a call by its use-lemma: grows -/
local macro_rules | `(tactic| walk_at "u") => `(tactic| fail)
/-! one step -/
local macro_rules | `(tactic| walk_at "s1") => `(tactic| with_reducible first
  | refine My.w_var rfl ?_
  | refine My.w_c ?_
  | refine My.w_op ?_
  | refine My.w_cons ?_
  | refine My.w_nil ?_
  | refine My.r_I0 ?_
  | refine My.w_call ?_
  | refine My.w_ex ?_
  | refine My.w_test ?_
  | refine My.w_tup ?_
  | refine My.r_eq rfl ?_)
local macro_rules | `(tactic| walk_at "s2") => `(tactic| with_reducible first
  | refine My.w_seqA ?_
  | refine My.w_seqI ?_
  | (show L2.Ends.nx _ _ _; refine My.w_nx ?_)
  | (show L2.Ends.rt _ _ _; refine My.w_rt ?_)
  | refine My.w_ret ?_
  | refine My.w_asg ?_
  | refine My.w_ifS ?_
  | refine My.w_next ?_
  | refine My.w_lst ?_
  | refine My.w_cb ?_
  | refine My.w_un ?_
  | refine My.r_U ?_
  | refine My.r_ne rfl ?_
  | refine My.w_and ?_
  | refine My.w_or ?_
  | refine My.w_not ?_
  | refine My.w_andV ?_
  | refine My.w_orV ?_
  | refine My.w_orT ?_
  | refine My.w_notV ?_
  | refine My.w_tB ?_
  | refine My.w_ifE ?_
  | refine My.w_seqD ?_
  | refine My.w_drop ?_
  | refine My.w_seqN ?_
  | refine My.r_gcd ?_
  | refine My.r_gcd4 ?_
  | refine My.w_never ?_
  | refine My.w_seqF ?_
  | refine My.w_for ?_
  | refine My.w_iL ?_
  | refine My.w_iT ?_
  | refine My.w_iR1 ?_
  | refine My.w_iR2 ?_
  | refine My.w_np ?_
  | refine My.w_pt ?_
  | refine My.r_ptP ?_
  | refine My.w_sl ?_
  | refine My.w_rev ?_
  | refine My.w_tru ?_
  | refine My.w_zip ?_
  | refine My.w_zm ?_
  | refine My.w_aug rfl ?_
  | refine My.w_seqAug rfl ?_
  | refine My.r_ip ?_
  | refine My.w_seqG ?_
  | refine My.w_asgG ?_
  | refine My.w_gN ?_
  | refine My.w_gCons ?_
  | refine My.w_chain ?_
  | refine My.w_bm ?_
  | refine My.w_callN ?_
  | refine My.r_isN0 ?_
  | refine My.r_isNr ?_
  | refine My.r_notN0 ?_
  | refine My.r_notNr ?_
  | refine My.r_isNi ?_
  | refine My.r_isBi ?_
  | refine My.r_isBr ?_
  | refine My.w_gSub ?_
  | refine My.r_int1 ?_
  | refine My.r_int1b ?_
  | refine My.r_abs1 ?_
  | refine My.r_max2 ?_
  | refine My.r_min2 ?_
  | refine My.w_gNil ?_
  | refine My.w_callS ?_
  | refine My.w_callE ?_
  | refine My.r_argE ?_
  | refine My.w_seqTry ?_
  | refine My.w_try ?_
  | refine My.w_tifR ⟨rfl, rfl⟩ ?_
  | refine My.w_seqR ?_
  | refine My.w_raise ?_
  | refine My.w_lc ?_
  | refine My.if_nT ?_
  | refine My.if_nF ?_
  | refine L2.iteT ?_
  | refine L2.iteF ?_)
local macro_rules | `(tactic| walk_at "std") => `(tactic| first
  | with_reducible assumption
  | ((apply My.StD.same); (focus (with_reducible assumption)); walk_at "std"))
local macro_rules | `(tactic| walk_at "g1") => `(tactic| first
  | walk_at "s1"
  | ((with_reducible apply My.r_I); (focus (walk_at "C")))
  | ((with_reducible apply My.r_ixT); (focus (walk_at "sq")); (focus rfl))
  | ((with_reducible apply My.r_ixS); (focus (walk_at "std")); (focus rfl))
  | ((with_reducible apply My.r_ixL); (focus (walk_at "sl")); (focus (first | rfl | assumption)))
  | ((with_reducible apply My.a_tup); (focus rfl); intro _ _ _ _ _)
  | walk_at "s2"
  | walk_at "u"
  | ((with_reducible apply My.r_setS); (focus (walk_at "std")); (focus rfl); (focus rfl); (focus omega); intro _ _ _ _)
  | ((with_reducible apply My.r_ixC); (focus (walk_at "std")); (focus (with_reducible assumption)); intro _)
  | ((with_reducible apply My.r_iR1); (focus omega))
  | ((with_reducible apply My.r_iR2); (focus omega))
  | ((with_reducible apply My.r_slV); (focus (walk_at "vl")); intro _ _ _ _ _)
  | ((with_reducible apply My.r_revV); (focus (walk_at "vl")); intro _ _ _ _ _)
  | ((with_reducible apply My.r_lstV); (focus (walk_at "vl")); intro _ _ _ _ _)
  | ((with_reducible apply My.r_lenV); (focus (walk_at "vl")))
  | ((with_reducible apply My.r_bmV); (focus (walk_at "vl")))
  | ((with_reducible apply My.r_truV); (focus (walk_at "vl")))
  | ((with_reducible apply My.r_zipV); (focus (walk_at "vl")); (focus (walk_at "vl")))
  | ((with_reducible apply My.r_zT); (focus (walk_at "sq")); (focus (walk_at "sq")))
  | ((with_reducible apply My.r_zL); (focus (walk_at "sl")); (focus (walk_at "sl")))
  | ((with_reducible apply My.r_sum); (focus (walk_at "sl")))
  | ((with_reducible apply My.r_catA); (focus (walk_at "sq")); (focus (walk_at "sq")); (focus rfl); (focus rfl); intro _ _ _ _)
  | ((with_reducible apply My.r_slT); (focus (walk_at "sq")); (focus (simp [HT.sIx]; done)); (focus rfl); intro _ _ _ _ _)
  | ((with_reducible apply My.r_zm); (focus (walk_at "sq")); (focus (walk_at "sl")))
  | ((with_reducible apply My.r_catV); (focus (walk_at "vl")); (focus (walk_at "vl")); (focus (first | omega | (simp; omega))); intro _ _ _ _ _)
  | ((with_reducible apply My.r_catL); (focus (walk_at "ls")); (focus (walk_at "ls")); (focus rfl); intro _ _ _ _ _)
  | ((with_reducible apply My.r_isE); (focus (first | exact L2.ClsV.own _ | exact L2.ClsV.ty _)); (focus (with_reducible assumption)))
  | ((with_reducible apply My.w_asY); (focus (with_reducible assumption)); intro _ _)
  | ((with_reducible apply My.r_ixSA); (focus (walk_at "sa")); (focus (first | rfl | assumption)))
  | ((with_reducible apply My.r_ixAT); (focus (walk_at "sq")); (focus rfl))
  | ((with_reducible apply My.r_ixAL); (focus (walk_at "sl")); (focus rfl))
  | ((with_reducible apply My.r_eqD); (focus (walk_at "dp")); (focus (walk_at "dp")); (focus (first | rfl | assumption)); (focus (first | rfl | assumption)))
  | ((with_reducible apply My.r_neD); (focus (walk_at "dp")); (focus (walk_at "dp")); (focus (first | rfl | assumption)); (focus (first | rfl | assumption)))
  | ((with_reducible apply My.r_cN); (focus rfl); (focus rfl); (focus (walk_at "pk")))
  | ((with_reducible apply My.r_iL); (focus (walk_at "sl")))
  | ((with_reducible apply My.r_iT); (focus (walk_at "sq")))
  | ((with_reducible apply My.w_gUnL); (focus (walk_at "sl")); (focus rfl))
  | ((with_reducible apply My.w_gTup); (focus (walk_at "sq")); (focus rfl))
  | ((with_reducible apply My.w_gAny); (focus (walk_at "sa")); (focus rfl))
  | ((with_reducible apply My.r_isi); (focus (exact L2.ClsV.ty _)); (focus (first | exact L2.TyX.base (L2.TyOf.int _) | exact L2.TyX.base L2.TyOf.non | exact L2.TyX.base (L2.TyOf.bl _) | exact My.SqT.tyx (by walk_at "sq") | exact My.SqL.tyx (by walk_at "sl") | exact My.VL.tyx (by walk_at "vl"))); (focus (first | exact L2.kit_ty (r := true) (by decide +kernel) | exact L2.kit_ty (r := false) (by decide +kernel))))
  | ((with_reducible apply My.r_lenT2); (focus (walk_at "sq")))
  | ((with_reducible apply My.r_lenT3); (focus (walk_at "sq")))
  | ((with_reducible apply My.r_lenT4); (focus (walk_at "sq")))
  | ((with_reducible apply My.r_lenL'); (focus (walk_at "sl")))
  | ((with_reducible apply My.r_lstL); (focus (walk_at "sl")); intro _ _ _ _ _)
  | ((with_reducible apply My.r_lstT); (focus (walk_at "sq")); intro _ _ _ _ _)
  | ((with_reducible apply My.r_tplL); (focus (walk_at "sl")); intro _ _ _ _ _)
  | ((with_reducible apply My.a_lst); (focus rfl); intro _ _ _ _ _)
  | ((with_reducible apply My.r_catT); (focus (walk_at "sq")); (focus (walk_at "sq")); (focus rfl); (focus rfl); (focus rfl); (focus rfl); intro _ _ _ _ _)
  | ((with_reducible apply My.r_bmL); (focus (walk_at "sl")))
  | ((with_reducible apply My.if_eqT); (focus rfl))
  | ((with_reducible apply My.if_eqF); (focus rfl))
  | ((with_reducible apply My.if_neT); (focus rfl))
  | ((with_reducible apply My.if_neF); (focus rfl))
  | ((with_reducible apply My.if_decT); (focus (with_reducible assumption)))
  | ((with_reducible apply My.if_decF); (focus (with_reducible assumption)))
  | ((with_reducible apply My.if_ndecT); (focus (with_reducible assumption)))
  | ((with_reducible apply My.if_ndecF); (focus (with_reducible assumption)))
  | ((with_reducible apply My.r_isi); (focus (exact L2.ClsV.ty _)); (focus (exact L2.TyX.base (L2.TyOf.str _))); (focus (first | exact L2.kit_ty (r := true) (by decide +kernel) | exact L2.kit_ty (r := false) (by decide +kernel))))
  | ((with_reducible apply My.r_isLT); (focus (walk_at "tp")); (focus (walk_at "dp")); (focus (first | exact (rfl : _ = true) | exact (rfl : _ = false))))
  | with_reducible refine My.w_up ?_
  | ((with_reducible apply My.r_up); (focus omega))
  | (with_reducible refine My.w_gt ?_; intro _ _)
  | (with_reducible refine My.w_gdM ?_; intro _ _ _ _ _ _ _ _ _ _ _ _)
  | (with_reducible refine My.w_gd ?_; intro _ _)
  | ((with_reducible apply My.r_catX); (focus (first | omega | (show _ + 1 ≤ _; omega))))
  | ((with_reducible apply My.r_strI); (focus (walk_at "bitsK")))
  | ((with_reducible apply My.r_slA); (focus (walk_at "sq")); intro _ _ _ _)
  | ((with_reducible apply My.r_slL); (focus (walk_at "sl")); intro _ _ _ _ _)
  | with_reducible refine My.w_revT ?_
  | with_reducible refine My.w_dget ?_
  | ((with_reducible apply My.w_due); intro _ _ _ _)
  | with_reducible refine My.w_pN ?_
  | with_reducible refine My.w_pC ?_
  | ((with_reducible apply My.r_revT); (focus (walk_at "sq")); intro _ _ _ _)
  | ((with_reducible apply My.r_revL); (focus (walk_at "sl")); intro _ _ _ _ _)
  | with_reducible refine My.r_isBb ?_
  | with_reducible refine My.r_isBn ?_
  | with_reducible refine My.r_isBs ?_
  | with_reducible refine My.r_isNb ?_
  | with_reducible refine My.r_isNs ?_
  | ((with_reducible apply My.r_isA8); (focus (walk_at "tp")); (focus (with_reducible assumption)); (focus (with_reducible assumption)); (focus (with_reducible assumption)); (focus (with_reducible assumption)); (focus (with_reducible assumption)); (focus (with_reducible assumption)); (focus (with_reducible assumption)); (focus (with_reducible assumption)))
  | ((with_reducible apply My.r_isA7); (focus (walk_at "tp")); (focus (with_reducible assumption)); (focus (with_reducible assumption)); (focus (with_reducible assumption)); (focus (with_reducible assumption)); (focus (with_reducible assumption)); (focus (with_reducible assumption)); (focus (with_reducible assumption)))
  | ((with_reducible apply My.r_inK2); (focus (walk_at "sq")))
  | ((with_reducible apply My.r_inS); (focus (walk_at "sq")); (focus (walk_at "dp")))
  | (with_reducible refine My.w_dnew ?_; intro _ _ _ _ _)
  | ((with_reducible apply My.r_isAN); (focus (walk_at "tp")); (focus (walk_at "nof")))
  | (with_reducible refine My.w_dnewX ?_; intro _ _ _ _ _)
  | ((with_reducible apply My.r_isxi); (focus (exact L2.ClsV.ty _)); (focus (first | exact L2.TyX.base (L2.TyOf.int _) | exact L2.TyX.base L2.TyOf.non | exact L2.TyX.base (L2.TyOf.bl _) | exact L2.TyX.base (L2.TyOf.str _) | exact My.SqT.tyx (by walk_at "sq") | exact My.SqL.tyx (by walk_at "sl") | exact My.VL.tyx (by walk_at "vl"))); (focus (first | exact L2.kit_ty (r := true) (by decide +kernel) | exact L2.kit_ty (r := false) (by decide +kernel)))))
local macro_rules | `(tactic| walk_at "g") => `(tactic| repeat (walk_at "g1"))
local macro_rules | `(tactic| walk_at "b1") => `(tactic| with_reducible first
  | refine My.if_eqI (fun _ => ?_) (fun _ => ?_)
  | refine My.if_neI (fun _ => ?_) (fun _ => ?_)
  | refine My.if_dec (fun _ => ?_) (fun _ => ?_)
  | refine My.if_ndec (fun _ => ?_) (fun _ => ?_)
  | refine My.if_nb (fun _ => ?_) (fun _ => ?_)
  | refine My.if_b (fun _ => ?_) (fun _ => ?_))
/-! all ways -/
local macro_rules | `(tactic| walk_at "a") => `(tactic| repeat' (first | walk_at "g1" | walk_at "b1"))
local macro_rules | `(tactic| walk_at "bitsK") => `(tactic| first
  | with_reducible assumption
  | exact My.B.le (by with_reducible assumption) (by first | decide | omega)
  | (apply My.B.le; (focus (walk_at "bits")); first | decide | omega))
local macro_rules | `(tactic| walk_at "sl") => `(tactic| first
  | with_reducible assumption
  | exact L2.SqL.of (by with_reducible assumption)
  | exact L2.SqL.of (My.StD.lst (by with_reducible assumption))
  | (apply L2.Same.seq; (focus (with_reducible assumption)); walk_at "sl")
  | ((apply My.Fr.seq); (focus (with_reducible assumption)); (focus (walk_at "st")); (focus (walk_at "sl")); rfl)
  | ((apply My.Fr.seqN); (focus (with_reducible assumption)); (focus (walk_at "st")); (focus (walk_at "sl")); rfl))
local macro_rules | `(tactic| walk_at "dpa") => `(tactic| first
  | exact L2.DpAll.nil
  | ((apply L2.DpAll.cons); (focus (walk_at "dp")); walk_at "dpa"))
local macro_rules | `(tactic| walk_at "dp") => `(tactic| first
  | with_reducible assumption
  | exact L2.Dp.non
  | exact L2.Dp.bl _
  | exact L2.Dp.int _
  | exact L2.Dp.str _
  | ((apply L2.Dp.tup); (focus (walk_at "sq")); walk_at "dpa")
  | ((apply L2.Dp.lst); (focus (walk_at "sl")); walk_at "dpa")
  | exact My.Vc.dp (by walk_at "vc")
  | exact My.Mv.dp (by walk_at "mv")
  | exact My.VL.dp (by walk_at "vl")
  | exact My.CnL.dp (by walk_at "cl")
  | exact My.Dn.dp (by walk_at "dn")
  | ((apply My.Dp.same); (focus (with_reducible assumption)); walk_at "dp"))
local macro_rules | `(tactic| walk_at "tp") => `(tactic| first
  | with_reducible assumption
  | ((apply My.Same.at); (focus (with_reducible assumption)); walk_at "tp"))
local macro_rules | `(tactic| walk_at "al") => `(tactic| first
  | with_reducible assumption
  | exact My.Al.nil
  | ((apply My.Al.same); (focus (with_reducible assumption)); walk_at "al")
  | ((apply My.Al.fr); (focus (with_reducible assumption)); (focus (walk_at "st")); walk_at "al"))
local macro_rules | `(tactic| walk_at "dna") => `(tactic| first
  | with_reducible assumption
  | exact My.DnA.nil
  | ((apply My.DnA.cons); (focus (walk_at "dn")); walk_at "dna")
  | ((apply My.DnA.same); (focus (with_reducible assumption)); walk_at "dna"))
local macro_rules | `(tactic| walk_at "dn") => `(tactic| first
  | with_reducible assumption
  | exact My.Dn.non
  | exact My.Dn.bl _
  | exact My.Dn.int _
  | exact My.Dn.str _
  | exact My.Vc.dn (by walk_at "vc")
  | ((apply My.Dn.same); (focus (with_reducible assumption)); walk_at "dn")
  | ((apply My.Dn.fr); (focus (with_reducible assumption)); (focus (walk_at "st")); (focus (simp; done)); walk_at "dn")
  | ((apply My.Dn.tup); (focus (walk_at "sq")); walk_at "dna"))
local macro_rules | `(tactic| walk_at "nin") => `(tactic| first
  | exact List.not_mem_nil
  | (apply My.Al.new'; (focus (with_reducible assumption)); walk_at "al"))
local macro_rules | `(tactic| walk_at "pna") => `(tactic| first
  | with_reducible assumption
  | exact My.PnA.nil
  | ((apply My.PnA.cons); (focus (walk_at "pn")); walk_at "pna")
  | ((apply My.PnA.append); (focus (walk_at "pna")); walk_at "pna")
  | ((apply My.PnA.cut); walk_at "pna")
  | ((apply My.PnA.rev); walk_at "pna")
  | ((apply My.PnA.same); (focus (with_reducible assumption)); walk_at "pna"))
local macro_rules | `(tactic| walk_at "pn") => `(tactic| first
  | with_reducible assumption
  | exact My.Pn.non
  | exact My.Pn.bl _
  | exact My.Pn.int _
  | exact My.Pn.str _
  | exact My.Pn.vc (by walk_at "vc")
  | ((apply My.Pn.tup); (focus (walk_at "sq")); (focus (walk_at "pna")); (first | decide | omega))
  | ((apply My.Pn.lst); (focus (walk_at "nin")); (focus (walk_at "ls")); (focus (walk_at "pna")); (first | decide | omega))
  | ((apply My.Pn.same); (focus (with_reducible assumption)); walk_at "pn")
  | ((apply My.Pn.fr); (focus (with_reducible assumption)); (focus (walk_at "st")); (focus (simp; done)); walk_at "pn"))
local macro_rules | `(tactic| walk_at "ls") => `(tactic| first
  | with_reducible assumption
  | ((apply My.Same.lst); (focus (with_reducible assumption)); walk_at "ls")
  | ((apply My.Fr.lst); (focus (with_reducible assumption)); (focus (walk_at "st")); (focus (walk_at "ls")); rfl)
  | ((apply My.Fr.lstN); (focus (with_reducible assumption)); (focus (walk_at "st")); (focus (walk_at "ls")); rfl))
local macro_rules | `(tactic| walk_at "pk") => `(tactic| first
  | (simp only [My.pkV, List.map_cons, List.map_nil, List.nil_append, List.append_nil, List.cons_append, List.getD_cons_zero, List.getD_cons_succ]; done)
  | (simp only [My.pkV, List.map_cons, List.map_nil, List.nil_append, List.append_nil, List.cons_append, List.getD_cons_zero, List.getD_cons_succ]; rfl))
local macro_rules | `(tactic| walk_at "tk") => `(tactic| first
  | exact My.TK.refl _ _
  | with_reducible assumption
  | ((apply My.TK.trans); (focus (exact My.TK.same (by with_reducible assumption))); fail)
  | (refine My.TK.trans ?_ (My.TK.same (by with_reducible assumption)); walk_at "tk")
  | (refine My.TK.trans ?_ (My.TK.fr (by with_reducible assumption) (by walk_at "st")); walk_at "tk"))
local macro_rules | `(tactic| walk_at "pvp") => `(tactic| first
  | with_reducible assumption
  | ((apply My.PvP.same); (focus (with_reducible assumption)); walk_at "pvp"))
local macro_rules | `(tactic| walk_at "bq") => `(tactic| first
  | with_reducible assumption
  | ((with_reducible apply My.BQ.add) <;> walk_at "bq")
  | ((with_reducible apply My.BQ.sub) <;> walk_at "bq")
  | ((with_reducible apply My.BQ.mul) <;> walk_at "bq")
  | ((with_reducible apply My.BQ.neg); walk_at "bq"))
local macro_rules | `(tactic| walk_at "bqK") => `(tactic| first
  | with_reducible assumption
  | exact My.BQ.le (by with_reducible assumption) (by first | decide | omega)
  | ((apply My.BQ.le); (focus (walk_at "bq")); first | decide | omega))
local macro_rules | `(tactic| walk_at "bn") => `(tactic| first
  | with_reducible assumption
  | ((with_reducible apply My.BN.int); (focus (walk_at "bits")))
  | ((with_reducible apply My.BN.dv); (focus (decide +kernel)); (focus (walk_at "bits")); (focus (walk_at "bits")))
  | ((with_reducible apply My.VN.x); (focus (walk_at "vn")))
  | ((with_reducible apply My.VN.y); (focus (walk_at "vn")))
  | ((with_reducible apply My.VN.z); (focus (walk_at "vn")))
  | ((with_reducible apply My.BN.add) <;> walk_at "bn")
  | ((with_reducible apply My.BN.sub) <;> walk_at "bn")
  | ((with_reducible apply My.BN.mul) <;> walk_at "bn")
  | ((with_reducible apply My.BN.dt) <;> walk_at "vn")
  | ((with_reducible apply My.BN.neg); walk_at "bn"))
local macro_rules | `(tactic| walk_at "vn") => `(tactic| first
  | with_reducible assumption
  | ((with_reducible apply My.MN.a); (focus (walk_at "mn")))
  | ((with_reducible apply My.MN.b); (focus (walk_at "mn")))
  | ((with_reducible apply My.MN.c); (focus (walk_at "mn")))
  | ((with_reducible apply My.MN.s); (focus (walk_at "mn")))
  | ((with_reducible apply My.VN.va) <;> walk_at "vn")
  | ((with_reducible apply My.VN.vs) <;> walk_at "vn")
  | ((with_reducible apply My.VN.sc); (focus (walk_at "bn")); (focus (walk_at "vn")))
  | ((with_reducible apply My.VN.cr) <;> walk_at "vn")
  | ((with_reducible apply My.VN.mvec); (focus (walk_at "mn")); (focus (walk_at "vn")))
  | ((with_reducible apply My.VN.app); (focus (walk_at "mn")); (focus (walk_at "vn"))))
local macro_rules | `(tactic| walk_at "mn") => `(tactic| first
  | with_reducible assumption
  | ((with_reducible apply My.MN.comb) <;> walk_at "mn"))
local macro_rules | `(tactic| walk_at "vc") => `(tactic| first
  | with_reducible assumption
  | ((apply My.Vc.same); (focus (with_reducible assumption)); walk_at "vc")
  | ((apply My.Vc.fr); (focus (with_reducible assumption)); (focus (walk_at "st")); walk_at "vc")
  | ((apply My.Vc.tk); (focus (with_reducible assumption)); walk_at "vc"))
local macro_rules | `(tactic| walk_at "mv") => `(tactic| first
  | with_reducible assumption
  | ((apply My.Mv.same); (focus (with_reducible assumption)); walk_at "mv")
  | ((apply My.Mv.fr); (focus (with_reducible assumption)); (focus (walk_at "st")); walk_at "mv")
  | ((apply My.Mv.tk); (focus (with_reducible assumption)); walk_at "mv"))
local macro_rules | `(tactic| walk_at "ar") => `(tactic| (first | decide | omega))
local macro_rules | `(tactic| walk_at "sqI") => `(tactic| first
  | walk_at "sq"
  | exact My.SqT.ofInt (by walk_at "sq")
  | exact My.SqT.ofRat (by walk_at "sq") (by decide +kernel) (by decide +kernel))
local macro_rules | `(tactic| walk_at "bnK") => `(tactic| first
  | with_reducible assumption
  | exact My.BN.le (by walk_at "bn") (by first | decide | omega) (by first | decide | omega))
local macro_rules | `(tactic| walk_at "sa") => `(tactic| first
  | with_reducible assumption
  | (apply My.SqA.t; walk_at "sq")
  | (apply My.SqA.l; walk_at "sl")
  | ((apply My.SqA.same); (focus (with_reducible assumption)); walk_at "sa"))
local macro_rules | `(tactic| walk_at "va") => `(tactic| first
  | with_reducible assumption
  | exact My.VcA.of (by walk_at "vc")
  | ((apply My.VcA.same); (focus (with_reducible assumption)); walk_at "va")
  | ((apply My.VcA.fr); (focus (with_reducible assumption)); (focus (walk_at "st")); walk_at "va"))
local macro_rules | `(tactic| walk_at "vl") => `(tactic| first
  | with_reducible assumption
  | ((apply My.VL.same); (focus (with_reducible assumption)); walk_at "vl")
  | ((apply My.VL.fr); (focus (with_reducible assumption)); (focus (walk_at "st")); walk_at "vl"))
local macro_rules | `(tactic| walk_at "vb") => `(tactic| fail)
local macro_rules | `(tactic| walk_at "cl") => `(tactic| first
  | with_reducible assumption
  | ((apply My.CnL.same); (focus (with_reducible assumption)); walk_at "cl")
  | ((apply My.CnL.fr); (focus (with_reducible assumption)); (focus (walk_at "st")); walk_at "cl"))
local macro_rules | `(tactic| walk_at "ob") => `(tactic| first
  | with_reducible assumption
  | ((apply My.Ob.same); (focus (with_reducible assumption)); walk_at "ob")
  | exact Or.inl (by walk_at "dp"))
local macro_rules | `(tactic| walk_at "nof") => `(tactic| first
  | exact My.NoF.nil
  | ((apply My.NoF.cons); (focus (with_reducible assumption)); walk_at "nof"))
local macro_rules | `(tactic| walk_at "bns") => `(tactic| first
  | with_reducible assumption
  | ((with_reducible apply My.BnA.same); (focus (with_reducible assumption)); walk_at "bns")
  | ((with_reducible apply My.BnA.fr); (focus (with_reducible assumption)); (focus (walk_at "st")); (focus (simp; done)); walk_at "bns"))
local macro_rules | `(tactic| walk_at "bn1") => `(tactic| first
  | with_reducible assumption
  | ((with_reducible apply My.Bn.same); (focus (with_reducible assumption)); walk_at "bn1")
  | ((with_reducible apply My.Bn.fr); (focus (with_reducible assumption)); (focus (walk_at "st")); (focus (simp; done)); walk_at "bn1"))
local macro_rules | `(tactic| walk_at "bnda") => `(tactic| first
  | walk_at "bns"
  | with_reducible exact My.BnA.nil
  | ((with_reducible apply My.BnA.append); (focus (walk_at "bnda")); walk_at "bnda")
  | ((with_reducible apply My.BnA.cut); walk_at "bnda")
  | ((apply My.BnA.cons); (focus (walk_at "bnd")); walk_at "bnda"))
local macro_rules | `(tactic| walk_at "bnd") => `(tactic| first
  | with_reducible exact My.Bn.non
  | with_reducible exact My.Bn.bl _
  | with_reducible exact My.Bn.str _
  | ((with_reducible apply My.Bn.int); (focus (walk_at "bitsK")))
  | walk_at "bn1"
  | ((with_reducible apply My.Bn.tup); (focus (walk_at "sq")); (focus (walk_at "bnda")))
  | ((with_reducible apply My.Bn.lst); (focus (walk_at "nin")); (focus (walk_at "ls")); (focus (walk_at "bnda"))))
local macro_rules | `(tactic| walk_at "ox") => `(tactic| first
  | exact Or.inl (by walk_at "bnd")
  | exact Or.inr ⟨_, _, rfl, by walk_at "nin", by walk_at "tp"⟩)
local macro_rules | `(tactic| walk_at "dx") => `(tactic| first
  | with_reducible assumption
  | exact My.Dx.int _
  | exact My.Dx.bl _
  | exact My.Dx.non
  | exact My.Dx.str _
  | ((with_reducible apply My.Dx.same); (focus (with_reducible assumption)); walk_at "dx")
  | exact My.Dn.dx (by walk_at "dn"))
local macro_rules | `(tactic| walk_at "dx") => `(tactic| first
  | with_reducible assumption
  | exact My.Dx.int _
  | exact My.Dx.bl _
  | exact My.Dx.non
  | exact My.Dx.str _
  | ((with_reducible apply My.Dx.same); (focus (with_reducible assumption)); walk_at "dx")
  | ((with_reducible apply My.Dx.fr); (focus (with_reducible assumption)); (focus (walk_at "st")); (focus (simp; done)); walk_at "dx")
  | exact My.vD_dx (by walk_at "vc")
  | exact My.Dn.dx (by walk_at "dn"))
/-! exceptions with fields -/
local macro_rules | `(tactic| walk_at "oxa") => `(tactic| first
  | with_reducible assumption
  | ((apply My.OxA.same); (focus (with_reducible assumption)); walk_at "oxa"))
local macro_rules | `(tactic| walk_at "u") => `(tactic| first
  | with_reducible refine My.w_ox ?_
  | with_reducible refine My.w_oxK ?_
  | with_reducible refine My.w_oxf ?_
  | ((with_reducible apply My.r_ox); (focus rfl); (focus rfl); intro _ _ _ _ _)
  | ((with_reducible apply My.r_oxK1); (focus rfl); (focus rfl); intro _ _ _ _ _)
  | ((with_reducible apply My.r_oxK2); (focus rfl); (focus rfl); intro _ _ _ _ _)
  | ((with_reducible apply My.r_oxK3); (focus rfl); (focus rfl); intro _ _ _ _ _)
  | ((with_reducible apply My.r_oxf0); (focus (walk_at "oxa")); (focus (with_reducible assumption)); (focus rfl); (focus rfl))
  | ((with_reducible apply My.r_oxf1); (focus (walk_at "oxa")); (focus (with_reducible assumption)); (focus rfl); (focus rfl))
  | ((with_reducible apply My.r_oxf2); (focus (walk_at "oxa")); (focus (with_reducible assumption)); (focus rfl); (focus rfl))
  | (with_reducible refine My.w_ex0 ?_; intro _ _ _ _ _))
namespace My
open PySem L2
structure Ecl where
  c_SpaceError : Addr
  c_TextFault : Addr
  c_RunFault : Addr
  c_BadRow : Addr
  c_ZeroDenominator : Addr
  c_NoNormal : Addr
  c_InLine : Addr
  c_Flat : Addr
  c_BadPolygon : Addr
  c_Singular : Addr
  c_NoDirection : Addr
  c_BadPath : Addr
  c_TooLarge : Addr
  c_BadOrder : Addr
  c_Unbounded : Addr
  c_NoParting : Addr
  c_NothingToUndo : Addr
structure Tell (K : PySem.W.Frag) (c : Ecl) (D : Addr) (n : Nat) : Prop where
  x : ExcC K D
  v : PySem.W.kitOne K (.ref D) (.type "ValueError") = some true
  t_TextFault : PySem.W.kitOne K (.ref D) (.ref c.c_TextFault) = some (decide (n = 0))
  t_RunFault : PySem.W.kitOne K (.ref D) (.ref c.c_RunFault) = some (decide (n = 1))
  t_BadRow : PySem.W.kitOne K (.ref D) (.ref c.c_BadRow) = some (decide (n = 2))
  t_ZeroDenominator : PySem.W.kitOne K (.ref D) (.ref c.c_ZeroDenominator) = some (decide (n = 3))
  t_NoNormal : PySem.W.kitOne K (.ref D) (.ref c.c_NoNormal) = some (decide (n = 4))
  t_InLine : PySem.W.kitOne K (.ref D) (.ref c.c_InLine) = some (decide (n = 5))
  t_Flat : PySem.W.kitOne K (.ref D) (.ref c.c_Flat) = some (decide (n = 6))
  t_BadPolygon : PySem.W.kitOne K (.ref D) (.ref c.c_BadPolygon) = some (decide (n = 7))
  t_Singular : PySem.W.kitOne K (.ref D) (.ref c.c_Singular) = some (decide (n = 8))
  t_NoDirection : PySem.W.kitOne K (.ref D) (.ref c.c_NoDirection) = some (decide (n = 9))
  t_BadPath : PySem.W.kitOne K (.ref D) (.ref c.c_BadPath) = some (decide (n = 10))
  t_TooLarge : PySem.W.kitOne K (.ref D) (.ref c.c_TooLarge) = some (decide (n = 11))
  t_BadOrder : PySem.W.kitOne K (.ref D) (.ref c.c_BadOrder) = some (decide (n = 12))
  t_Unbounded : PySem.W.kitOne K (.ref D) (.ref c.c_Unbounded) = some (decide (n = 13))
  t_NoParting : PySem.W.kitOne K (.ref D) (.ref c.c_NoParting) = some (decide (n = 14))
  t_NothingToUndo : PySem.W.kitOne K (.ref D) (.ref c.c_NothingToUndo) = some (decide (n = 15))
  t_SpaceError : PySem.W.kitOne K (.ref D) (.ref c.c_SpaceError) = some true
structure EF (K : PySem.W.Frag) (mg : Str → Option Value) (c : Ecl) : Prop where
  g_SpaceError : mg "SpaceError" = some (.ref c.c_SpaceError)
  g_TextFault : mg "TextFault" = some (.ref c.c_TextFault)
  g_RunFault : mg "RunFault" = some (.ref c.c_RunFault)
  g_BadRow : mg "BadRow" = some (.ref c.c_BadRow)
  g_ZeroDenominator : mg "ZeroDenominator" = some (.ref c.c_ZeroDenominator)
  g_NoNormal : mg "NoNormal" = some (.ref c.c_NoNormal)
  g_InLine : mg "InLine" = some (.ref c.c_InLine)
  g_Flat : mg "Flat" = some (.ref c.c_Flat)
  g_BadPolygon : mg "BadPolygon" = some (.ref c.c_BadPolygon)
  g_Singular : mg "Singular" = some (.ref c.c_Singular)
  g_NoDirection : mg "NoDirection" = some (.ref c.c_NoDirection)
  g_BadPath : mg "BadPath" = some (.ref c.c_BadPath)
  g_TooLarge : mg "TooLarge" = some (.ref c.c_TooLarge)
  g_BadOrder : mg "BadOrder" = some (.ref c.c_BadOrder)
  g_Unbounded : mg "Unbounded" = some (.ref c.c_Unbounded)
  g_NoParting : mg "NoParting" = some (.ref c.c_NoParting)
  g_NothingToUndo : mg "NothingToUndo" = some (.ref c.c_NothingToUndo)
  k_ZeroDenominator : PySem.W.keepIn K (.ref c.c_ZeroDenominator) = true
  e_ZeroDenominator : PySem.W.excIn K c.c_ZeroDenominator [.type "ValueError", .type "Exception", .type "BaseException", .type "object"] "ValueError.__new__" = true
  b_ZeroDenominator : PySem.W.subIn K (.ref c.c_ZeroDenominator) (.type "BaseException") = some true
  t_ZeroDenominator : PySem.W.typeIn K (.ref c.c_ZeroDenominator) = some (.type "type")
  x_ZeroDenominator : ExcC K c.c_ZeroDenominator
  m_ZeroDenominator_SpaceError : PySem.W.exmOne K (.ref c.c_ZeroDenominator) (.ref c.c_SpaceError) = some true
  i_ZeroDenominator_SpaceError : PySem.W.kitOne K (.ref c.c_ZeroDenominator) (.ref c.c_SpaceError) = some true
  i_ZeroDenominator_TextFault : PySem.W.kitOne K (.ref c.c_ZeroDenominator) (.ref c.c_TextFault) = some false
  i_ZeroDenominator_RunFault : PySem.W.kitOne K (.ref c.c_ZeroDenominator) (.ref c.c_RunFault) = some false
  i_ZeroDenominator_BadRow : PySem.W.kitOne K (.ref c.c_ZeroDenominator) (.ref c.c_BadRow) = some false
  i_ZeroDenominator_ZeroDenominator : PySem.W.kitOne K (.ref c.c_ZeroDenominator) (.ref c.c_ZeroDenominator) = some true
  i_ZeroDenominator_NoNormal : PySem.W.kitOne K (.ref c.c_ZeroDenominator) (.ref c.c_NoNormal) = some false
  i_ZeroDenominator_InLine : PySem.W.kitOne K (.ref c.c_ZeroDenominator) (.ref c.c_InLine) = some false
  i_ZeroDenominator_Flat : PySem.W.kitOne K (.ref c.c_ZeroDenominator) (.ref c.c_Flat) = some false
  i_ZeroDenominator_BadPolygon : PySem.W.kitOne K (.ref c.c_ZeroDenominator) (.ref c.c_BadPolygon) = some false
  i_ZeroDenominator_Singular : PySem.W.kitOne K (.ref c.c_ZeroDenominator) (.ref c.c_Singular) = some false
  i_ZeroDenominator_NoDirection : PySem.W.kitOne K (.ref c.c_ZeroDenominator) (.ref c.c_NoDirection) = some false
  i_ZeroDenominator_BadPath : PySem.W.kitOne K (.ref c.c_ZeroDenominator) (.ref c.c_BadPath) = some false
  i_ZeroDenominator_TooLarge : PySem.W.kitOne K (.ref c.c_ZeroDenominator) (.ref c.c_TooLarge) = some false
  i_ZeroDenominator_BadOrder : PySem.W.kitOne K (.ref c.c_ZeroDenominator) (.ref c.c_BadOrder) = some false
  i_ZeroDenominator_Unbounded : PySem.W.kitOne K (.ref c.c_ZeroDenominator) (.ref c.c_Unbounded) = some false
  i_ZeroDenominator_NoParting : PySem.W.kitOne K (.ref c.c_ZeroDenominator) (.ref c.c_NoParting) = some false
  i_ZeroDenominator_NothingToUndo : PySem.W.kitOne K (.ref c.c_ZeroDenominator) (.ref c.c_NothingToUndo) = some false
  v_ZeroDenominator : PySem.W.kitOne K (.ref c.c_ZeroDenominator) (.type "ValueError") = some true
  k_SpaceError : PySem.W.keepIn K (.ref c.c_SpaceError) = true
  e_SpaceError : PySem.W.excIn K c.c_SpaceError [.type "ValueError", .type "Exception", .type "BaseException", .type "object"] "ValueError.__new__" = true
  k_NoNormal : PySem.W.keepIn K (.ref c.c_NoNormal) = true
  e_NoNormal : PySem.W.excIn K c.c_NoNormal [.type "ValueError", .type "Exception", .type "BaseException", .type "object"] "ValueError.__new__" = true
  k_InLine : PySem.W.keepIn K (.ref c.c_InLine) = true
  e_InLine : PySem.W.excIn K c.c_InLine [.type "ValueError", .type "Exception", .type "BaseException", .type "object"] "ValueError.__new__" = true
  k_Flat : PySem.W.keepIn K (.ref c.c_Flat) = true
  e_Flat : PySem.W.excIn K c.c_Flat [.type "ValueError", .type "Exception", .type "BaseException", .type "object"] "ValueError.__new__" = true
  k_BadPolygon : PySem.W.keepIn K (.ref c.c_BadPolygon) = true
  e_BadPolygon : PySem.W.excIn K c.c_BadPolygon [.type "ValueError", .type "Exception", .type "BaseException", .type "object"] "ValueError.__new__" = true
  k_Singular : PySem.W.keepIn K (.ref c.c_Singular) = true
  e_Singular : PySem.W.excIn K c.c_Singular [.type "ValueError", .type "Exception", .type "BaseException", .type "object"] "ValueError.__new__" = true
  k_NoDirection : PySem.W.keepIn K (.ref c.c_NoDirection) = true
  e_NoDirection : PySem.W.excIn K c.c_NoDirection [.type "ValueError", .type "Exception", .type "BaseException", .type "object"] "ValueError.__new__" = true
  k_BadPath : PySem.W.keepIn K (.ref c.c_BadPath) = true
  e_BadPath : PySem.W.excIn K c.c_BadPath [.type "ValueError", .type "Exception", .type "BaseException", .type "object"] "ValueError.__new__" = true
  k_BadOrder : PySem.W.keepIn K (.ref c.c_BadOrder) = true
  e_BadOrder : PySem.W.excIn K c.c_BadOrder [.type "ValueError", .type "Exception", .type "BaseException", .type "object"] "ValueError.__new__" = true
  k_Unbounded : PySem.W.keepIn K (.ref c.c_Unbounded) = true
  e_Unbounded : PySem.W.excIn K c.c_Unbounded [.type "ValueError", .type "Exception", .type "BaseException", .type "object"] "ValueError.__new__" = true
  k_NothingToUndo : PySem.W.keepIn K (.ref c.c_NothingToUndo) = true
  e_NothingToUndo : PySem.W.excIn K c.c_NothingToUndo [.type "ValueError", .type "Exception", .type "BaseException", .type "object"] "ValueError.__new__" = true
  tell_TextFault : Tell K c c.c_TextFault 0
  tell_RunFault : Tell K c c.c_RunFault 1
  tell_BadRow : Tell K c c.c_BadRow 2
  tell_ZeroDenominator : Tell K c c.c_ZeroDenominator 3
  tell_NoNormal : Tell K c c.c_NoNormal 4
  tell_InLine : Tell K c c.c_InLine 5
  tell_Flat : Tell K c c.c_Flat 6
  tell_BadPolygon : Tell K c c.c_BadPolygon 7
  tell_Singular : Tell K c c.c_Singular 8
  tell_NoDirection : Tell K c c.c_NoDirection 9
  tell_BadPath : Tell K c c.c_BadPath 10
  tell_TooLarge : Tell K c c.c_TooLarge 11
  tell_BadOrder : Tell K c c.c_BadOrder 12
  tell_Unbounded : Tell K c c.c_Unbounded 13
  tell_NoParting : Tell K c c.c_NoParting 14
  tell_NothingToUndo : Tell K c c.c_NothingToUndo 15
  tell_SpaceError : Tell K c c.c_SpaceError 16
  ve : mg "ValueError" = none
def top (i : Nat) : Stmt := PySem.Challenge.pw_everypoint_k00_ratio_in_lowest_terms.main.body.getD i (.Pass ⟨0, 0, 0, 0⟩)
def ctop (i j : Nat) : Stmt := match top i with
  | .ClassDef _ _ _ b .. => b.getD j (.Pass ⟨0, 0, 0, 0⟩)
  | _ => .Pass ⟨0, 0, 0, 0⟩
section
variable {P : Program} {w : World} {K : PySem.W.Frag} {mg : Str → Option Value} {base : Heap}
abbrev si_TextFault : Stmt := ctop 3 0
theorem sci_TextFault : FnScope ["self", "line", "place"] ["self", "line", "place"] (defScope si_TextFault) := ⟨rfl, rfl, rfl, by decide +kernel, rfl, by decide +kernel, by decide +kernel⟩
set_option maxHeartbeats 4000000 in
theorem oki_TextFault {f : Addr} {fd : FuncData} (F : FunA K "__init__" "TextFault.__init__" si_TextFault f fd) {C : Addr} (O : OxF K C ["line", "place"]) : FnOk P w K mg base CX0 1 f fd ["self", "line", "place"] (sp_ini C ["line", "place"]) := by
  refine F.ok sci_TextFault (fun vs H Q E h => ?_) (fun cdv A outer s H vs Q E hr h => ?_)
  · obtain ⟨a, ys, rfl, l, _⟩ := h
    simp [l]
  · obtain ⟨a, ys, rfl, l, ha, k⟩ := h
    obtain ⟨y0, y1, rfl⟩ : ∃ y0 y1, ys = [y0, y1] := by
      match ys, l with
      | [y0, y1], _ => exact ⟨_, _, rfl⟩
    refine ⟨_, (pss_cons (ps_ost (pv 0) (pv 1)) (pss_one (ps_ost (pv 0) (pv 2)))), ?_⟩
    exact ini_2 O (by decide) rfl rfl rfl ha fun H' s o => k H' s o
abbrev si_RunFault : Stmt := ctop 4 0
theorem sci_RunFault : FnScope ["self", "line", "place", "why"] ["self", "line", "place", "why"] (defScope si_RunFault) := ⟨rfl, rfl, rfl, by decide +kernel, rfl, by decide +kernel, by decide +kernel⟩
set_option maxHeartbeats 4000000 in
theorem oki_RunFault {f : Addr} {fd : FuncData} (F : FunA K "__init__" "RunFault.__init__" si_RunFault f fd) {C : Addr} (O : OxF K C ["line", "place", "why"]) : FnOk P w K mg base CX0 1 f fd ["self", "line", "place", "why"] (sp_ini C ["line", "place", "why"]) := by
  refine F.ok sci_RunFault (fun vs H Q E h => ?_) (fun cdv A outer s H vs Q E hr h => ?_)
  · obtain ⟨a, ys, rfl, l, _⟩ := h
    simp [l]
  · obtain ⟨a, ys, rfl, l, ha, k⟩ := h
    obtain ⟨y0, y1, y2, rfl⟩ : ∃ y0 y1 y2, ys = [y0, y1, y2] := by
      match ys, l with
      | [y0, y1, y2], _ => exact ⟨_, _, _, rfl⟩
    refine ⟨_, (pss_cons (ps_ost (pv 0) (pv 1)) (pss_cons (ps_ost (pv 0) (pv 2)) (pss_one (ps_ost (pv 0) (pv 3))))), ?_⟩
    exact ini_3 O (by decide) (by decide) (by decide) rfl rfl rfl rfl ha fun H' s o => k H' s o
abbrev si_BadRow : Stmt := ctop 5 0
theorem sci_BadRow : FnScope ["self", "number"] ["self", "number"] (defScope si_BadRow) := ⟨rfl, rfl, rfl, by decide +kernel, rfl, by decide +kernel, by decide +kernel⟩
set_option maxHeartbeats 4000000 in
theorem oki_BadRow {f : Addr} {fd : FuncData} (F : FunA K "__init__" "BadRow.__init__" si_BadRow f fd) {C : Addr} (O : OxF K C ["number"]) : FnOk P w K mg base CX0 1 f fd ["self", "number"] (sp_ini C ["number"]) := by
  refine F.ok sci_BadRow (fun vs H Q E h => ?_) (fun cdv A outer s H vs Q E hr h => ?_)
  · obtain ⟨a, ys, rfl, l, _⟩ := h
    simp [l]
  · obtain ⟨a, ys, rfl, l, ha, k⟩ := h
    obtain ⟨y0, rfl⟩ : ∃ y0, ys = [y0] := by
      match ys, l with
      | [y0], _ => exact ⟨_, rfl⟩
    refine ⟨_, (pss_one (ps_ost (pv 0) (pv 1))), ?_⟩
    exact ini_1 O rfl rfl ha fun H' s o => k H' s o
abbrev si_TooLarge : Stmt := ctop 14 0
theorem sci_TooLarge : FnScope ["self", "what"] ["self", "what"] (defScope si_TooLarge) := ⟨rfl, rfl, rfl, by decide +kernel, rfl, by decide +kernel, by decide +kernel⟩
set_option maxHeartbeats 4000000 in
theorem oki_TooLarge {f : Addr} {fd : FuncData} (F : FunA K "__init__" "TooLarge.__init__" si_TooLarge f fd) {C : Addr} (O : OxF K C ["what"]) : FnOk P w K mg base CX0 1 f fd ["self", "what"] (sp_ini C ["what"]) := by
  refine F.ok sci_TooLarge (fun vs H Q E h => ?_) (fun cdv A outer s H vs Q E hr h => ?_)
  · obtain ⟨a, ys, rfl, l, _⟩ := h
    simp [l]
  · obtain ⟨a, ys, rfl, l, ha, k⟩ := h
    obtain ⟨y0, rfl⟩ : ∃ y0, ys = [y0] := by
      match ys, l with
      | [y0], _ => exact ⟨_, rfl⟩
    refine ⟨_, (pss_one (ps_ost (pv 0) (pv 1))), ?_⟩
    exact ini_1 O rfl rfl ha fun H' s o => k H' s o
abbrev si_NoParting : Stmt := ctop 17 0
theorem sci_NoParting : FnScope ["self", "why"] ["self", "why"] (defScope si_NoParting) := ⟨rfl, rfl, rfl, by decide +kernel, rfl, by decide +kernel, by decide +kernel⟩
set_option maxHeartbeats 4000000 in
theorem oki_NoParting {f : Addr} {fd : FuncData} (F : FunA K "__init__" "NoParting.__init__" si_NoParting f fd) {C : Addr} (O : OxF K C ["why"]) : FnOk P w K mg base CX0 1 f fd ["self", "why"] (sp_ini C ["why"]) := by
  refine F.ok sci_NoParting (fun vs H Q E h => ?_) (fun cdv A outer s H vs Q E hr h => ?_)
  · obtain ⟨a, ys, rfl, l, _⟩ := h
    simp [l]
  · obtain ⟨a, ys, rfl, l, ha, k⟩ := h
    obtain ⟨y0, rfl⟩ : ∃ y0, ys = [y0] := by
      match ys, l with
      | [y0], _ => exact ⟨_, rfl⟩
    refine ⟨_, (pss_one (ps_ost (pv 0) (pv 1))), ?_⟩
    exact ini_1 O rfl rfl ha fun H' s o => k H' s o
end
def sp_ratio (K : PySem.W.Frag) : Sp := fun vs H Q _ => ∃ (t b : Int), vs = [.int t, .int b] ∧ (b ≠ 0) ∧ (B 8990 b) ∧
  (∀ H' p, Same H H' → SqT K H' p [.int ((t : Rat) / b).num, .int (((t : Rat) / b).den : Int)] → Q (.ref p) H')
theorem u_ratio {K : PySem.W.Frag} {H : Hp} {Q : VK} {E : XK} {t b : Int} (h0 : b ≠ 0) (h1 : B 8990 b)
  (k : ∀ H' p, Same H H' → SqT K H' p [.int ((t : Rat) / b).num, .int (((t : Rat) / b).den : Int)] → Q (.ref p) H') : sp_ratio K [.int t, .int b] H Q E := ⟨t, b, rfl, h0, h1, k⟩
local macro_rules | `(tactic| walk_at "u") => `(tactic| ((with_reducible apply u_ratio); (first | assumption | omega); walk_at "bitsK"; intros))
def sp_ratio_X (K : PySem.W.Frag) (ec : Ecl) : Sp := fun vs H Q E => ∃ (t b : Int), vs = [.int t, .int b] ∧ (b = 0) ∧
  (∀ H', Same H H' → E (.ref ec.c_ZeroDenominator) none H')
theorem u_ratio_X {K : PySem.W.Frag} {ec : Ecl} {H : Hp} {Q : VK} {E : XK} {t b : Int} (h0 : b = 0)
  (k : ∀ H', Same H H' → E (.ref ec.c_ZeroDenominator) none H') : sp_ratio_X K ec [.int t, .int b] H Q E := ⟨t, b, rfl, h0, k⟩
local macro_rules | `(tactic| walk_at "u") => `(tactic| ((with_reducible apply u_ratio_X); (first | assumption | rfl | (focus (simp; done)) | omega); intros))
def sp_as_ratio (K : PySem.W.Frag) : Sp := fun vs H Q _ => ∃ (v : V) (q : Rat), vs = [v] ∧ (RvQ K H v q) ∧
  (∀ H' p, Same H H' → SqT K H' p [.int q.num, .int (q.den : Int)] → Q (.ref p) H')
theorem u_as_ratio {K : PySem.W.Frag} {H : Hp} {Q : VK} {E : XK} {v : V} {q : Rat} (h0 : RvQ K H v q)
  (k : ∀ H' p, Same H H' → SqT K H' p [.int q.num, .int (q.den : Int)] → Q (.ref p) H') : sp_as_ratio K [v] H Q E := ⟨v, q, rfl, h0, k⟩
local macro_rules | `(tactic| walk_at "u") => `(tactic| ((with_reducible apply u_as_ratio); (first | exact Or.inl ⟨_, rfl, rfl⟩ | exact Or.inr ⟨_, rfl, by first | (walk_at "sq") | (apply My.SqT.ofNeg; (focus (walk_at "sq")))⟩); intros))
def sp__law_mix (K : PySem.W.Frag) : Sp := fun vs H Q _ => ∃ (x y : Int), vs = [.int x, .int y] ∧
  (∀ H' r, Same H H' → 0 ≤ r → r < 2305843009213693951 → Q (.int r) H')
theorem u__law_mix {K : PySem.W.Frag} {H : Hp} {Q : VK} {E : XK} {x y : Int} 
  (k : ∀ H' r, Same H H' → 0 ≤ r → r < 2305843009213693951 → Q (.int r) H') : sp__law_mix K [.int x, .int y] H Q E := ⟨x, y, rfl, k⟩
local macro_rules | `(tactic| walk_at "u") => `(tactic| ((with_reducible apply u__law_mix); intros))
def sp__law_store (K : PySem.W.Frag) : Sp := fun vs H Q _ => ∃ (a : Addr) (ns : List Int), vs = [.ref a] ∧ (SqL K H a (ns.map V.int)) ∧ (ns.length ≤ 63) ∧
  (∀ H' p, Same H H' → St K H' p → Q (.ref p) H')
theorem u__law_store {K : PySem.W.Frag} {H : Hp} {Q : VK} {E : XK} {a : Addr} {ns : List Int} (h0 : SqL K H a (ns.map V.int)) (h1 : ns.length ≤ 63)
  (k : ∀ H' p, Same H H' → St K H' p → Q (.ref p) H') : sp__law_store K [.ref a] H Q E := ⟨a, ns, rfl, h0, h1, k⟩
local macro_rules | `(tactic| walk_at "u") => `(tactic| ((with_reducible apply u__law_store); walk_at "sl"; (first | assumption | omega); intros))
def sp__law_take (K : PySem.W.Frag) : Sp := fun vs H Q _ => ∃ (st : Addr) (m : Int), vs = [.ref st, .int m] ∧ (St K H st) ∧ (m ≤ 1000000000000000000) ∧
  (∀ H' r, Fr st H H' → St K H' st → 0 ≤ r → r < max 1 m → Q (.int r) H')
theorem u__law_take {K : PySem.W.Frag} {H : Hp} {Q : VK} {E : XK} {st : Addr} {m : Int} (h0 : St K H st) (h1 : m ≤ 1000000000000000000)
  (k : ∀ H' r, Fr st H H' → St K H' st → 0 ≤ r → r < max 1 m → Q (.int r) H') : sp__law_take K [.ref st, .int m] H Q E := ⟨st, m, rfl, h0, h1, k⟩
local macro_rules | `(tactic| walk_at "u") => `(tactic| ((with_reducible apply u__law_take); walk_at "st"; (first | assumption | omega); intros))
def sp__law_pick (K : PySem.W.Frag) : Sp := fun vs H Q _ => ∃ (st l : Addr) (xs : List V), vs = [.ref st, .ref l] ∧ (St K H st) ∧ (SqL K H l xs) ∧ (0 < xs.length) ∧ (xs.length ≤ 1000) ∧ (notS xs = true) ∧
  (∀ H' (i : Nat) (v : V), Fr st H H' → St K H' st → xs[i]? = some v → Q v H')
theorem u__law_pick {K : PySem.W.Frag} {H : Hp} {Q : VK} {E : XK} {st l : Addr} {xs : List V} (h0 : St K H st) (h1 : SqL K H l xs) (h2 : 0 < xs.length) (h3 : xs.length ≤ 1000) (h4 : notS xs = true)
  (k : ∀ H' (i : Nat) (v : V), Fr st H H' → St K H' st → xs[i]? = some v → Q v H') : sp__law_pick K [.ref st, .ref l] H Q E := ⟨st, l, xs, rfl, h0, h1, h2, h3, h4, k⟩
local macro_rules | `(tactic| walk_at "u") => `(tactic| ((with_reducible apply u__law_pick); walk_at "st"; walk_at "sl"; (first | assumption | (focus (simp; done))); (first | assumption | (focus (simp; done))); (first | assumption | rfl); intros))
def sp__law_few (K : PySem.W.Frag) : Sp := fun vs H Q _ => ∃ (st : Addr) (m : Int), vs = [.ref st, .int m] ∧ (St K H st) ∧ (0 ≤ m) ∧ (m ≤ 100000) ∧
  (∀ H' r, Fr st H H' → St K H' st → 0 ≤ r → r ≤ m → Q (.int r) H')
theorem u__law_few {K : PySem.W.Frag} {H : Hp} {Q : VK} {E : XK} {st : Addr} {m : Int} (h0 : St K H st) (h1 : 0 ≤ m) (h2 : m ≤ 100000)
  (k : ∀ H' r, Fr st H H' → St K H' st → 0 ≤ r → r ≤ m → Q (.int r) H') : sp__law_few K [.ref st, .int m] H Q E := ⟨st, m, rfl, h0, h1, h2, k⟩
local macro_rules | `(tactic| walk_at "u") => `(tactic| ((with_reducible apply u__law_few); walk_at "st"; (first | assumption | omega); (first | assumption | omega); intros))
def sp__law_wide (K : PySem.W.Frag) : Sp := fun vs H Q _ => ∃ (st : Addr) (m : Int), vs = [.ref st, .int m] ∧ (St K H st) ∧ (0 ≤ m) ∧ (m ≤ 40) ∧
  (∀ H' r, Fr st H H' → St K H' st → 0 ≤ r → r < 10 ^ m.toNat → Q (.int r) H')
theorem u__law_wide {K : PySem.W.Frag} {H : Hp} {Q : VK} {E : XK} {st : Addr} {m : Int} (h0 : St K H st) (h1 : 0 ≤ m) (h2 : m ≤ 40)
  (k : ∀ H' r, Fr st H H' → St K H' st → 0 ≤ r → r < 10 ^ m.toNat → Q (.int r) H') : sp__law_wide K [.ref st, .int m] H Q E := ⟨st, m, rfl, h0, h1, h2, k⟩
local macro_rules | `(tactic| walk_at "u") => `(tactic| ((with_reducible apply u__law_wide); walk_at "st"; (first | assumption | omega); (first | assumption | omega); intros))
def sp__law_integer (K : PySem.W.Frag) : Sp := fun vs H Q _ => ∃ (st : Addr), vs = [.ref st] ∧ (St K H st) ∧
  (∀ H' r, Fr st H H' → St K H' st → B 134 r → Q (.int r) H')
theorem u__law_integer {K : PySem.W.Frag} {H : Hp} {Q : VK} {E : XK} {st : Addr} (h0 : St K H st)
  (k : ∀ H' r, Fr st H H' → St K H' st → B 134 r → Q (.int r) H') : sp__law_integer K [.ref st] H Q E := ⟨st, rfl, h0, k⟩
local macro_rules | `(tactic| walk_at "u") => `(tactic| ((with_reducible apply u__law_integer); walk_at "st"; intros))
def sp__law_gcd (K : PySem.W.Frag) : Sp := fun vs H Q _ => ∃ (x y : Int), vs = [.int x, .int y] ∧
  (∀ H', Same H H' → Q (.int ((Nat.gcd x.natAbs y.natAbs : Nat) : Int)) H')
theorem u__law_gcd {K : PySem.W.Frag} {H : Hp} {Q : VK} {E : XK} {x y : Int} 
  (k : ∀ H', Same H H' → Q (.int ((Nat.gcd x.natAbs y.natAbs : Nat) : Int)) H') : sp__law_gcd K [.int x, .int y] H Q E := ⟨x, y, rfl, k⟩
local macro_rules | `(tactic| walk_at "u") => `(tactic| ((with_reducible apply u__law_gcd); intros))
def sp__law_text (K : PySem.W.Frag) : Sp := fun vs H Q _ => ∃ (st : Addr) (n : Int), vs = [.ref st, .int n] ∧ (St K H st) ∧ (0 ≤ n) ∧ (n ≤ 6) ∧
  (∀ H' x, Fr st H H' → St K H' st → Q (.str x) H')
theorem u__law_text {K : PySem.W.Frag} {H : Hp} {Q : VK} {E : XK} {st : Addr} {n : Int} (h0 : St K H st) (h1 : 0 ≤ n) (h2 : n ≤ 6)
  (k : ∀ H' x, Fr st H H' → St K H' st → Q (.str x) H') : sp__law_text K [.ref st, .int n] H Q E := ⟨st, n, rfl, h0, h1, h2, k⟩
local macro_rules | `(tactic| walk_at "u") => `(tactic| ((with_reducible apply u__law_text); walk_at "st"; (first | assumption | omega); (first | assumption | omega); intros))
def sp__law_is_integer (K : PySem.W.Frag) : Sp := fun vs H Q _ => ∃ (x : Int), vs = [.int x] ∧
  (∀ H', Same H H' → Q (.bl true) H')
theorem u__law_is_integer {K : PySem.W.Frag} {H : Hp} {Q : VK} {E : XK} {x : Int} 
  (k : ∀ H', Same H H' → Q (.bl true) H') : sp__law_is_integer K [.int x] H Q E := ⟨x, rfl, k⟩
local macro_rules | `(tactic| walk_at "u") => `(tactic| ((with_reducible apply u__law_is_integer); intros))
def sp__law_error_E_ZeroDenominator (K : PySem.W.Frag) (ec : Ecl) : Sp := fun vs H Q E => ∃ (a : Addr), vs = [.ref a] ∧
  (∀ H' l, Same H H' → H' l = some (.lst [.int 3]) → Q (.ref l) H')
theorem u__law_error_E_ZeroDenominator {K : PySem.W.Frag} {ec : Ecl} {H : Hp} {Q : VK} {E : XK} {a : Addr} 
  (k : ∀ H' l, Same H H' → H' l = some (.lst [.int 3]) → Q (.ref l) H') : sp__law_error_E_ZeroDenominator K ec [.ref a] H Q E := ⟨a, rfl, k⟩
local macro_rules | `(tactic| walk_at "u") => `(tactic| ((with_reducible apply u__law_error_E_ZeroDenominator); intros))
def sp__law_error_V_E (K : PySem.W.Frag) (ec : Ecl) : Sp := fun vs H Q E => ∃ (a D : Addr) (d : Option Addr) (n : Nat), vs = [.ref a] ∧ (H a = some (exo a D d)) ∧ (∀ dd, d = some dd → ∃ fs, H dd = some (exd dd fs)) ∧ (Tell K ec D n) ∧ (n < 17) ∧
  (∀ H' l, Same H H' → H' l = some (.lst (errL n)) → Q (.ref l) H')
theorem u__law_error_V_E {K : PySem.W.Frag} {ec : Ecl} {H : Hp} {Q : VK} {E : XK} {a D : Addr} {d : Option Addr} {n : Nat} (h0 : H a = some (exo a D d)) (h1 : ∀ dd, d = some dd → ∃ fs, H dd = some (exd dd fs)) (h2 : Tell K ec D n) (h3 : n < 17)
  (k : ∀ H' l, Same H H' → H' l = some (.lst (errL n)) → Q (.ref l) H') : sp__law_error_V_E K ec [.ref a] H Q E := ⟨a, D, d, n, rfl, h0, h1, h2, h3, k⟩
local macro_rules | `(tactic| walk_at "u") => `(tactic| ((with_reducible apply u__law_error_V_E); assumption; assumption; assumption; assumption; intros))
def sp__law_holds_what (K : PySem.W.Frag) : Sp := fun vs H Q _ => ∃ (l m : Addr) (n0 n1 n2 : Int) (w0 w1 : Str), vs = [.ref l, .ref m] ∧ (SqL K H l [.int n0, .int n1, .int n2]) ∧ (SqL K H m [.str w0, .str w1]) ∧
  (∀ H', Same H H' → Q (.bl true) H')
theorem u__law_holds_what {K : PySem.W.Frag} {H : Hp} {Q : VK} {E : XK} {l m : Addr} {n0 n1 n2 : Int} {w0 w1 : Str} (h0 : SqL K H l [.int n0, .int n1, .int n2]) (h1 : SqL K H m [.str w0, .str w1])
  (k : ∀ H', Same H H' → Q (.bl true) H') : sp__law_holds_what K [.ref l, .ref m] H Q E := ⟨l, m, n0, n1, n2, w0, w1, rfl, h0, h1, k⟩
local macro_rules | `(tactic| walk_at "u") => `(tactic| ((with_reducible apply u__law_holds_what); walk_at "sl"; walk_at "sl"; intros))
def sp__law_classes (K : PySem.W.Frag) : Sp := fun vs H Q _ => ∃ (l m : Addr) (n0 n1 n2 : Int) (w0 w1 : Str), vs = [.ref l, .ref m] ∧ (SqL K H l [.int n0, .int n1, .int n2]) ∧ (SqL K H m [.str w0, .str w1]) ∧
  (∀ H', Same H H' → Q (.bl true) H')
theorem u__law_classes {K : PySem.W.Frag} {H : Hp} {Q : VK} {E : XK} {l m : Addr} {n0 n1 n2 : Int} {w0 w1 : Str} (h0 : SqL K H l [.int n0, .int n1, .int n2]) (h1 : SqL K H m [.str w0, .str w1])
  (k : ∀ H', Same H H' → Q (.bl true) H') : sp__law_classes K [.ref l, .ref m] H Q E := ⟨l, m, n0, n1, n2, w0, w1, rfl, h0, h1, k⟩
local macro_rules | `(tactic| walk_at "u") => `(tactic| ((with_reducible apply u__law_classes); walk_at "sl"; walk_at "sl"; intros))
def sp__law_refused (K : PySem.W.Frag) : Sp := fun vs H Q _ => ∃ (n : Int), vs = [.int n] ∧
  (∀ H', Same H H' → Q (.bl true) H')
theorem u__law_refused {K : PySem.W.Frag} {H : Hp} {Q : VK} {E : XK} {n : Int} 
  (k : ∀ H', Same H H' → Q (.bl true) H') : sp__law_refused K [.int n] H Q E := ⟨n, rfl, k⟩
local macro_rules | `(tactic| walk_at "u") => `(tactic| ((with_reducible apply u__law_refused); intros))
def sp__law_pair (K : PySem.W.Frag) : Sp := fun vs H Q _ => ∃ (st : Addr), vs = [.ref st] ∧ (St K H st) ∧
  (∀ H' o n d, Fr st H H' → St K H' st → SqT K H' o [.int n, .int d] → B 134 n → B 134 d → Q (.ref o) H')
theorem u__law_pair {K : PySem.W.Frag} {H : Hp} {Q : VK} {E : XK} {st : Addr} (h0 : St K H st)
  (k : ∀ H' o n d, Fr st H H' → St K H' st → SqT K H' o [.int n, .int d] → B 134 n → B 134 d → Q (.ref o) H') : sp__law_pair K [.ref st] H Q E := ⟨st, rfl, h0, k⟩
local macro_rules | `(tactic| walk_at "u") => `(tactic| ((with_reducible apply u__law_pair); walk_at "st"; intros))
def sp__law_right (K : PySem.W.Frag) : Sp := fun vs H Q _ => ∃ (a : Addr) (q : Rat) (n d : Int), vs = [.ref a, .int n, .int d] ∧ (SqT K H a [.int q.num, .int (q.den : Int)]) ∧ (BN 300 300 q) ∧ (B 300 n) ∧ (B 300 d) ∧ (q * (d : Rat) = (n : Rat)) ∧
  (∀ H', Same H H' → Q (.bl true) H')
theorem u__law_right {K : PySem.W.Frag} {H : Hp} {Q : VK} {E : XK} {a : Addr} {q : Rat} {n d : Int} (h0 : SqT K H a [.int q.num, .int (q.den : Int)]) (h1 : BN 300 300 q) (h2 : B 300 n) (h3 : B 300 d) (h4 : q * (d : Rat) = (n : Rat))
  (k : ∀ H', Same H H' → Q (.bl true) H') : sp__law_right K [.ref a, .int n, .int d] H Q E := ⟨a, q, n, d, rfl, h0, h1, h2, h3, h4, k⟩
local macro_rules | `(tactic| walk_at "u") => `(tactic| ((with_reducible apply u__law_right); walk_at "sqI"; (first | (walk_at "bn") | exact My.BN.le (My.BN.dv (by first | assumption | decide | omega) (by walk_at "bits") (by walk_at "bits")) (by first | decide | omega) (by first | decide | omega)); walk_at "bitsK"; walk_at "bitsK"; (first | assumption | exact My.dvm (by first | decide | assumption | omega) | grind | (simp only [Rat.intCast_neg, Rat.intCast_one, Rat.intCast_zero]; grind) | (simp; done) | (simp; grind)); intros))
def sp__law_alone (K : PySem.W.Frag) : Sp := fun vs H Q _ => ∃ (n : Int), vs = [.int n] ∧ (B 134 n) ∧
  (∀ H', Same H H' → Q (.bl true) H')
theorem u__law_alone {K : PySem.W.Frag} {H : Hp} {Q : VK} {E : XK} {n : Int} (h0 : B 134 n)
  (k : ∀ H', Same H H' → Q (.bl true) H') : sp__law_alone K [.int n] H Q E := ⟨n, rfl, h0, k⟩
local macro_rules | `(tactic| walk_at "u") => `(tactic| ((with_reducible apply u__law_alone); walk_at "bitsK"; intros))
def sp__law_asked (K : PySem.W.Frag) : Sp := fun vs H Q _ => ∃ (n d : Int), vs = [.int n, .int d] ∧ (B 134 n) ∧ (B 134 d) ∧
  (∀ H', Same H H' → Q (.bl true) H')
theorem u__law_asked {K : PySem.W.Frag} {H : Hp} {Q : VK} {E : XK} {n d : Int} (h0 : B 134 n) (h1 : B 134 d)
  (k : ∀ H', Same H H' → Q (.bl true) H') : sp__law_asked K [.int n, .int d] H Q E := ⟨n, d, rfl, h0, h1, k⟩
local macro_rules | `(tactic| walk_at "u") => `(tactic| ((with_reducible apply u__law_asked); walk_at "bitsK"; walk_at "bitsK"; intros))
def sp_law (K : PySem.W.Frag) : Sp := fun vs H Q _ => ∃ (sa : Addr) (ns : List Int), vs = [.ref sa] ∧ (SqL K H sa (ns.map V.int)) ∧ (ns.length ≤ 63) ∧
  (∀ H', Q (.bl true) H')
theorem u_law {K : PySem.W.Frag} {H : Hp} {Q : VK} {E : XK} {sa : Addr} {ns : List Int} (h0 : SqL K H sa (ns.map V.int)) (h1 : ns.length ≤ 63)
  (k : ∀ H', Q (.bl true) H') : sp_law K [.ref sa] H Q E := ⟨sa, ns, rfl, h0, h1, k⟩
local macro_rules | `(tactic| walk_at "u") => `(tactic| ((with_reducible apply u_law); walk_at "sl"; (first | assumption | omega); intros))
section
variable {P : Program} {w : World} {K : PySem.W.Frag} {mg : Str → Option Value} {base : Heap}
abbrev s_ratio : Stmt := top 20
theorem sc_ratio : FnScope ["top", "bottom", "shared"] ["top", "bottom"] (defScope s_ratio) := ⟨rfl, rfl, rfl, by decide +kernel, rfl, by decide +kernel, by decide +kernel⟩
set_option maxHeartbeats 4000000 in
theorem ok_ratio {f : Addr} {fd : FuncData} (F : FunA K "ratio" "ratio" s_ratio f fd) (T : Blt mg) : FnOk P w K mg base CX0 1 f fd ["top", "bottom"] (sp_ratio K) := by
  refine F.ok sc_ratio (fun vs H Q E h => ?_) (fun cdv A outer s H vs Q E hr h => ?_)
  · obtain ⟨_, _, rfl, _⟩ := h
    rfl
  · obtain ⟨t, b, rfl, h0, h1, k⟩ := h
    refine ⟨_, (pss_cons (ps_if (pt_cmpR op_eq (pv 1) pe_int (nomark _))
 (pss_one ps_never)
 pss_nil)
 (pss_cons (ps_set (i := 2) sc_ratio.nd rfl (.inl rfl) (pe_callBfun cr_gcd (by rfl) T.gcd (pa_cons (pv 0) (pa_cons (pv 1) pa_nil))))
 (pss_cons (ps_if (pt_cmpR op_lt (pv 1) pe_int (nomark _))
 (pss_one (ps_set (i := 2) sc_ratio.nd rfl (.inl rfl) (pe_un un_neg (pv 2))))
 pss_nil)
 (pss_one (ps_ret (pe_tup (pa_cons (pe_op op_fdivZ (pv 0) (pv 2)) (pa_cons (pe_op op_fdivZ (pv 1) (pv 2)) pa_nil)))))))), ?_⟩
    have hg : 0 < Nat.gcd t.natAbs b.natAbs := Nat.gcd_pos_of_pos_right _ (by omega)
    have gB : B 8990 ((Nat.gcd t.natAbs b.natAbs : Nat) : Int) := B.of_le (y := b) (by have := Nat.gcd_le_right t.natAbs (n := b.natAbs) (by omega); omega) h1
    have c1 : CDivZ t ((Nat.gcd t.natAbs b.natAbs : Nat) : Int) := B.cdiv (by omega) gB (by decide)
    have c2 : CDivZ t (-((Nat.gcd t.natAbs b.natAbs : Nat) : Int)) := B.cdiv (by omega) gB.neg (by decide)
    have go : ∀ (H' : Hp) p n d, Same H H' → H' p = some (.tup [.int n, .int d]) → Red t b n d → Q (.ref p) H' := fun H' p n d s1 hp r => by
      obtain ⟨rfl, rfl⟩ := red_q h0 r
      exact k _ _ s1 (SqT.of hp)
    walk_at "a"
    · omega
    · exact go _ _ _ _ (by walk_at "same") (by assumption) (red_of h0 (fun q => absurd q (by omega)) (fun _ => rfl))
    · exact go _ _ _ _ (by walk_at "same") (by assumption) (red_of h0 (fun _ => rfl) (fun q => absurd q (by omega)))
set_option maxHeartbeats 4000000 in
theorem ok_ratio_X {f : Addr} {fd : FuncData} (F : FunA K "ratio" "ratio" s_ratio f fd) (T : Blt mg) {ec : Ecl} (EC : EF K mg ec) : FnOk P w K mg base (L2N.CX P w) 1 f fd ["top", "bottom"] (sp_ratio_X K ec) := by
  refine F.okX sc_ratio (fun vs H Q E h => ?_) (fun cdv A outer s H vs Q E hr h => ?_)
  · obtain ⟨_, _, rfl, _⟩ := h
    rfl
  · obtain ⟨t, b, rfl, h0, k⟩ := h
    refine ⟨_, (pss_cons (ps_if (pt_cmpR op_eq (pv 1) pe_int (nomark _))
 (pss_one (ps_raise0 rfl (L2N.takes_of rfl rfl rfl rfl) PySem.F.excBase_ValueError EC.e_ZeroDenominator EC.g_ZeroDenominator EC.k_ZeroDenominator EC.b_ZeroDenominator EC.t_ZeroDenominator (by rfl)))
 pss_nil)
 (pss_cons (ps_set (i := 2) sc_ratio.nd rfl (.inl rfl) (pe_callBfun cr_gcd (by rfl) T.gcd (pa_cons (pv 0) (pa_cons (pv 1) pa_nil))))
 (pss_cons (ps_if (pt_cmpR op_lt (pv 1) pe_int (nomark _))
 (pss_one (ps_set (i := 2) sc_ratio.nd rfl (.inl rfl) (pe_un un_neg (pv 2))))
 pss_nil)
 (pss_one (ps_ret (pe_tup (pa_cons (pe_op op_fdivZ (pv 0) (pv 2)) (pa_cons (pe_op op_fdivZ (pv 1) (pv 2)) pa_nil)))))))), ?_⟩
    subst h0
    walk_at "g"
    exact k _ (by walk_at "same")
abbrev s_as_ratio : Stmt := top 21
theorem sc_as_ratio : FnScope ["number"] ["number"] (defScope s_as_ratio) := ⟨rfl, rfl, rfl, by decide +kernel, rfl, by decide +kernel, by decide +kernel⟩
set_option maxHeartbeats 4000000 in
theorem ok_as_ratio {f : Addr} {fd : FuncData} (F : FunA K "as_ratio" "as_ratio" s_as_ratio f fd) (T : Blt mg) : FnOk P w K mg base CX0 1 f fd ["number"] (sp_as_ratio K) := by
  refine F.ok sc_as_ratio (fun vs H Q E h => ?_) (fun cdv A outer s H vs Q E hr h => ?_)
  · obtain ⟨_, _, rfl, _⟩ := h
    rfl
  · obtain ⟨v, q, rfl, h0, k⟩ := h
    refine ⟨_, (pss_cons (ps_if (pt_val (pe_callB (kc_isi (K := K) rfl) (by rfl) T.isinstance (by decide +kernel) (pa_cons (pv 0) (pa_cons (pe_bltn (v := .ty "int") (u := .type "int") (by rfl) T.int (by decide +kernel) rfl) pa_nil))))
 (pss_one (ps_ret (pe_tup (pa_cons (pv 0) (pa_cons pe_int pa_nil)))))
 pss_nil)
 (pss_one (ps_ret (pv 0)))), ?_⟩
    rcases h0 with ⟨z, rfl, rfl⟩ | ⟨a, rfl, ha⟩
    · walk_at "g"
      exact k _ _ (by walk_at "same") (SqT.ofInt (by walk_at "sq"))
    · walk_at "g"
      exact k _ _ (by walk_at "same") (by walk_at "sq")
abbrev s__law_mix : Stmt := top 23
theorem sc__law_mix : FnScope ["one", "two", "once", "twice"] ["one", "two"] (defScope s__law_mix) := ⟨rfl, rfl, rfl, by decide +kernel, rfl, by decide +kernel, by decide +kernel⟩
set_option maxHeartbeats 4000000 in
theorem ok__law_mix {f : Addr} {fd : FuncData} (F : FunA K "_law_mix" "_law_mix" s__law_mix f fd) (T : Blt mg) : FnOk P w K mg base CX0 1 f fd ["one", "two"] (sp__law_mix K) := by
  refine F.ok sc__law_mix (fun vs H Q E h => ?_) (fun cdv A outer s H vs Q E hr h => ?_)
  · obtain ⟨_, _, rfl, _⟩ := h
    rfl
  · obtain ⟨x, y, rfl, k⟩ := h
    refine ⟨_, (pss_cons (ps_set (i := 2) sc__law_mix.nd rfl (.inl rfl) (pe_op op_mod (pe_callTy kc_int (by rfl) T.int (by decide +kernel) (pa_cons (pe_op op_add (pe_op op_add (pe_op op_mul (pv 0) pe_int) (pe_op op_mul (pv 1) pe_int)) pe_int) pa_nil)) pe_int))
 (pss_cons (ps_set (i := 3) sc__law_mix.nd rfl (.inl rfl) (pe_op op_mod (pe_callTy kc_int (by rfl) T.int (by decide +kernel) (pa_cons (pe_op op_add (pe_op op_add (pe_op op_mul (pv 2) (pv 2)) (pe_op op_mul (pv 1) pe_int)) pe_int) pa_nil)) pe_int))
 (pss_one (ps_ret (pe_op op_mod (pe_callTy kc_int (by rfl) T.int (by decide +kernel) (pa_cons (pe_op op_add (pe_op op_add (pe_op op_mul (pv 3) (pv 3)) (pe_op op_mul (pv 2) pe_int)) pe_int) pa_nil)) pe_int))))), ?_⟩
    walk_at "a"
    exact k _ _ (by walk_at "same") (by omega) (by omega)
abbrev s__law_store : Stmt := top 24
theorem sc__law_store : FnScope ["script", "seed", "cell"] ["script"] (defScope s__law_store) := ⟨rfl, rfl, rfl, by decide +kernel, rfl, by decide +kernel, by decide +kernel⟩
set_option maxHeartbeats 4000000 in
theorem ok__law_store {f : Addr} {fd : FuncData} (F : FunA K "_law_store" "_law_store" s__law_store f fd) (T : Blt mg) (C__law_mix : Cal P w K mg base "_law_mix" 1 ["one", "two"] (sp__law_mix K)) : FnOk P w K mg base CX0 2 f fd ["script"] (sp__law_store K) := by
  refine F.ok sc__law_store (fun vs H Q E h => ?_) (fun cdv A outer s H vs Q E hr h => ?_)
  · obtain ⟨_, _, rfl, _⟩ := h
    rfl
  · obtain ⟨a, ns, rfl, h0, h1, k⟩ := h
    refine ⟨_, (pss_cons (ps_set (i := 1) sc__law_store.nd rfl (.inl rfl) (pe_op op_add pe_int (pe_callB (kc_len (K := K) rfl) (by rfl) T.len (by decide +kernel) (pa_cons (pv 0) pa_nil))))
 (pss_cons (ps_for PassesOwn.never rfl (kp_list (K := K) rfl (pv 0)) (pg_name (i := 2) sc__law_store.nd rfl (.inl rfl))
 (pss_one (ps_set (i := 1) sc__law_store.nd rfl (.inl rfl) (pc C__law_mix (hr.mono (by decide)) (by rfl) (pa_cons (pv 1) (pa_cons (pe_op op_mod (pe_callTy kc_int (by rfl) T.int (by decide +kernel) (pa_cons (pv 2) pa_nil)) pe_int) pa_nil))))))
 (pss_one (ps_ret (pe_lst (pa_cons (pe_callTy (kc_list (K := K) rfl) (by rfl) T.list (by decide +kernel) (pa_cons (pv 0) pa_nil)) (pa_cons pe_int (pa_cons pe_int (pa_cons pe_int (pa_cons pe_int (pa_cons (pv 1) (pa_cons pe_int pa_nil)))))))))))), ?_⟩
    walk_at "g"
    refine f_list (xs := ns.map V.int) (fun i σ' H' => ∃ z c, σ' = [some (.ref a), some (.int z), c] ∧ Same H H') ⟨_, _, rfl, by walk_at "same"⟩ (fun i σ' H' _ ⟨_, _, _, s1⟩ => s1.seq h0) ?_ ?_
    · rintro i x σ' H' hi ⟨z, c, rfl, s1⟩
      obtain ⟨y, rfl, _⟩ := map_get hi
      walk_at "g"
      exact ⟨_, _, rfl, by walk_at "same"⟩
    · rintro σ' H' ⟨z, c, rfl, s1⟩
      have q := s1.seq h0
      walk_at "g"
      rename_i l H1 nl s2 hl p H2 np s3 hp
      exact k _ _ (by walk_at "same") ⟨l, ns, _, _, _, _, _, _, hp, ne_of_none hl np, s3 _ _ hl, by decide⟩
abbrev s__law_take : Stmt := top 25
theorem sc__law_take : FnScope ["store", "many", "cell", "rest"] ["store", "many"] (defScope s__law_take) := ⟨rfl, rfl, rfl, by decide +kernel, rfl, by decide +kernel, by decide +kernel⟩
set_option maxHeartbeats 4000000 in
theorem ok__law_take {f : Addr} {fd : FuncData} (F : FunA K "_law_take" "_law_take" s__law_take f fd) (T : Blt mg) (C__law_mix : Cal P w K mg base "_law_mix" 1 ["one", "two"] (sp__law_mix K)) : FnOk P w K mg base CX0 2 f fd ["store", "many"] (sp__law_take K) := by
  refine F.ok sc__law_take (fun vs H Q E h => ?_) (fun cdv A outer s H vs Q E hr h => ?_)
  · obtain ⟨_, _, rfl, _⟩ := h
    rfl
  · obtain ⟨st, m, rfl, h0, h1, k⟩ := h
    refine ⟨_, (pss_cons (ps_set (i := 1) sc__law_take.nd rfl (.inl rfl) (pe_callB (kc_max rfl) (by rfl) T.max (by decide +kernel) (pa_cons pe_int (pa_cons (pv 1) pa_nil))))
 (Evl.pss_cut (ps_if (PW.pt (pw_and (pt_cmpR op_eq (pe_ix (kx_list (K := K) rfl) (pv 0) pe_int (fun _ _ => rfl)) pe_int (nomark _)) (pw_and (pt_cmpR op_eq (pe_ix (kx_list (K := K) rfl) (pv 0) pe_int (fun _ _ => rfl)) pe_int (nomark _)) (pw_and1 (pt_cmpR op_lt (pe_ix (kx_list (K := K) rfl) (pv 0) pe_int (fun _ _ => rfl)) (pe_callB (kc_len (K := K) rfl) (by rfl) T.len (by decide +kernel) (pa_cons (pe_ix (kx_list (K := K) rfl) (pv 0) pe_int (fun _ _ => rfl)) pa_nil)) (nomark _))))))
 (pss_cons (ps_set (i := 2) sc__law_take.nd rfl (.inl rfl) (pe_callTy kc_int (by rfl) T.int (by decide +kernel) (pa_cons (pe_ix (kx_list (K := K) rfl) (pe_ix (kx_list (K := K) rfl) (pv 0) pe_int (fun _ _ => rfl)) (pe_ix (kx_list (K := K) rfl) (pv 0) pe_int (fun _ _ => rfl)) (fun _ _ => rfl)) pa_nil)))
 (pss_cons (ps_asg (pe_op op_add (pe_ix (kx_list (K := K) rfl) (pv 0) pe_int (fun _ _ => rfl)) pe_int) (pg_sub (pv 0) pe_int set_list))
 (pss_one (ps_if (pt_cmpR op_ge (pe_callB kc_abs (by rfl) T.abs (by decide +kernel) (pa_cons (pv 2) pa_nil)) (pe_op op_pow pe_int pe_int) (nomark _))
 (pss_one (ps_asg (pe_callB kc_abs (by rfl) T.abs (by decide +kernel) (pa_cons (pv 2) pa_nil)) (pg_sub (pv 0) pe_int set_list)))
 (pss_cons (ps_asg pe_int (pg_sub (pv 0) pe_int set_list))
 (pss_one (ps_asg (pc C__law_mix (hr.mono (by decide)) (by rfl) (pa_cons (pe_ix (kx_list (K := K) rfl) (pv 0) pe_int (fun _ _ => rfl)) (pa_cons (pv 2) pa_nil))) (pg_sub (pv 0) pe_int set_list))))))))
 pss_nil)
 (pss_cons (ps_if (pt_cmpR op_gt (pe_ix (kx_list (K := K) rfl) (pv 0) pe_int (fun _ _ => rfl)) pe_int (nomark _))
 (pss_cons (ps_set (i := 3) sc__law_take.nd rfl (.inl rfl) (pe_callTy kc_int (by rfl) T.int (by decide +kernel) (pa_cons (pe_ix (kx_list (K := K) rfl) (pv 0) pe_int (fun _ _ => rfl)) pa_nil)))
 (pss_cons (ps_asg (pe_op op_fdivZ (pv 3) (pv 1)) (pg_sub (pv 0) pe_int set_list))
 (pss_one (ps_ret (pe_op op_mod (pv 3) (pv 1))))))
 pss_nil)
 (pss_cons (ps_asg (pe_op op_add (pe_ix (kx_list (K := K) rfl) (pv 0) pe_int (fun _ _ => rfl)) pe_int) (pg_sub (pv 0) pe_int set_list))
 (pss_cons (ps_if (pt_cmpR op_gt (pe_ix (kx_list (K := K) rfl) (pv 0) pe_int (fun _ _ => rfl)) pe_int (nomark _))
 (pss_cons (ps_asg (pe_op op_sub (pe_ix (kx_list (K := K) rfl) (pv 0) pe_int (fun _ _ => rfl)) pe_int) (pg_sub (pv 0) pe_int set_list))
 (pss_one (ps_ret (pe_op op_mod (pe_callTy kc_int (by rfl) T.int (by decide +kernel) (pa_cons (pc C__law_mix (hr.mono (by decide)) (by rfl) (pa_cons (pe_ix (kx_list (K := K) rfl) (pv 0) pe_int (fun _ _ => rfl)) (pa_cons (pe_ix (kx_list (K := K) rfl) (pv 0) pe_int (fun _ _ => rfl)) pa_nil))) pa_nil)) (pv 1)))))
 pss_nil)
 (pss_one (ps_ret (pe_op op_mod (pe_callTy kc_int (by rfl) T.int (by decide +kernel) (pa_cons (pc C__law_mix (hr.mono (by decide)) (by rfl) (pa_cons (pc C__law_mix (hr.mono (by decide)) (by rfl) (pa_cons (pe_ix (kx_list (K := K) rfl) (pv 0) pe_int (fun _ _ => rfl)) (pa_cons (pe_ix (kx_list (K := K) rfl) (pv 0) pe_int (fun _ _ => rfl)) pa_nil))) (pa_cons (pe_ix (kx_list (K := K) rfl) (pv 0) pe_int (fun _ _ => rfl)) pa_nil))) pa_nil)) (pv 1))))))))), ?_⟩
    have hm : CDivZ 0 (max 1 m) := B.cdiv (b := 70) (by omega) (B.rng (by omega) (by omega)) (by decide)
    obtain ⟨l, ns, i1, i2, i3, i4, i5, i6, hst⟩ := h0
    have nn := hst.nn
    walk_at "g"
    refine w_cut (fun σ' H' => ∃ v, σ' = [some (.ref st), some (.int (max 1 m)), v, none] ∧ Fr st H H' ∧ St K H' st) ?_ ?_
    · walk_at "a"
      all_goals exact ⟨_, rfl, by walk_at "fr", by walk_at "st"⟩
    · rintro σ' H' ⟨v, rfl, f1, l, ns, i1, i2, i3, i4, i5, i6, hst⟩
      have nn := hst.nn
      walk_at "a"
      all_goals exact k _ _ (by walk_at "fr") (by walk_at "st") (Int.emod_nonneg _ (by omega)) (Int.emod_lt_of_pos _ (by omega))
abbrev s__law_pick : Stmt := top 26
theorem sc__law_pick : FnScope ["store", "items"] ["store", "items"] (defScope s__law_pick) := ⟨rfl, rfl, rfl, by decide +kernel, rfl, by decide +kernel, by decide +kernel⟩
set_option maxHeartbeats 4000000 in
theorem ok__law_pick {f : Addr} {fd : FuncData} (F : FunA K "_law_pick" "_law_pick" s__law_pick f fd) (T : Blt mg) (C__law_take : Cal P w K mg base "_law_take" 2 ["store", "many"] (sp__law_take K)) : FnOk P w K mg base CX0 3 f fd ["store", "items"] (sp__law_pick K) := by
  refine F.ok sc__law_pick (fun vs H Q E h => ?_) (fun cdv A outer s H vs Q E hr h => ?_)
  · obtain ⟨_, _, _, rfl, _⟩ := h
    rfl
  · obtain ⟨st, l, xs, rfl, h0, h1, h2, h3, h4, k⟩ := h
    refine ⟨_, (pss_one (ps_ret (pe_ix (kx_list (K := K) rfl) (pv 1) (pc C__law_take (hr.mono (by decide)) (by rfl) (pa_cons (pv 0) (pa_cons (pe_callB (kc_len (K := K) rfl) (by rfl) T.len (by decide +kernel) (pa_cons (pv 1) pa_nil)) pa_nil))) (fun _ _ => rfl)))), ?_⟩
    walk_at "g"
    rename_i H1 r f1 s1 r0 r1
    obtain ⟨v, ea, _, en⟩ := atI_in (xs := xs) r0 (by omega)
    refine r_ixL (Fr.seqN f1 h0 h1 h4) ea ?_
    walk_at "g"
    exact k _ _ _ (by walk_at "fr") (by walk_at "st") en
abbrev s__law_few : Stmt := top 27
theorem sc__law_few : FnScope ["store", "most", "kind"] ["store", "most"] (defScope s__law_few) := ⟨rfl, rfl, rfl, by decide +kernel, rfl, by decide +kernel, by decide +kernel⟩
set_option maxHeartbeats 4000000 in
theorem ok__law_few {f : Addr} {fd : FuncData} (F : FunA K "_law_few" "_law_few" s__law_few f fd) (T : Blt mg) (C__law_take : Cal P w K mg base "_law_take" 2 ["store", "many"] (sp__law_take K)) : FnOk P w K mg base CX0 3 f fd ["store", "most"] (sp__law_few K) := by
  refine F.ok sc__law_few (fun vs H Q E h => ?_) (fun cdv A outer s H vs Q E hr h => ?_)
  · obtain ⟨_, _, rfl, _⟩ := h
    rfl
  · obtain ⟨st, m, rfl, h0, h1, h2, k⟩ := h
    refine ⟨_, (pss_cons (ps_set (i := 2) sc__law_few.nd rfl (.inl rfl) (pc C__law_take (hr.mono (by decide)) (by rfl) (pa_cons (pv 0) (pa_cons pe_int pa_nil))))
 (pss_cons (ps_if (PW.pt (pw_or (pt_cmpR op_eq (pv 2) pe_int (nomark _)) (pw_or1 (pt_cmpR op_lt (pv 1) pe_int (nomark _)))))
 (pss_one (ps_ret pe_int))
 pss_nil)
 (pss_cons (ps_if (pt_cmpR op_eq (pv 2) pe_int (nomark _))
 (pss_one (ps_ret (pv 1)))
 pss_nil)
 (pss_one (ps_ret (pe_op op_add pe_int (pc C__law_take (hr.mono (by decide)) (by rfl) (pa_cons (pv 0) (pa_cons (pe_callB (kc_min rfl) (by rfl) T.min (by decide +kernel) (pa_cons pe_int (pa_cons (pv 1) pa_nil))) pa_nil))))))))), ?_⟩
    walk_at "a"
    all_goals exact k _ _ (by walk_at "fr") (by walk_at "st") (by omega) (by omega)
abbrev s__law_wide : Stmt := top 28
theorem sc__law_wide : FnScope ["store", "many", "found", "k"] ["store", "many"] (defScope s__law_wide) := ⟨rfl, rfl, rfl, by decide +kernel, rfl, by decide +kernel, by decide +kernel⟩
set_option maxHeartbeats 4000000 in
theorem ok__law_wide {f : Addr} {fd : FuncData} (F : FunA K "_law_wide" "_law_wide" s__law_wide f fd) (T : Blt mg) (C__law_take : Cal P w K mg base "_law_take" 2 ["store", "many"] (sp__law_take K)) : FnOk P w K mg base CX0 3 f fd ["store", "many"] (sp__law_wide K) := by
  refine F.ok sc__law_wide (fun vs H Q E h => ?_) (fun cdv A outer s H vs Q E hr h => ?_)
  · obtain ⟨_, _, rfl, _⟩ := h
    rfl
  · obtain ⟨st, m, rfl, h0, h1, h2, k⟩ := h
    refine ⟨_, (pss_cons (ps_set (i := 2) sc__law_wide.nd rfl (.inl rfl) pe_int)
 (pss_cons (ps_for PassesOwn.never rfl (pi_range1 (by rfl) T.range (pa_cons (pv 1) pa_nil)) (pg_name (i := 3) sc__law_wide.nd rfl (.inl rfl))
 (pss_one (ps_set (i := 2) sc__law_wide.nd rfl (.inl rfl) (pe_op op_add (pe_op op_mulW (pv 2) pe_int) (pc C__law_take (hr.mono (by decide)) (by rfl) (pa_cons (pv 0) (pa_cons pe_int pa_nil)))))))
 (pss_one (ps_ret (pv 2))))), ?_⟩
    walk_at "g"
    refine f_range (n := m.toNat) (fun i σ' H' => ∃ z c, σ' = [some (.ref st), some (.int m), some (.int z), c] ∧ Fr st H H' ∧ St K H' st ∧ 0 ≤ z ∧ z < 10 ^ i) ⟨_, _, rfl, by walk_at "fr", by walk_at "st", by omega, by decide⟩ ?_ ?_
    · rintro i σ' H' hi ⟨z, c, rfl, f1, s1, z0, z1⟩
      have cz : CMulW z 10 := by
        have e : (10 : Int) ^ i ≤ 10 ^ 60 := p10 (by omega)
        exact B.cmul (a := 220) (b := 10) (B.rng (by omega) (Int.lt_of_lt_of_le z1 (Int.le_trans e (by decide)))) (B.lit (by decide)) (by decide)
      walk_at "g"
      refine ⟨_, _, rfl, by walk_at "fr", by walk_at "st", by omega, ?_⟩
      rw [Int.pow_succ]
      omega
    · rintro σ' H' ⟨z, c, rfl, f1, s1, z0, z1⟩
      walk_at "g"
      exact k _ _ (by walk_at "fr") (by walk_at "st") z0 z1
abbrev s__law_integer : Stmt := top 29
theorem sc__law_integer : FnScope ["store", "kind", "found", "k"] ["store"] (defScope s__law_integer) := ⟨rfl, rfl, rfl, by decide +kernel, rfl, by decide +kernel, by decide +kernel⟩
set_option maxHeartbeats 4000000 in
theorem ok__law_integer {f : Addr} {fd : FuncData} (F : FunA K "_law_integer" "_law_integer" s__law_integer f fd) (T : Blt mg) (C__law_take : Cal P w K mg base "_law_take" 2 ["store", "many"] (sp__law_take K)) (C__law_wide : Cal P w K mg base "_law_wide" 3 ["store", "many"] (sp__law_wide K)) : FnOk P w K mg base CX0 4 f fd ["store"] (sp__law_integer K) := by
  refine F.ok sc__law_integer (fun vs H Q E h => ?_) (fun cdv A outer s H vs Q E hr h => ?_)
  · obtain ⟨_, rfl, _⟩ := h
    rfl
  · obtain ⟨st, rfl, h0, k⟩ := h
    refine ⟨_, (pss_cons (ps_set (i := 1) sc__law_integer.nd rfl (.inl rfl) (pc C__law_take (hr.mono (by decide)) (by rfl) (pa_cons (pv 0) (pa_cons pe_int pa_nil))))
 (pss_cons (ps_if (pt_cmpR op_eq (pv 1) pe_int (nomark _))
 (pss_one (ps_ret (pe_op op_sub (pc C__law_take (hr.mono (by decide)) (by rfl) (pa_cons (pv 0) (pa_cons pe_int pa_nil))) pe_int)))
 pss_nil)
 (pss_cons (ps_if (pt_cmpR op_gt (pv 1) pe_int (nomark _))
 (pss_one (ps_ret (pe_op op_sub (pc C__law_take (hr.mono (by decide)) (by rfl) (pa_cons (pv 0) (pa_cons pe_int pa_nil))) pe_int)))
 pss_nil)
 (pss_cons (ps_set (i := 2) sc__law_integer.nd rfl (.inl rfl) pe_int)
 (Evl.pss_cut (ps_if (pt_cmpR op_eq (pv 1) pe_int (nomark _))
 (pss_cons (ps_for PassesOwn.never rfl (pi_range1 (by rfl) T.range (pa_cons (pc C__law_take (hr.mono (by decide)) (by rfl) (pa_cons (pv 0) (pa_cons pe_int pa_nil))) pa_nil)) (pg_name (i := 3) sc__law_integer.nd rfl (.inl rfl))
 (pss_one (ps_set (i := 2) sc__law_integer.nd rfl (.inl rfl) (pe_op op_mulW (pv 2) pe_int))))
 (pss_one (ps_set (i := 2) sc__law_integer.nd rfl (.inl rfl) (pe_op op_sub (pe_op op_add (pv 2) (pc C__law_take (hr.mono (by decide)) (by rfl) (pa_cons (pv 0) (pa_cons pe_int pa_nil)))) pe_int))))
 (pss_one (ps_set (i := 2) sc__law_integer.nd rfl (.inl rfl) (pc C__law_wide (hr.mono (by decide)) (by rfl) (pa_cons (pv 0) (pa_cons (pe_op op_add pe_int (pc C__law_take (hr.mono (by decide)) (by rfl) (pa_cons (pv 0) (pa_cons pe_int pa_nil)))) pa_nil))))))
 (pss_cons (ps_if (pt_cmpR op_eq (pc C__law_take (hr.mono (by decide)) (by rfl) (pa_cons (pv 0) (pa_cons pe_int pa_nil))) pe_int (nomark _))
 (pss_one (ps_ret (pe_un un_neg (pv 2))))
 pss_nil)
 (pss_one (ps_ret (pv 2))))))))), ?_⟩
    walk_at "a"
    · exact k _ _ (by walk_at "fr") (by walk_at "st") (B.rng (by omega) (by omega))
    · exact k _ _ (by walk_at "fr") (by walk_at "st") (B.rng (by omega) (by omega))
    rename_i H0 kd f0 s0 k0 k6 n0 n2
    refine w_cut (fun σ' H' => ∃ z c, σ' = [some (.ref st), some (.int kd), some (.int z), c] ∧ Fr st H H' ∧ St K H' st ∧ B 134 z) ?_ ?_
    · walk_at "a"
      · rename_i H1 m f1 s1 m0 m1
        refine f_range (n := m.toNat) (fun i σ' H' => ∃ z c, σ' = [some (.ref st), some (.int kd), some (.int z), c] ∧ Fr st H H' ∧ St K H' st ∧ 0 ≤ z ∧ z ≤ 10 ^ i) ⟨_, _, rfl, by walk_at "fr", by walk_at "st", by omega, by decide⟩ ?_ ?_
        · rintro i σ' H' hi ⟨z, c, rfl, f2, s2, z0, z1⟩
          have cz : CMulW z 10 := by
            have e : (10 : Int) ^ i ≤ 10 ^ 40 := p10 (by omega)
            exact B.cmul (a := 220) (b := 10) (B.rng (by omega) (Int.lt_of_le_of_lt (Int.le_trans z1 e) (by decide))) (B.lit (by decide)) (by decide)
          walk_at "g"
          refine ⟨_, _, rfl, by walk_at "fr", by walk_at "st", by omega, ?_⟩
          rw [Int.pow_succ]
          omega
        · rintro σ' H' ⟨z, c, rfl, f2, s2, z0, z1⟩
          walk_at "g"
          have e : (10 : Int) ^ m.toNat ≤ 10 ^ 40 := p10 (by omega)
          exact ⟨_, _, rfl, by walk_at "fr", by walk_at "st", B.rng (by omega) (by have e3 : (10 : Int) ^ m.toNat ≤ 10 ^ 39 := p10 (by omega); have e2 : (10 : Int) ^ 39 + 10 < 2 ^ 134 := (by decide); omega)⟩
      · rename_i H1 m f1 s1 m0 m1 H2 r f2 s2 q0 q1
        exact ⟨_, _, rfl, by walk_at "fr", by walk_at "st", B.pow10 q0 (Int.le_of_lt q1) (by omega)⟩
    · rintro σ' H' ⟨z, c, rfl, f1, s1, bz⟩
      walk_at "a"
      all_goals exact k _ _ (by walk_at "fr") (by walk_at "st") (by walk_at "bitsK")
abbrev s__law_gcd : Stmt := top 30
theorem sc__law_gcd : FnScope ["one", "two", "rest"] ["one", "two"] (defScope s__law_gcd) := ⟨rfl, rfl, rfl, by decide +kernel, rfl, by decide +kernel, by decide +kernel⟩
set_option maxHeartbeats 4000000 in
theorem ok__law_gcd {f : Addr} {fd : FuncData} (F : FunA K "_law_gcd" "_law_gcd" s__law_gcd f fd) (T : Blt mg) : FnOk P w K mg base CX0 1 f fd ["one", "two"] (sp__law_gcd K) := by
  refine F.ok sc__law_gcd (fun vs H Q E h => ?_) (fun cdv A outer s H vs Q E hr h => ?_)
  · obtain ⟨_, _, rfl, _⟩ := h
    rfl
  · obtain ⟨x, y, rfl, k⟩ := h
    refine ⟨_, (pss_cons (ps_set (i := 0) sc__law_gcd.nd rfl (.inl rfl) (pe_callB kc_abs (by rfl) T.abs (by decide +kernel) (pa_cons (pv 0) pa_nil)))
 (pss_cons (ps_set (i := 1) sc__law_gcd.nd rfl (.inl rfl) (pe_callB kc_abs (by rfl) T.abs (by decide +kernel) (pa_cons (pv 1) pa_nil)))
 (pss_cons (ps_while PassesOwn.never (pt_cmpR op_gt (pv 1) pe_int (nomark _))
 (pss_cons (ps_set (i := 2) sc__law_gcd.nd rfl (.inl rfl) (pe_op op_mod (pe_callTy kc_int (by rfl) T.int (by decide +kernel) (pa_cons (pv 0) pa_nil)) (pv 1)))
 (pss_cons (ps_set (i := 0) sc__law_gcd.nd rfl (.inl rfl) (pv 1))
 (pss_one (ps_set (i := 1) sc__law_gcd.nd rfl (.inl rfl) (pv 2))))))
 (pss_one (ps_ret (pv 0)))))), ?_⟩
    walk_at "g"
    refine w_seqW (fun m σ' H' => ∃ a b c, σ' = [some (.int a), some (.int b), c] ∧ Same H H' ∧ 0 ≤ a ∧ 0 ≤ b ∧ m = b.toNat ∧ Nat.gcd a.natAbs b.natAbs = Nat.gcd x.natAbs y.natAbs) _ ⟨_, _, _, rfl, by walk_at "same", by omega, by omega, rfl, by simp⟩ ?_
    rintro m σ' H' ⟨a, b, c, rfl, s1, a0, b0, rfl, e⟩
    walk_at "g"
    refine r_whP (fun hb => ?_) (fun hb => ?_)
    · have hb' : 0 < b := of_decide_eq_true hb
      walk_at "g"
      have h1 := Int.emod_nonneg a (b := b) (by omega)
      have h2 := Int.emod_lt_of_pos a hb'
      refine ⟨(a % b).toNat, by omega, _, _, _, rfl, by walk_at "same", by omega, by omega, rfl, ?_⟩
      rw [← e]
      obtain ⟨n, rfl⟩ := Int.eq_ofNat_of_zero_le a0
      obtain ⟨m, rfl⟩ := Int.eq_ofNat_of_zero_le b0
      have e3 : ((n : Int) % (m : Int)).natAbs = n % m := by
        rw [← Int.natCast_emod]
        rfl
      rw [e3]
      show Nat.gcd m (n % m) = Nat.gcd n m
      rw [Nat.gcd_comm n m, Nat.gcd_rec m n, Nat.gcd_comm]
    · have hb' : ¬ 0 < b := of_decide_eq_false hb
      walk_at "g"
      have e0 : b = 0 := by omega
      subst e0
      have e1 : a = ((Nat.gcd x.natAbs y.natAbs : Nat) : Int) := by
        rw [← e]
        simp
        omega
      rw [e1]
      exact k _ (by walk_at "same")
abbrev s__law_text : Stmt := top 31
theorem sc__law_text : FnScope ["store", "most", "chars", "many", "k"] ["store", "most"] (defScope s__law_text) := ⟨rfl, rfl, rfl, by decide +kernel, rfl, by decide +kernel, by decide +kernel⟩
set_option maxHeartbeats 4000000 in
theorem ok__law_text {f : Addr} {fd : FuncData} (F : FunA K "_law_text" "_law_text" s__law_text f fd) (T : Blt mg) (C__law_few : Cal P w K mg base "_law_few" 3 ["store", "most"] (sp__law_few K)) (C__law_take : Cal P w K mg base "_law_take" 2 ["store", "many"] (sp__law_take K)) : FnOk P w K mg base CX0 4 f fd ["store", "most"] (sp__law_text K) := by
  refine F.ok sc__law_text (fun vs H Q E h => ?_) (fun cdv A outer s H vs Q E hr h => ?_)
  · obtain ⟨_, _, rfl, _⟩ := h
    rfl
  · obtain ⟨st, n, rfl, h0, h1, h2, k⟩ := h
    refine ⟨_, (pss_cons (ps_set (i := 2) sc__law_text.nd rfl (.inr rfl) pe_str)
 (pss_cons (ps_set (i := 2) sc__law_text.nd rfl (.inr rfl) (pe_op ko_catX (pv 2) pe_str))
 (pss_cons (ps_set (i := 3) sc__law_text.nd rfl (.inl rfl) (pc C__law_few (hr.mono (by decide)) (by rfl) (pa_cons (pv 0) (pa_cons (pv 1) pa_nil))))
 (pss_cons (ps_if (pt_cmpR op_eq (pc C__law_take (hr.mono (by decide)) (by rfl) (pa_cons (pv 0) (pa_cons pe_int pa_nil))) pe_int (nomark _))
 (pss_one (ps_ret (pe_op ko_mulS (pe_ix kx_chr (pv 2) (pc C__law_take (hr.mono (by decide)) (by rfl) (pa_cons (pv 0) (pa_cons pe_int pa_nil))) (fun _ _ => rfl)) (pv 3))))
 pss_nil)
 (pss_one (ps_ret (kj_join (K := K) rfl pe_str (pe_lc (own := [("k", 4)]) rfl sc__law_text.nd (pi_range1 (by rfl) T.range (pa_cons (pv 3) pa_nil)) (blkOk_by (own := [("k", 4)]) (N := ["store", "most", "chars", "many", "k"]) (sc := defScope s__law_text) (by decide +kernel)) (fun _ _ _ _ _ => (pg_name (i := 4) sc__law_text.nd rfl (.inl rfl))) (fun _ _ _ _ _ => pts_nil) (fun _ _ _ _ _ => (pe_ix kx_chr (pv 2) (pc C__law_take (hr.mono (by decide)) (by rfl) (pa_cons (pv 0) (pa_cons pe_int pa_nil))) (fun _ _ => rfl))))))))))), ?_⟩
    walk_at "g"
    refine r_catXn (n := 95) (by decide +kernel) (by decide +kernel) (fun z hz => ?_)
    walk_at "g"
    rename_i H1 m f1 s1 m0 m1 H2 r f2 s2 r0 r1
    refine if_eqI (fun _ => ?_) (fun _ => ?_)
    · walk_at "g"
      rename_i H3 x f3 s3 x0 x1
      refine r_ixCh hz x0 (by omega) (by decide) (fun c => ?_)
      walk_at "g"
      refine r_mulS (by omega) (by omega) (fun y => ?_)
      walk_at "g"
      exact k _ _ (by walk_at "fr") (by walk_at "st")
    · walk_at "g"
      refine w_join ?_
      walk_at "g"
      refine ⟨⟨_, rfl⟩, ?_⟩
      walk_at "g"
      intro Da hD
      have LG := lcG_go (K := K) (s := st) (J := fun i acc _ => ∃ ys : List Str, acc = ys.map V.str ∧ ys.length = i ∧ ∀ y, y ∈ ys → y.length = 1) hD (by walk_at "st") (fun _ _ _ _ _ h => h)
      refine lc_rngG (K := K) (n := m.toNat) LG (go_new hD (by walk_at "st")) ⟨[], rfl, rfl, fun _ h => by cases h⟩ (fun _ => rfl) ?_ ?_
      · intro i acc H5 hi ha hD5 g ej
        obtain ⟨fg, sg⟩ := g
        obtain ⟨ys, rfl, hys, by1⟩ := ej
        have hx : ((ys.map V.str).length == 7) = false := by rw [ha]; simp; omega
        walk_at "g"
        rename_i H6 x f6 s6 x0 x1
        refine r_ixCh hz x0 (by omega) (by decide) (fun c => ?_)
        exact r_lcQ (K := K) LG (by omega) ha (Fr.lst f6 sg hD5 hx) ⟨by walk_at "fr", by walk_at "st"⟩ ⟨ys ++ [⟨#[c]⟩], by simp, by simp [hys], fun y hy => by
          rcases List.mem_append.mp hy with q | q
          · exact by1 y q
          · rw [List.mem_singleton.mp q]; rfl⟩
      · rintro acc H5 ha hD5 ⟨fg, sg⟩ ⟨ys, rfl, hys, by1⟩
        refine r_join (SqL.of hD5) ?_ (fun y => ?_)
        · have : ∀ zs : List Str, (∀ y, y ∈ zs → y.length = 1) → (zs.map (·.length)).sum = zs.length := by
            intro zs
            induction zs with
            | nil => intro _; rfl
            | cons a t ih => intro h; simp only [List.map_cons, List.sum_cons, List.length_cons]; rw [h a (by simp), ih (fun y hy => h y (by simp [hy]))]; omega
          rw [this ys by1, show Str.length (Str.ofString "") = 0 from rfl]
          omega
        walk_at "g"
        exact k _ _ (by walk_at "fr") (by walk_at "st")
abbrev s__law_is_integer : Stmt := top 32
theorem sc__law_is_integer : FnScope ["value"] ["value"] (defScope s__law_is_integer) := ⟨rfl, rfl, rfl, by decide +kernel, rfl, by decide +kernel, by decide +kernel⟩
set_option maxHeartbeats 4000000 in
theorem ok__law_is_integer {f : Addr} {fd : FuncData} (F : FunA K "_law_is_integer" "_law_is_integer" s__law_is_integer f fd) (T : Blt mg) : FnOk P w K mg base CX0 1 f fd ["value"] (sp__law_is_integer K) := by
  refine F.ok sc__law_is_integer (fun vs H Q E h => ?_) (fun cdv A outer s H vs Q E hr h => ?_)
  · obtain ⟨_, rfl, _⟩ := h
    rfl
  · obtain ⟨x, rfl, k⟩ := h
    refine ⟨_, (pss_one (ps_ret (pe_and (pe_callB (kc_isi (K := K) rfl) (by rfl) T.isinstance (by decide +kernel) (pa_cons (pv 0) (pa_cons (pe_bltn (v := .ty "int") (u := .type "int") (by rfl) T.int (by decide +kernel) rfl) pa_nil))) (pe_one (pe_not (pe_callB (kc_isi (K := K) rfl) (by rfl) T.isinstance (by decide +kernel) (pa_cons (pv 0) (pa_cons (pe_bltn (v := .ty "bool") (u := .type "bool") (by rfl) T.bool (by decide +kernel) rfl) pa_nil)))))))), ?_⟩
    walk_at "a"
    exact k _ (by walk_at "same")
abbrev s__law_error : Stmt := top 33
theorem sc__law_error : FnScope ["e", "found", "k"] ["e"] (defScope s__law_error) := ⟨rfl, rfl, rfl, by decide +kernel, rfl, by decide +kernel, by decide +kernel⟩
set_option maxHeartbeats 4000000 in
theorem ok__law_error_E_ZeroDenominator {f : Addr} {fd : FuncData} (F : FunA K "_law_error" "_law_error" s__law_error f fd) (T : Blt mg) {ec : Ecl} (EC : EF K mg ec) : FnE P w K mg base CX0 1 ec.c_ZeroDenominator f fd ["e"] (sp__law_error_E_ZeroDenominator K ec) := by
  refine F.okE sc__law_error rfl (fun cdv A outer s H Q E p hot hcls hr h => ?_)
  obtain ⟨a, e_, k⟩ := h
  cases e_
  obtain ⟨hh_, vs_, hv_, _⟩ := id hot
  have hfld : ∃ vs, p.2.data = .fields vs := ⟨vs_, hv_⟩
  have qi_ZeroDenominator_SpaceError := EC.i_ZeroDenominator_SpaceError
  have qi_ZeroDenominator_TextFault := EC.i_ZeroDenominator_TextFault
  have qi_ZeroDenominator_RunFault := EC.i_ZeroDenominator_RunFault
  have qi_ZeroDenominator_BadRow := EC.i_ZeroDenominator_BadRow
  have qi_ZeroDenominator_ZeroDenominator := EC.i_ZeroDenominator_ZeroDenominator
  have qi_ZeroDenominator_NoNormal := EC.i_ZeroDenominator_NoNormal
  have qi_ZeroDenominator_InLine := EC.i_ZeroDenominator_InLine
  have qi_ZeroDenominator_Flat := EC.i_ZeroDenominator_Flat
  have qi_ZeroDenominator_BadPolygon := EC.i_ZeroDenominator_BadPolygon
  have qi_ZeroDenominator_Singular := EC.i_ZeroDenominator_Singular
  have qi_ZeroDenominator_NoDirection := EC.i_ZeroDenominator_NoDirection
  have qi_ZeroDenominator_BadPath := EC.i_ZeroDenominator_BadPath
  have qi_ZeroDenominator_TooLarge := EC.i_ZeroDenominator_TooLarge
  have qi_ZeroDenominator_BadOrder := EC.i_ZeroDenominator_BadOrder
  have qi_ZeroDenominator_Unbounded := EC.i_ZeroDenominator_Unbounded
  have qi_ZeroDenominator_NoParting := EC.i_ZeroDenominator_NoParting
  have qi_ZeroDenominator_NothingToUndo := EC.i_ZeroDenominator_NothingToUndo
  have qv_ZeroDenominator := EC.v_ZeroDenominator
  refine ⟨_, (pss_cons (ps_set (i := 1) sc__law_error.nd rfl (.inr rfl) (pe_lst (pa_cons (pe_callB (kc_isP (K := K) rfl (p := p) (List.mem_singleton.mpr rfl) EC.x_ZeroDenominator hcls.1 hcls.2 hfld) (by rfl) T.isinstance (by decide +kernel) (pa_cons (pv 0) (pa_cons (pe_glob (v := .ref ec.c_TextFault) (by rfl) EC.g_TextFault rfl) pa_nil))) (pa_cons (pe_callB (kc_isP (K := K) rfl (p := p) (List.mem_singleton.mpr rfl) EC.x_ZeroDenominator hcls.1 hcls.2 hfld) (by rfl) T.isinstance (by decide +kernel) (pa_cons (pv 0) (pa_cons (pe_glob (v := .ref ec.c_RunFault) (by rfl) EC.g_RunFault rfl) pa_nil))) (pa_cons (pe_callB (kc_isP (K := K) rfl (p := p) (List.mem_singleton.mpr rfl) EC.x_ZeroDenominator hcls.1 hcls.2 hfld) (by rfl) T.isinstance (by decide +kernel) (pa_cons (pv 0) (pa_cons (pe_glob (v := .ref ec.c_BadRow) (by rfl) EC.g_BadRow rfl) pa_nil))) (pa_cons (pe_callB (kc_isP (K := K) rfl (p := p) (List.mem_singleton.mpr rfl) EC.x_ZeroDenominator hcls.1 hcls.2 hfld) (by rfl) T.isinstance (by decide +kernel) (pa_cons (pv 0) (pa_cons (pe_glob (v := .ref ec.c_ZeroDenominator) (by rfl) EC.g_ZeroDenominator rfl) pa_nil))) pa_nil))))))
 (pss_cons (ps_set (i := 1) sc__law_error.nd rfl (.inr rfl) (pe_op op_cat (pv 1) (pe_lst (pa_cons (pe_callB (kc_isP (K := K) rfl (p := p) (List.mem_singleton.mpr rfl) EC.x_ZeroDenominator hcls.1 hcls.2 hfld) (by rfl) T.isinstance (by decide +kernel) (pa_cons (pv 0) (pa_cons (pe_glob (v := .ref ec.c_NoNormal) (by rfl) EC.g_NoNormal rfl) pa_nil))) (pa_cons (pe_callB (kc_isP (K := K) rfl (p := p) (List.mem_singleton.mpr rfl) EC.x_ZeroDenominator hcls.1 hcls.2 hfld) (by rfl) T.isinstance (by decide +kernel) (pa_cons (pv 0) (pa_cons (pe_glob (v := .ref ec.c_InLine) (by rfl) EC.g_InLine rfl) pa_nil))) (pa_cons (pe_callB (kc_isP (K := K) rfl (p := p) (List.mem_singleton.mpr rfl) EC.x_ZeroDenominator hcls.1 hcls.2 hfld) (by rfl) T.isinstance (by decide +kernel) (pa_cons (pv 0) (pa_cons (pe_glob (v := .ref ec.c_Flat) (by rfl) EC.g_Flat rfl) pa_nil))) (pa_cons (pe_callB (kc_isP (K := K) rfl (p := p) (List.mem_singleton.mpr rfl) EC.x_ZeroDenominator hcls.1 hcls.2 hfld) (by rfl) T.isinstance (by decide +kernel) (pa_cons (pv 0) (pa_cons (pe_glob (v := .ref ec.c_BadPolygon) (by rfl) EC.g_BadPolygon rfl) pa_nil))) pa_nil)))))))
 (pss_cons (ps_set (i := 1) sc__law_error.nd rfl (.inr rfl) (pe_op op_cat (pv 1) (pe_lst (pa_cons (pe_callB (kc_isP (K := K) rfl (p := p) (List.mem_singleton.mpr rfl) EC.x_ZeroDenominator hcls.1 hcls.2 hfld) (by rfl) T.isinstance (by decide +kernel) (pa_cons (pv 0) (pa_cons (pe_glob (v := .ref ec.c_Singular) (by rfl) EC.g_Singular rfl) pa_nil))) (pa_cons (pe_callB (kc_isP (K := K) rfl (p := p) (List.mem_singleton.mpr rfl) EC.x_ZeroDenominator hcls.1 hcls.2 hfld) (by rfl) T.isinstance (by decide +kernel) (pa_cons (pv 0) (pa_cons (pe_glob (v := .ref ec.c_NoDirection) (by rfl) EC.g_NoDirection rfl) pa_nil))) (pa_cons (pe_callB (kc_isP (K := K) rfl (p := p) (List.mem_singleton.mpr rfl) EC.x_ZeroDenominator hcls.1 hcls.2 hfld) (by rfl) T.isinstance (by decide +kernel) (pa_cons (pv 0) (pa_cons (pe_glob (v := .ref ec.c_BadPath) (by rfl) EC.g_BadPath rfl) pa_nil))) pa_nil))))))
 (pss_cons (ps_set (i := 1) sc__law_error.nd rfl (.inr rfl) (pe_op op_cat (pv 1) (pe_lst (pa_cons (pe_callB (kc_isP (K := K) rfl (p := p) (List.mem_singleton.mpr rfl) EC.x_ZeroDenominator hcls.1 hcls.2 hfld) (by rfl) T.isinstance (by decide +kernel) (pa_cons (pv 0) (pa_cons (pe_glob (v := .ref ec.c_TooLarge) (by rfl) EC.g_TooLarge rfl) pa_nil))) (pa_cons (pe_callB (kc_isP (K := K) rfl (p := p) (List.mem_singleton.mpr rfl) EC.x_ZeroDenominator hcls.1 hcls.2 hfld) (by rfl) T.isinstance (by decide +kernel) (pa_cons (pv 0) (pa_cons (pe_glob (v := .ref ec.c_BadOrder) (by rfl) EC.g_BadOrder rfl) pa_nil))) (pa_cons (pe_callB (kc_isP (K := K) rfl (p := p) (List.mem_singleton.mpr rfl) EC.x_ZeroDenominator hcls.1 hcls.2 hfld) (by rfl) T.isinstance (by decide +kernel) (pa_cons (pv 0) (pa_cons (pe_glob (v := .ref ec.c_Unbounded) (by rfl) EC.g_Unbounded rfl) pa_nil))) pa_nil))))))
 (pss_cons (ps_set (i := 1) sc__law_error.nd rfl (.inr rfl) (pe_op op_cat (pv 1) (pe_lst (pa_cons (pe_callB (kc_isP (K := K) rfl (p := p) (List.mem_singleton.mpr rfl) EC.x_ZeroDenominator hcls.1 hcls.2 hfld) (by rfl) T.isinstance (by decide +kernel) (pa_cons (pv 0) (pa_cons (pe_glob (v := .ref ec.c_NoParting) (by rfl) EC.g_NoParting rfl) pa_nil))) (pa_cons (pe_callB (kc_isP (K := K) rfl (p := p) (List.mem_singleton.mpr rfl) EC.x_ZeroDenominator hcls.1 hcls.2 hfld) (by rfl) T.isinstance (by decide +kernel) (pa_cons (pv 0) (pa_cons (pe_glob (v := .ref ec.c_NothingToUndo) (by rfl) EC.g_NothingToUndo rfl) pa_nil))) pa_nil)))))
 (pss_one (ps_ret (lc_hot (p := p) hot (List.mem_singleton.mpr rfl) (own := [("k", 2)]) sc__law_error.nd (L2H.pi_range1H (by rfl) T.range (pa_cons pe_int pa_nil)) (blkOk_by (own := [("k", 2)]) (N := ["e", "found", "k"]) (sc := defScope s__law_error) (by decide +kernel)) (fun _ _ _ _ _ => (pg_name (i := 2) sc__law_error.nd rfl (.inl rfl))) (fun _ _ _ _ _ => (pts_one (pt_val (pe_ix (kx_list (K := K) rfl) (pv 1) (pv 2) (fun _ _ => rfl))))) (fun _ _ _ _ _ => (pv 2)))))))))), ?_⟩
  walk_at "g"
  rename_i l Hl nl sl hl
  intro D hD
  refine lc_rngF (n := 16) (fun i => decide (i = 3)) (fun _ => rfl) (by decide) hD ?_ ?_ ?_
  · intro i H1 R hi e r
    have hl1 := SqL.of (K := K) (e _ _ hl)
    obtain rfl | rfl | rfl | rfl | rfl | rfl | rfl | rfl | rfl | rfl | rfl | rfl | rfl | rfl | rfl | rfl : i = 0 ∨ i = 1 ∨ i = 2 ∨ i = 3 ∨ i = 4 ∨ i = 5 ∨ i = 6 ∨ i = 7 ∨ i = 8 ∨ i = 9 ∨ i = 10 ∨ i = 11 ∨ i = 12 ∨ i = 13 ∨ i = 14 ∨ i = 15 := by omega
    all_goals
      walk_at "g"
      exact r
  · intro i H1 R hi e r
    walk_at "g"
    exact r
  · intro H1 e h1
    exact k _ _ (by walk_at "same") h1
set_option maxHeartbeats 4000000 in
theorem ok__law_error_V_E {f : Addr} {fd : FuncData} (F : FunA K "_law_error" "_law_error" s__law_error f fd) (T : Blt mg) {ec : Ecl} (EC : EF K mg ec) : FnOk P w K mg base CX0 1 f fd ["e"] (sp__law_error_V_E K ec) := by
  refine F.ok sc__law_error (fun vs H Q E h => ?_) (fun cdv A outer s H vs Q E hr h => ?_)
  · obtain ⟨_, _, _, _, rfl, _⟩ := h
    rfl
  · obtain ⟨a, D, d, n, rfl, h0, h1, h2, h3, k⟩ := h
    refine ⟨_, (pss_cons (ps_set (i := 1) sc__law_error.nd rfl (.inr rfl) (pe_lst (pa_cons (pe_callB (kc_isO (K := K) rfl) (by rfl) T.isinstance (by decide +kernel) (pa_cons (pv 0) (pa_cons (pe_glob (v := .ref ec.c_TextFault) (by rfl) EC.g_TextFault rfl) pa_nil))) (pa_cons (pe_callB (kc_isO (K := K) rfl) (by rfl) T.isinstance (by decide +kernel) (pa_cons (pv 0) (pa_cons (pe_glob (v := .ref ec.c_RunFault) (by rfl) EC.g_RunFault rfl) pa_nil))) (pa_cons (pe_callB (kc_isO (K := K) rfl) (by rfl) T.isinstance (by decide +kernel) (pa_cons (pv 0) (pa_cons (pe_glob (v := .ref ec.c_BadRow) (by rfl) EC.g_BadRow rfl) pa_nil))) (pa_cons (pe_callB (kc_isO (K := K) rfl) (by rfl) T.isinstance (by decide +kernel) (pa_cons (pv 0) (pa_cons (pe_glob (v := .ref ec.c_ZeroDenominator) (by rfl) EC.g_ZeroDenominator rfl) pa_nil))) pa_nil))))))
 (pss_cons (ps_set (i := 1) sc__law_error.nd rfl (.inr rfl) (pe_op op_cat (pv 1) (pe_lst (pa_cons (pe_callB (kc_isO (K := K) rfl) (by rfl) T.isinstance (by decide +kernel) (pa_cons (pv 0) (pa_cons (pe_glob (v := .ref ec.c_NoNormal) (by rfl) EC.g_NoNormal rfl) pa_nil))) (pa_cons (pe_callB (kc_isO (K := K) rfl) (by rfl) T.isinstance (by decide +kernel) (pa_cons (pv 0) (pa_cons (pe_glob (v := .ref ec.c_InLine) (by rfl) EC.g_InLine rfl) pa_nil))) (pa_cons (pe_callB (kc_isO (K := K) rfl) (by rfl) T.isinstance (by decide +kernel) (pa_cons (pv 0) (pa_cons (pe_glob (v := .ref ec.c_Flat) (by rfl) EC.g_Flat rfl) pa_nil))) (pa_cons (pe_callB (kc_isO (K := K) rfl) (by rfl) T.isinstance (by decide +kernel) (pa_cons (pv 0) (pa_cons (pe_glob (v := .ref ec.c_BadPolygon) (by rfl) EC.g_BadPolygon rfl) pa_nil))) pa_nil)))))))
 (pss_cons (ps_set (i := 1) sc__law_error.nd rfl (.inr rfl) (pe_op op_cat (pv 1) (pe_lst (pa_cons (pe_callB (kc_isO (K := K) rfl) (by rfl) T.isinstance (by decide +kernel) (pa_cons (pv 0) (pa_cons (pe_glob (v := .ref ec.c_Singular) (by rfl) EC.g_Singular rfl) pa_nil))) (pa_cons (pe_callB (kc_isO (K := K) rfl) (by rfl) T.isinstance (by decide +kernel) (pa_cons (pv 0) (pa_cons (pe_glob (v := .ref ec.c_NoDirection) (by rfl) EC.g_NoDirection rfl) pa_nil))) (pa_cons (pe_callB (kc_isO (K := K) rfl) (by rfl) T.isinstance (by decide +kernel) (pa_cons (pv 0) (pa_cons (pe_glob (v := .ref ec.c_BadPath) (by rfl) EC.g_BadPath rfl) pa_nil))) pa_nil))))))
 (pss_cons (ps_set (i := 1) sc__law_error.nd rfl (.inr rfl) (pe_op op_cat (pv 1) (pe_lst (pa_cons (pe_callB (kc_isO (K := K) rfl) (by rfl) T.isinstance (by decide +kernel) (pa_cons (pv 0) (pa_cons (pe_glob (v := .ref ec.c_TooLarge) (by rfl) EC.g_TooLarge rfl) pa_nil))) (pa_cons (pe_callB (kc_isO (K := K) rfl) (by rfl) T.isinstance (by decide +kernel) (pa_cons (pv 0) (pa_cons (pe_glob (v := .ref ec.c_BadOrder) (by rfl) EC.g_BadOrder rfl) pa_nil))) (pa_cons (pe_callB (kc_isO (K := K) rfl) (by rfl) T.isinstance (by decide +kernel) (pa_cons (pv 0) (pa_cons (pe_glob (v := .ref ec.c_Unbounded) (by rfl) EC.g_Unbounded rfl) pa_nil))) pa_nil))))))
 (pss_cons (ps_set (i := 1) sc__law_error.nd rfl (.inr rfl) (pe_op op_cat (pv 1) (pe_lst (pa_cons (pe_callB (kc_isO (K := K) rfl) (by rfl) T.isinstance (by decide +kernel) (pa_cons (pv 0) (pa_cons (pe_glob (v := .ref ec.c_NoParting) (by rfl) EC.g_NoParting rfl) pa_nil))) (pa_cons (pe_callB (kc_isO (K := K) rfl) (by rfl) T.isinstance (by decide +kernel) (pa_cons (pv 0) (pa_cons (pe_glob (v := .ref ec.c_NothingToUndo) (by rfl) EC.g_NothingToUndo rfl) pa_nil))) pa_nil)))))
 (pss_one (ps_ret (pe_lc (own := [("k", 2)]) rfl sc__law_error.nd (pi_range1 (by rfl) T.range (pa_cons pe_int pa_nil)) (blkOk_by (own := [("k", 2)]) (N := ["e", "found", "k"]) (sc := defScope s__law_error) (by decide +kernel)) (fun _ _ _ _ _ => (pg_name (i := 2) sc__law_error.nd rfl (.inl rfl))) (fun _ _ _ _ _ => (pts_one (pt_val (pe_ix (kx_list (K := K) rfl) (pv 1) (pv 2) (fun _ _ => rfl))))) (fun _ _ _ _ _ => (pv 2)))))))))), ?_⟩
    obtain ⟨hx, hv, t0, t1, t2, t3, t4, t5, t6, t7, t8, t9, t10, t11, t12, t13, t14, t15, t16⟩ := h2
    walk_at "g"
    refine r_isO hx ((show Same H _ by walk_at "same") _ _ h0) (fun dd e => (h1 dd e).imp fun fs q => (show Same H _ by walk_at "same") _ _ q) t0 ?_
    walk_at "g"
    refine r_isO hx ((show Same H _ by walk_at "same") _ _ h0) (fun dd e => (h1 dd e).imp fun fs q => (show Same H _ by walk_at "same") _ _ q) t1 ?_
    walk_at "g"
    refine r_isO hx ((show Same H _ by walk_at "same") _ _ h0) (fun dd e => (h1 dd e).imp fun fs q => (show Same H _ by walk_at "same") _ _ q) t2 ?_
    walk_at "g"
    refine r_isO hx ((show Same H _ by walk_at "same") _ _ h0) (fun dd e => (h1 dd e).imp fun fs q => (show Same H _ by walk_at "same") _ _ q) t3 ?_
    walk_at "g"
    refine r_isO hx ((show Same H _ by walk_at "same") _ _ h0) (fun dd e => (h1 dd e).imp fun fs q => (show Same H _ by walk_at "same") _ _ q) t4 ?_
    walk_at "g"
    refine r_isO hx ((show Same H _ by walk_at "same") _ _ h0) (fun dd e => (h1 dd e).imp fun fs q => (show Same H _ by walk_at "same") _ _ q) t5 ?_
    walk_at "g"
    refine r_isO hx ((show Same H _ by walk_at "same") _ _ h0) (fun dd e => (h1 dd e).imp fun fs q => (show Same H _ by walk_at "same") _ _ q) t6 ?_
    walk_at "g"
    refine r_isO hx ((show Same H _ by walk_at "same") _ _ h0) (fun dd e => (h1 dd e).imp fun fs q => (show Same H _ by walk_at "same") _ _ q) t7 ?_
    walk_at "g"
    refine r_isO hx ((show Same H _ by walk_at "same") _ _ h0) (fun dd e => (h1 dd e).imp fun fs q => (show Same H _ by walk_at "same") _ _ q) t8 ?_
    walk_at "g"
    refine r_isO hx ((show Same H _ by walk_at "same") _ _ h0) (fun dd e => (h1 dd e).imp fun fs q => (show Same H _ by walk_at "same") _ _ q) t9 ?_
    walk_at "g"
    refine r_isO hx ((show Same H _ by walk_at "same") _ _ h0) (fun dd e => (h1 dd e).imp fun fs q => (show Same H _ by walk_at "same") _ _ q) t10 ?_
    walk_at "g"
    refine r_isO hx ((show Same H _ by walk_at "same") _ _ h0) (fun dd e => (h1 dd e).imp fun fs q => (show Same H _ by walk_at "same") _ _ q) t11 ?_
    walk_at "g"
    refine r_isO hx ((show Same H _ by walk_at "same") _ _ h0) (fun dd e => (h1 dd e).imp fun fs q => (show Same H _ by walk_at "same") _ _ q) t12 ?_
    walk_at "g"
    refine r_isO hx ((show Same H _ by walk_at "same") _ _ h0) (fun dd e => (h1 dd e).imp fun fs q => (show Same H _ by walk_at "same") _ _ q) t13 ?_
    walk_at "g"
    refine r_isO hx ((show Same H _ by walk_at "same") _ _ h0) (fun dd e => (h1 dd e).imp fun fs q => (show Same H _ by walk_at "same") _ _ q) t14 ?_
    walk_at "g"
    refine r_isO hx ((show Same H _ by walk_at "same") _ _ h0) (fun dd e => (h1 dd e).imp fun fs q => (show Same H _ by walk_at "same") _ _ q) t15 ?_
    walk_at "g"
    rename_i l Hl nl sl hl
    intro D' hD
    refine lc_rngF (n := 16) (fun i => decide (n = i)) (fun _ => rfl) (by decide) hD ?_ ?_ ?_
    · intro i H1 R hi e r
      have hl1 := SqL.of (K := K) (e _ _ hl)
      obtain rfl | rfl | rfl | rfl | rfl | rfl | rfl | rfl | rfl | rfl | rfl | rfl | rfl | rfl | rfl | rfl : i = 0 ∨ i = 1 ∨ i = 2 ∨ i = 3 ∨ i = 4 ∨ i = 5 ∨ i = 6 ∨ i = 7 ∨ i = 8 ∨ i = 9 ∨ i = 10 ∨ i = 11 ∨ i = 12 ∨ i = 13 ∨ i = 14 ∨ i = 15 := by omega
      all_goals
        walk_at "g"
        exact r
    · intro i H1 R hi e r
      walk_at "g"
      exact r
    · intro H1 e hh
      have en : n = 0 ∨ n = 1 ∨ n = 2 ∨ n = 3 ∨ n = 4 ∨ n = 5 ∨ n = 6 ∨ n = 7 ∨ n = 8 ∨ n = 9 ∨ n = 10 ∨ n = 11 ∨ n = 12 ∨ n = 13 ∨ n = 14 ∨ n = 15 ∨ n = 16 := by omega
      have s9 : Same H Hl := by walk_at "same"
      clear hl sl nl
      obtain rfl | rfl | rfl | rfl | rfl | rfl | rfl | rfl | rfl | rfl | rfl | rfl | rfl | rfl | rfl | rfl | rfl := en
      all_goals exact k _ _ (s9.trans e) hh
abbrev s__law_holds_what : Stmt := top 34
theorem sc__law_holds_what : FnScope ["numbers", "words", "one", "two", "three", "four", "five"] ["numbers", "words"] (defScope s__law_holds_what) := ⟨rfl, rfl, rfl, by decide +kernel, rfl, by decide +kernel, by decide +kernel⟩
set_option maxHeartbeats 4000000 in
theorem ok__law_holds_what {f : Addr} {fd : FuncData} (F : FunA K "_law_holds_what" "_law_holds_what" s__law_holds_what f fd) (T : Blt mg) {ec : Ecl} (EC : EF K mg ec) (O_TextFault : OCl P w K mg base "TextFault" ec.c_TextFault ["line", "place"]) (O_RunFault : OCl P w K mg base "RunFault" ec.c_RunFault ["line", "place", "why"]) (O_BadRow : OCl P w K mg base "BadRow" ec.c_BadRow ["number"]) (O_TooLarge : OCl P w K mg base "TooLarge" ec.c_TooLarge ["what"]) (O_NoParting : OCl P w K mg base "NoParting" ec.c_NoParting ["why"]) (KO_TextFault_place_line : KOCl P w K mg base "TextFault" ec.c_TextFault ["line", "place"] ["place", "line"] [2, 1]) (KO_RunFault_why_place_line : KOCl P w K mg base "RunFault" ec.c_RunFault ["line", "place", "why"] ["why", "place", "line"] [3, 2, 1]) (KO_BadRow_number : KOCl P w K mg base "BadRow" ec.c_BadRow ["number"] ["number"] [1]) (KO_TooLarge_what : KOCl P w K mg base "TooLarge" ec.c_TooLarge ["what"] ["what"] [1]) (KO_NoParting_why : KOCl P w K mg base "NoParting" ec.c_NoParting ["why"] ["why"] [1]) : FnOk P w K mg base CX0 3 f fd ["numbers", "words"] (sp__law_holds_what K) := by
  refine F.ok sc__law_holds_what (fun vs H Q E h => ?_) (fun cdv A outer s H vs Q E hr h => ?_)
  · obtain ⟨_, _, _, _, _, _, _, rfl, _⟩ := h
    rfl
  · obtain ⟨l, m, n0, n1, n2, w0, w1, rfl, h0, h1, k⟩ := h
    refine ⟨_, (pss_cons (ps_set (i := 2) sc__law_holds_what.nd rfl (.inl rfl) (pOx O_TextFault (hr.mono (by decide)) (by rfl) (pa_cons (pe_ix (kx_list (K := K) rfl) (pv 0) pe_int (fun _ _ => rfl)) (pa_cons (pe_ix (kx_list (K := K) rfl) (pv 0) pe_int (fun _ _ => rfl)) pa_nil))))
 (pss_cons (ps_set (i := 3) sc__law_holds_what.nd rfl (.inl rfl) (pOx O_RunFault (hr.mono (by decide)) (by rfl) (pa_cons (pe_ix (kx_list (K := K) rfl) (pv 0) pe_int (fun _ _ => rfl)) (pa_cons (pe_ix (kx_list (K := K) rfl) (pv 0) pe_int (fun _ _ => rfl)) (pa_cons (pe_ix (kx_list (K := K) rfl) (pv 1) pe_int (fun _ _ => rfl)) pa_nil)))))
 (pss_cons (ps_set (i := 4) sc__law_holds_what.nd rfl (.inl rfl) (pOx O_BadRow (hr.mono (by decide)) (by rfl) (pa_cons (pe_ix (kx_list (K := K) rfl) (pv 0) pe_int (fun _ _ => rfl)) pa_nil)))
 (pss_cons (ps_set (i := 5) sc__law_holds_what.nd rfl (.inl rfl) (pOx O_TooLarge (hr.mono (by decide)) (by rfl) (pa_cons (pe_ix (kx_list (K := K) rfl) (pv 1) pe_int (fun _ _ => rfl)) pa_nil)))
 (pss_cons (ps_set (i := 6) sc__law_holds_what.nd rfl (.inl rfl) (pOx O_NoParting (hr.mono (by decide)) (by rfl) (pa_cons (pe_ix (kx_list (K := K) rfl) (pv 1) pe_int (fun _ _ => rfl)) pa_nil)))
 (pss_cons (ps_if (PW.pt (pw_or (pt_cmpR op_ne (pe_oxfK (K := K) rfl (pv 2)) (pe_ix (kx_list (K := K) rfl) (pv 0) pe_int (fun _ _ => rfl)) (nomark _)) (pw_or (pt_cmpR op_ne (pe_oxfK (K := K) rfl (pv 2)) (pe_ix (kx_list (K := K) rfl) (pv 0) pe_int (fun _ _ => rfl)) (nomark _)) (pw_or (pt_cmpR op_ne (pe_oxfK (K := K) rfl (pv 3)) (pe_ix (kx_list (K := K) rfl) (pv 0) pe_int (fun _ _ => rfl)) (nomark _)) (pw_or1 (pt_cmpR op_ne (pe_oxfK (K := K) rfl (pv 3)) (pe_ix (kx_list (K := K) rfl) (pv 0) pe_int (fun _ _ => rfl)) (nomark _)))))))
 (pss_one (ps_ret pe_bl))
 pss_nil)
 (pss_cons (ps_if (PW.pt (pw_or (pt_cmpR op_ne (pe_oxfK (K := K) rfl (pv 3)) (pe_ix (kx_list (K := K) rfl) (pv 1) pe_int (fun _ _ => rfl)) (nomark _)) (pw_or (pt_cmpR op_ne (pe_oxfK (K := K) rfl (pv 4)) (pe_ix (kx_list (K := K) rfl) (pv 0) pe_int (fun _ _ => rfl)) (nomark _)) (pw_or (pt_cmpR op_ne (pe_oxfK (K := K) rfl (pv 5)) (pe_ix (kx_list (K := K) rfl) (pv 1) pe_int (fun _ _ => rfl)) (nomark _)) (pw_or1 (pt_cmpR op_ne (pe_oxfK (K := K) rfl (pv 6)) (pe_ix (kx_list (K := K) rfl) (pv 1) pe_int (fun _ _ => rfl)) (nomark _)))))))
 (pss_one (ps_ret pe_bl))
 pss_nil)
 (pss_cons (ps_set (i := 2) sc__law_holds_what.nd rfl (.inl rfl) (pOxK KO_TextFault_place_line (hr.mono (by decide)) (by rfl) (pk_cons (pe_ix (kx_list (K := K) rfl) (pv 0) pe_int (fun _ _ => rfl)) (pk_cons (pe_ix (kx_list (K := K) rfl) (pv 0) pe_int (fun _ _ => rfl)) pk_nil))))
 (pss_cons (ps_set (i := 3) sc__law_holds_what.nd rfl (.inl rfl) (pOxK KO_RunFault_why_place_line (hr.mono (by decide)) (by rfl) (pk_cons (pe_ix (kx_list (K := K) rfl) (pv 1) pe_int (fun _ _ => rfl)) (pk_cons (pe_ix (kx_list (K := K) rfl) (pv 0) pe_int (fun _ _ => rfl)) (pk_cons (pe_ix (kx_list (K := K) rfl) (pv 0) pe_int (fun _ _ => rfl)) pk_nil)))))
 (pss_cons (ps_if (PW.pt (pw_or (pt_cmpR op_ne (pe_oxfK (K := K) rfl (pv 2)) (pe_ix (kx_list (K := K) rfl) (pv 0) pe_int (fun _ _ => rfl)) (nomark _)) (pw_or (pt_cmpR op_ne (pe_oxfK (K := K) rfl (pv 2)) (pe_ix (kx_list (K := K) rfl) (pv 0) pe_int (fun _ _ => rfl)) (nomark _)) (pw_or (pt_cmpR op_ne (pe_oxfK (K := K) rfl (pv 3)) (pe_ix (kx_list (K := K) rfl) (pv 0) pe_int (fun _ _ => rfl)) (nomark _)) (pw_or1 (pt_cmpR op_ne (pe_oxfK (K := K) rfl (pv 3)) (pe_ix (kx_list (K := K) rfl) (pv 0) pe_int (fun _ _ => rfl)) (nomark _)))))))
 (pss_one (ps_ret pe_bl))
 pss_nil)
 (pss_cons (ps_set (i := 4) sc__law_holds_what.nd rfl (.inl rfl) (pOxK KO_BadRow_number (hr.mono (by decide)) (by rfl) (pk_cons (pe_ix (kx_list (K := K) rfl) (pv 0) pe_int (fun _ _ => rfl)) pk_nil)))
 (pss_cons (ps_set (i := 5) sc__law_holds_what.nd rfl (.inl rfl) (pOxK KO_TooLarge_what (hr.mono (by decide)) (by rfl) (pk_cons (pe_ix (kx_list (K := K) rfl) (pv 1) pe_int (fun _ _ => rfl)) pk_nil)))
 (pss_cons (ps_set (i := 6) sc__law_holds_what.nd rfl (.inl rfl) (pOxK KO_NoParting_why (hr.mono (by decide)) (by rfl) (pk_cons (pe_ix (kx_list (K := K) rfl) (pv 1) pe_int (fun _ _ => rfl)) pk_nil)))
 (pss_one (ps_ret (pe_and (pe_cmpR op_eq (pe_oxfK (K := K) rfl (pv 3)) (pe_ix (kx_list (K := K) rfl) (pv 1) pe_int (fun _ _ => rfl)) (nomark _)) (pe_and (pe_cmpR op_eq (pe_oxfK (K := K) rfl (pv 4)) (pe_ix (kx_list (K := K) rfl) (pv 0) pe_int (fun _ _ => rfl)) (nomark _)) (pe_and (pe_cmpR op_eq (pe_oxfK (K := K) rfl (pv 5)) (pe_ix (kx_list (K := K) rfl) (pv 1) pe_int (fun _ _ => rfl)) (nomark _)) (pe_one (pe_cmpR op_eq (pe_oxfK (K := K) rfl (pv 6)) (pe_ix (kx_list (K := K) rfl) (pv 1) pe_int (fun _ _ => rfl)) (nomark _))))))))))))))))))))), ?_⟩
    have OF1 := O_TextFault.f
    have OF2 := O_RunFault.f
    have OF3 := O_BadRow.f
    have OF4 := O_TooLarge.f
    have OF5 := O_NoParting.f
    walk_at "g"
    repeat (first | rw [show (!decide (V.int n0 = V.int n0)) = false by simp] | rw [show (!decide (V.int n1 = V.int n1)) = false by simp] | rw [show (!decide (V.int n2 = V.int n2)) = false by simp] | rw [show (!decide (V.str w0 = V.str w0)) = false by simp] | rw [show (!decide (V.str w1 = V.str w1)) = false by simp] | rw [decide_eq_true (rfl : V.int n0 = V.int n0)] | rw [decide_eq_true (rfl : V.int n1 = V.int n1)] | rw [decide_eq_true (rfl : V.int n2 = V.int n2)] | rw [decide_eq_true (rfl : V.str w0 = V.str w0)] | rw [decide_eq_true (rfl : V.str w1 = V.str w1)] | walk_at "g1")
    exact k _ (by walk_at "same")
abbrev s__law_classes : Stmt := top 35
theorem sc__law_classes : FnScope ["numbers", "words", "found", "k", "base"] ["numbers", "words"] (defScope s__law_classes) := ⟨rfl, rfl, rfl, by decide +kernel, rfl, by decide +kernel, by decide +kernel⟩
set_option maxHeartbeats 4000000 in
theorem ok__law_classes {f : Addr} {fd : FuncData} (F : FunA K "_law_classes" "_law_classes" s__law_classes f fd) (T : Blt mg) {ec : Ecl} (EC : EF K mg ec) (C__law_error : Cal P w K mg base "_law_error" 1 ["e"] (sp__law_error_V_E K ec)) (O_TextFault : OCl P w K mg base "TextFault" ec.c_TextFault ["line", "place"]) (O_RunFault : OCl P w K mg base "RunFault" ec.c_RunFault ["line", "place", "why"]) (O_BadRow : OCl P w K mg base "BadRow" ec.c_BadRow ["number"]) (O_TooLarge : OCl P w K mg base "TooLarge" ec.c_TooLarge ["what"]) (O_NoParting : OCl P w K mg base "NoParting" ec.c_NoParting ["why"]) : FnOk P w K mg base CX0 3 f fd ["numbers", "words"] (sp__law_classes K) := by
  refine F.ok sc__law_classes (fun vs H Q E h => ?_) (fun cdv A outer s H vs Q E hr h => ?_)
  · obtain ⟨_, _, _, _, _, _, _, rfl, _⟩ := h
    rfl
  · obtain ⟨l, m, n0, n1, n2, w0, w1, rfl, h0, h1, k⟩ := h
    refine ⟨_, (pss_cons (ps_set (i := 2) sc__law_classes.nd rfl (.inl rfl) (pe_lst (pa_cons (pOx O_TextFault (hr.mono (by decide)) (by rfl) (pa_cons (pe_ix (kx_list (K := K) rfl) (pv 0) pe_int (fun _ _ => rfl)) (pa_cons (pe_ix (kx_list (K := K) rfl) (pv 0) pe_int (fun _ _ => rfl)) pa_nil))) (pa_cons (pOx O_RunFault (hr.mono (by decide)) (by rfl) (pa_cons (pe_ix (kx_list (K := K) rfl) (pv 0) pe_int (fun _ _ => rfl)) (pa_cons (pe_ix (kx_list (K := K) rfl) (pv 0) pe_int (fun _ _ => rfl)) (pa_cons (pe_ix (kx_list (K := K) rfl) (pv 1) pe_int (fun _ _ => rfl)) pa_nil)))) (pa_cons (pOx O_BadRow (hr.mono (by decide)) (by rfl) (pa_cons (pe_ix (kx_list (K := K) rfl) (pv 0) pe_int (fun _ _ => rfl)) pa_nil)) pa_nil)))))
 (pss_cons (ps_set (i := 2) sc__law_classes.nd rfl (.inl rfl) (pe_op op_cat (pv 2) (pe_lst (pa_cons (pOx0 PySem.F.excBase_ValueError EC.e_ZeroDenominator EC.g_ZeroDenominator EC.k_ZeroDenominator (by rfl)) (pa_cons (pOx0 PySem.F.excBase_ValueError EC.e_NoNormal EC.g_NoNormal EC.k_NoNormal (by rfl)) (pa_cons (pOx0 PySem.F.excBase_ValueError EC.e_InLine EC.g_InLine EC.k_InLine (by rfl)) (pa_cons (pOx0 PySem.F.excBase_ValueError EC.e_Flat EC.g_Flat EC.k_Flat (by rfl)) (pa_cons (pOx0 PySem.F.excBase_ValueError EC.e_BadPolygon EC.g_BadPolygon EC.k_BadPolygon (by rfl)) (pa_cons (pOx0 PySem.F.excBase_ValueError EC.e_Singular EC.g_Singular EC.k_Singular (by rfl)) (pa_cons (pOx0 PySem.F.excBase_ValueError EC.e_NoDirection EC.g_NoDirection EC.k_NoDirection (by rfl)) pa_nil))))))))))
 (pss_cons (ps_set (i := 2) sc__law_classes.nd rfl (.inl rfl) (pe_op op_cat (pv 2) (pe_lst (pa_cons (pOx0 PySem.F.excBase_ValueError EC.e_BadPath EC.g_BadPath EC.k_BadPath (by rfl)) (pa_cons (pOx O_TooLarge (hr.mono (by decide)) (by rfl) (pa_cons (pe_ix (kx_list (K := K) rfl) (pv 1) pe_int (fun _ _ => rfl)) pa_nil)) (pa_cons (pOx0 PySem.F.excBase_ValueError EC.e_BadOrder EC.g_BadOrder EC.k_BadOrder (by rfl)) (pa_cons (pOx0 PySem.F.excBase_ValueError EC.e_Unbounded EC.g_Unbounded EC.k_Unbounded (by rfl)) (pa_cons (pOx O_NoParting (hr.mono (by decide)) (by rfl) (pa_cons (pe_ix (kx_list (K := K) rfl) (pv 1) pe_int (fun _ _ => rfl)) pa_nil)) (pa_cons (pOx0 PySem.F.excBase_ValueError EC.e_NothingToUndo EC.g_NothingToUndo EC.k_NothingToUndo (by rfl)) pa_nil)))))))))
 (pss_cons (ps_for PassesOwn.never rfl (pi_range1 (by rfl) T.range (pa_cons pe_int pa_nil)) (pg_name (i := 3) sc__law_classes.nd rfl (.inl rfl))
 (pss_one (ps_if (PW.pt (pw_or (pt_cmpR (ko_neD (K := K) rfl (hu_of64 hr)) (pc C__law_error (hr.mono (by decide)) (by rfl) (pa_cons (pe_ix (kx_list (K := K) rfl) (pv 2) (pv 3) (fun _ _ => rfl)) pa_nil)) (pe_lst (pa_cons (pv 3) pa_nil)) (nomark _)) (pw_or (pt_not (pt_val (pe_callB (kc_isO (K := K) rfl) (by rfl) T.isinstance (by decide +kernel) (pa_cons (pe_ix (kx_list (K := K) rfl) (pv 2) (pv 3) (fun _ _ => rfl)) (pa_cons (pe_glob (v := .ref ec.c_SpaceError) (by rfl) EC.g_SpaceError rfl) pa_nil))))) (pw_or1 (pt_not (pt_val (pe_callB (kc_isO (K := K) rfl) (by rfl) T.isinstance (by decide +kernel) (pa_cons (pe_ix (kx_list (K := K) rfl) (pv 2) (pv 3) (fun _ _ => rfl)) (pa_cons (pe_bltn (v := .ty "ValueError") (u := .type "ValueError") (by rfl) EC.ve (by decide +kernel) rfl) pa_nil)))))))))
 (pss_one (ps_ret pe_bl))
 pss_nil)))
 (pss_cons (ps_set (i := 4) sc__law_classes.nd rfl (.inl rfl) (pOx0 PySem.F.excBase_ValueError EC.e_SpaceError EC.g_SpaceError EC.k_SpaceError (by rfl)))
 (pss_one (ps_ret (pe_and (pe_cmpR (ko_eqD (K := K) rfl (hu_of64 hr)) (pc C__law_error (hr.mono (by decide)) (by rfl) (pa_cons (pv 4) pa_nil)) (pe_lst pa_nil) (nomark _)) (pe_one (pe_callB (kc_isO (K := K) rfl) (by rfl) T.isinstance (by decide +kernel) (pa_cons (pv 4) (pa_cons (pe_bltn (v := .ty "ValueError") (u := .type "ValueError") (by rfl) EC.ve (by decide +kernel) rfl) pa_nil)))))))))))), ?_⟩
    have OF1 := O_TextFault.f
    have OF2 := O_RunFault.f
    have OF3 := O_BadRow.f
    have OF4 := O_TooLarge.f
    have OF5 := O_NoParting.f
    walk_at "g"
    rename_i a0 G0 nn0 s0 o0 a1 G1 nn1 s1 o1 a2 G2 nn2 s2 o2 p3 G3 nn3 s3 h3 a3 G4 nn4 s4 o3 a4 G5 nn5 s5 o4 a5 G6 nn6 s6 o5 a6 G7 nn7 s7 o6 a7 G8 nn8 s8 o7 a8 G9 nn9 s9 o8 a9 G10 nn10 s10 o9 p11 G11 nn11 s11 h11 p12 G12 nn12 s12 h12 a10 G13 nn13 s13 o10 a11 G14 nn14 s14 o11 a12 G15 nn15 s15 o12 a13 G16 nn16 s16 o13 a14 G17 nn17 s17 o14 a15 G18 nn18 s18 o15 p19 G19 nn19 s19 h19 p20 G20 nn20 s20 h20
    have c20 : Same G19 G20 := s20
    have c19 : Same G18 G20 := s19.trans c20
    have c18 : Same G17 G20 := s18.trans c19
    have c17 : Same G16 G20 := s17.trans c18
    have c16 : Same G15 G20 := s16.trans c17
    have c15 : Same G14 G20 := s15.trans c16
    have c14 : Same G13 G20 := s14.trans c15
    have c13 : Same G12 G20 := s13.trans c14
    have c12 : Same G11 G20 := s12.trans c13
    have c11 : Same G10 G20 := s11.trans c12
    have c10 : Same G9 G20 := s10.trans c11
    have c9 : Same G8 G20 := s9.trans c10
    have c8 : Same G7 G20 := s8.trans c9
    have c7 : Same G6 G20 := s7.trans c8
    have c6 : Same G5 G20 := s6.trans c7
    have c5 : Same G4 G20 := s5.trans c6
    have c4 : Same G3 G20 := s4.trans c5
    have c3 : Same G2 G20 := s3.trans c4
    have c2 : Same G1 G20 := s2.trans c3
    have c1 : Same G0 G20 := s1.trans c2
    have w0 : Same H G20 := s0.trans c1
    have e0 : ExO G20 a0 ec.c_TextFault := ExO.same c1 (OxA.ex o0)
    have e1 : ExO G20 a1 ec.c_RunFault := ExO.same c2 (OxA.ex o1)
    have e2 : ExO G20 a2 ec.c_BadRow := ExO.same c3 (OxA.ex o2)
    have e3 : ExO G20 a3 ec.c_ZeroDenominator := ExO.same c5 (ExO.of o3)
    have e4 : ExO G20 a4 ec.c_NoNormal := ExO.same c6 (ExO.of o4)
    have e5 : ExO G20 a5 ec.c_InLine := ExO.same c7 (ExO.of o5)
    have e6 : ExO G20 a6 ec.c_Flat := ExO.same c8 (ExO.of o6)
    have e7 : ExO G20 a7 ec.c_BadPolygon := ExO.same c9 (ExO.of o7)
    have e8 : ExO G20 a8 ec.c_Singular := ExO.same c10 (ExO.of o8)
    have e9 : ExO G20 a9 ec.c_NoDirection := ExO.same c11 (ExO.of o9)
    have e10 : ExO G20 a10 ec.c_BadPath := ExO.same c14 (ExO.of o10)
    have e11 : ExO G20 a11 ec.c_TooLarge := ExO.same c15 (OxA.ex o11)
    have e12 : ExO G20 a12 ec.c_BadOrder := ExO.same c16 (ExO.of o12)
    have e13 : ExO G20 a13 ec.c_Unbounded := ExO.same c17 (ExO.of o13)
    have e14 : ExO G20 a14 ec.c_NoParting := ExO.same c18 (OxA.ex o14)
    have e15 : ExO G20 a15 ec.c_NothingToUndo := ExO.same c19 (ExO.of o15)
    have all : ∀ (i : Nat) (v : V), ([.ref a0, .ref a1, .ref a2, .ref a3, .ref a4, .ref a5, .ref a6, .ref a7, .ref a8, .ref a9, .ref a10, .ref a11, .ref a12, .ref a13, .ref a14, .ref a15] : List V)[i]? = some v → ∃ a D, v = .ref a ∧ ExO G20 a D ∧ Tell K ec D i := by
      intro i v hv
      rcases i with _ | _ | _ | _ | _ | _ | _ | _ | _ | _ | _ | _ | _ | _ | _ | _ | i
      · cases hv; exact ⟨_, _, rfl, e0, EC.tell_TextFault⟩
      · cases hv; exact ⟨_, _, rfl, e1, EC.tell_RunFault⟩
      · cases hv; exact ⟨_, _, rfl, e2, EC.tell_BadRow⟩
      · cases hv; exact ⟨_, _, rfl, e3, EC.tell_ZeroDenominator⟩
      · cases hv; exact ⟨_, _, rfl, e4, EC.tell_NoNormal⟩
      · cases hv; exact ⟨_, _, rfl, e5, EC.tell_InLine⟩
      · cases hv; exact ⟨_, _, rfl, e6, EC.tell_Flat⟩
      · cases hv; exact ⟨_, _, rfl, e7, EC.tell_BadPolygon⟩
      · cases hv; exact ⟨_, _, rfl, e8, EC.tell_Singular⟩
      · cases hv; exact ⟨_, _, rfl, e9, EC.tell_NoDirection⟩
      · cases hv; exact ⟨_, _, rfl, e10, EC.tell_BadPath⟩
      · cases hv; exact ⟨_, _, rfl, e11, EC.tell_TooLarge⟩
      · cases hv; exact ⟨_, _, rfl, e12, EC.tell_BadOrder⟩
      · cases hv; exact ⟨_, _, rfl, e13, EC.tell_Unbounded⟩
      · cases hv; exact ⟨_, _, rfl, e14, EC.tell_NoParting⟩
      · cases hv; exact ⟨_, _, rfl, e15, EC.tell_NothingToUndo⟩
      · simp at hv
    have hxs : G20 p20 = some (.lst [.ref a0, .ref a1, .ref a2, .ref a3, .ref a4, .ref a5, .ref a6, .ref a7, .ref a8, .ref a9, .ref a10, .ref a11, .ref a12, .ref a13, .ref a14, .ref a15]) := h20
    have len : ([.ref a0, .ref a1, .ref a2, .ref a3, .ref a4, .ref a5, .ref a6, .ref a7, .ref a8, .ref a9, .ref a10, .ref a11, .ref a12, .ref a13, .ref a14, .ref a15] : List V).length = 16 := rfl
    generalize ([.ref a0, .ref a1, .ref a2, .ref a3, .ref a4, .ref a5, .ref a6, .ref a7, .ref a8, .ref a9, .ref a10, .ref a11, .ref a12, .ref a13, .ref a14, .ref a15] : List V) = xs at all hxs len
    clear e0 e1 e2 e3 e4 e5 e6 e7 e8 e9 e10 e11 e12 e13 e14 e15 o0 o1 o2 o3 o4 o5 o6 o7 o8 o9 o10 o11 o12 o13 o14 o15 c1 c2 c3 c4 c5 c6 c7 c8 c9 c10 c11 c12 c13 c14 c15 c16 c17 c18 c19 c20 s0 s1 s2 s3 s4 s5 s6 s7 s8 s9 s10 s11 s12 s13 s14 s15 s16 s17 s18 s19 s20 nn0 nn1 nn2 nn3 nn4 nn5 nn6 nn7 nn8 nn9 nn10 nn11 nn12 nn13 nn14 nn15 nn16 nn17 nn18 nn19 nn20 h3 h11 h12 h19 h20
    refine f_range (n := 16) (fun i σ' H' => (∃ o o2, σ' = [some (.ref l), some (.ref m), some (.ref p20), o, o2]) ∧ Same G20 H') ⟨⟨_, _, rfl⟩, Same.refl _⟩ ?_ ?_
    · rintro i σ' H1 hi ⟨⟨o, o2, rfl⟩, s1⟩
      rw [Int.zero_add]
      have ev := List.getElem?_eq_getElem (l := xs) (i := i) (by omega)
      obtain ⟨a, D, ea, ex, tl⟩ := all i _ ev
      rw [ea] at ev
      clear ea
      have hx1 := s1 _ _ hxs
      obtain ⟨d, hd, hdd⟩ := ExO.same s1 ex
      have hi7 : i < 17 := by omega
      have hi6 : i < 16 := hi
      walk_at "g"
      refine r_ixL (SqL.of hx1) (atI_nat ev) ?_
      walk_at "g"
      rename_i H2 l2 s2 h2 l3 H3 n3 s3 h3
      rw [show errL i = [.int (i : Int)] from if_pos hi6] at h2
      walk_at "g"
      rw [show PyData.eqv (.list [.int (i : Int)]) (.list [.int (i : Int)]) = true by simp [eqv_L, eqv_C, eqv_I, eqv_N]]
      have s13 : Same H1 H3 := s2.trans s3
      have hx3 := s13 _ _ hx1
      have hd3 := s13 _ _ hd
      have hdd3 : ∀ dd, d = some dd → ∃ fs, H3 dd = some (exd dd fs) := fun dd e => (hdd dd e).imp fun fs z => s13 _ _ z
      clear hx1 hd hdd h2 h3 s2 s3 n3
      walk_at "g"
      refine r_ixL (SqL.of hx3) (atI_nat ev) ?_
      walk_at "g"
      refine r_isO tl.x hd3 hdd3 tl.t_SpaceError ?_
      walk_at "g"
      refine r_ixL (SqL.of hx3) (atI_nat ev) ?_
      walk_at "g"
      refine r_isOb tl.x hd3 hdd3 tl.v ?_
      walk_at "g"
      exact ⟨⟨_, _, rfl⟩, s1.trans s13⟩
    · rintro σ' H1 ⟨⟨o, o2, rfl⟩, s1⟩
      walk_at "g"
      rename_i ab H2 n2 s2 ob
      have tl := EC.tell_SpaceError
      refine u__law_error_V_E (d := none) (D := ec.c_SpaceError) (n := 16) ob (fun dd e => by cases e) tl (by decide) ?_
      intro H3 l3 s3 h3
      rw [show errL 16 = [] from rfl] at h3
      walk_at "g"
      rw [show PyData.eqv (.list []) (.list []) = true by simp [eqv_L, eqv_N]]
      rename_i l4 H4 n4 s4 h4
      have ob4 := s4 _ _ (s3 _ _ ob)
      walk_at "g"
      refine r_isOb tl.x ob4 (fun dd e => by cases e) tl.v ?_
      exact k _ (w0.trans (s1.trans (s2.trans (s3.trans s4))))
abbrev s__law_refused : Stmt := top 36
theorem sc__law_refused : FnScope ["n", "e"] ["n"] (defScope s__law_refused) := ⟨rfl, rfl, rfl, by decide +kernel, rfl, by decide +kernel, by decide +kernel⟩
set_option maxHeartbeats 4000000 in
theorem ok__law_refused {f : Addr} {fd : FuncData} (F : FunA K "_law_refused" "_law_refused" s__law_refused f fd) (T : Blt mg) {ec : Ecl} (EC : EF K mg ec) (CX_ratio : CalX P w K mg base "ratio" 1 ["top", "bottom"] (sp_ratio_X K ec)) (CE__law_error_ZeroDenominator : CalE P w K mg base ec.c_ZeroDenominator "_law_error" 1 ["e"] (sp__law_error_E_ZeroDenominator K ec)) : FnOk P w K mg base CX0 2 f fd ["n"] (sp__law_refused K) := by
  refine F.ok sc__law_refused (fun vs H Q E h => ?_) (fun cdv A outer s H vs Q E hr h => ?_)
  · obtain ⟨_, rfl, _⟩ := h
    rfl
  · obtain ⟨n, rfl, k⟩ := h
    have qm_ZeroDenominator_SpaceError := EC.m_ZeroDenominator_SpaceError
    have qi_ZeroDenominator_SpaceError := EC.i_ZeroDenominator_SpaceError
    have qi_ZeroDenominator_TextFault := EC.i_ZeroDenominator_TextFault
    have qi_ZeroDenominator_RunFault := EC.i_ZeroDenominator_RunFault
    have qi_ZeroDenominator_BadRow := EC.i_ZeroDenominator_BadRow
    have qi_ZeroDenominator_ZeroDenominator := EC.i_ZeroDenominator_ZeroDenominator
    have qi_ZeroDenominator_NoNormal := EC.i_ZeroDenominator_NoNormal
    have qi_ZeroDenominator_InLine := EC.i_ZeroDenominator_InLine
    have qi_ZeroDenominator_Flat := EC.i_ZeroDenominator_Flat
    have qi_ZeroDenominator_BadPolygon := EC.i_ZeroDenominator_BadPolygon
    have qi_ZeroDenominator_Singular := EC.i_ZeroDenominator_Singular
    have qi_ZeroDenominator_NoDirection := EC.i_ZeroDenominator_NoDirection
    have qi_ZeroDenominator_BadPath := EC.i_ZeroDenominator_BadPath
    have qi_ZeroDenominator_TooLarge := EC.i_ZeroDenominator_TooLarge
    have qi_ZeroDenominator_BadOrder := EC.i_ZeroDenominator_BadOrder
    have qi_ZeroDenominator_Unbounded := EC.i_ZeroDenominator_Unbounded
    have qi_ZeroDenominator_NoParting := EC.i_ZeroDenominator_NoParting
    have qi_ZeroDenominator_NothingToUndo := EC.i_ZeroDenominator_NothingToUndo
    have qv_ZeroDenominator := EC.v_ZeroDenominator
    refine ⟨_, (pss_cons (ps_try0 (K := K) rfl (i := 1) rfl rfl sc__law_refused.nd rfl rfl ⟨by rfl, by decide, .inl EC.g_SpaceError⟩ takesN (fun W pn xe tk _ => (pss_one (ps_expr (pcS CX_ratio (hr.mono (by decide)) (by rfl) tk (pa_cons (pv 0) (pa_cons pe_int pa_nil))))))
 (fun a oe cls d pn hz hf => pss_ifR (R := cls = .ref ec.c_ZeroDenominator ∧ d = none) (fun hR => (pss_one (ps_ret (pe_and (pe_callB (kc_isA (K := K) rfl (List.mem_cons_self (a := (a, oe)) (l := pn)) EC.x_ZeroDenominator (hz.1.trans hR.1) (hz.2.1.trans hR.2) hf) (by rfl) T.isinstance (by decide +kernel) (pa_cons (pv 1) (pa_cons (pe_bltn (v := .ty "ValueError") (u := .type "ValueError") (by rfl) EC.ve (by decide +kernel) rfl) pa_nil))) (pe_one (pe_cmpR (ko_eqD (K := K) rfl (hu_mark hr)) (pcA CE__law_error_ZeroDenominator (roomH_mark (hr.mono (by decide))) (hot_of hz hf) (List.mem_cons_self (a := (a, oe)) (l := pn)) (hz.1.trans hR.1) (hz.2.1.trans hR.2) (by rfl) (pa_cons (pv 1) pa_nil)) (pe_lst (pa_cons pe_int pa_nil)) (nomark _)))))))))
 (pss_one (ps_ret pe_bl))), ?_⟩
    walk_at "g"
    rw [show PyData.eqv (.list [.int 3]) (.list [.int 3]) = true by simp [eqv_L, eqv_C, eqv_I, eqv_N]]
    exact k _ (by walk_at "same")
abbrev s__law_pair : Stmt := top 37
theorem sc__law_pair : FnScope ["store", "kind", "first", "common", "second"] ["store"] (defScope s__law_pair) := ⟨rfl, rfl, rfl, by decide +kernel, rfl, by decide +kernel, by decide +kernel⟩
set_option maxHeartbeats 4000000 in
theorem ok__law_pair {f : Addr} {fd : FuncData} (F : FunA K "_law_pair" "_law_pair" s__law_pair f fd) (T : Blt mg) (C__law_take : Cal P w K mg base "_law_take" 2 ["store", "many"] (sp__law_take K)) (C__law_integer : Cal P w K mg base "_law_integer" 4 ["store"] (sp__law_integer K)) (C__law_pick : Cal P w K mg base "_law_pick" 3 ["store", "items"] (sp__law_pick K)) (C__law_wide : Cal P w K mg base "_law_wide" 3 ["store", "many"] (sp__law_wide K)) : FnOk P w K mg base CX0 5 f fd ["store"] (sp__law_pair K) := by
  refine F.ok sc__law_pair (fun vs H Q E h => ?_) (fun cdv A outer s H vs Q E hr h => ?_)
  · obtain ⟨_, rfl, _⟩ := h
    rfl
  · obtain ⟨st, rfl, h0, k⟩ := h
    refine ⟨_, (pss_cons (ps_set (i := 1) sc__law_pair.nd rfl (.inl rfl) (pc C__law_take (hr.mono (by decide)) (by rfl) (pa_cons (pv 0) (pa_cons pe_int pa_nil))))
 (pss_cons (ps_if (pt_cmpR op_eq (pv 1) pe_int (nomark _))
 (pss_cons (ps_set (i := 2) sc__law_pair.nd rfl (.inl rfl) (pc C__law_integer (hr.mono (by decide)) (by rfl) (pa_cons (pv 0) pa_nil)))
 (pss_one (ps_ret (pe_tup (pa_cons (pv 2) (pa_cons (pc C__law_integer (hr.mono (by decide)) (by rfl) (pa_cons (pv 0) pa_nil)) pa_nil))))))
 pss_nil)
 (pss_cons (ps_if (pt_cmpR op_eq (pv 1) pe_int (nomark _))
 (pss_cons (ps_set (i := 3) sc__law_pair.nd rfl (.inl rfl) (pe_op op_add pe_int (pc C__law_wide (hr.mono (by decide)) (by rfl) (pa_cons (pv 0) (pa_cons (pe_op op_add pe_int (pc C__law_take (hr.mono (by decide)) (by rfl) (pa_cons (pv 0) (pa_cons pe_int pa_nil)))) pa_nil)))))
 (pss_cons (ps_set (i := 2) sc__law_pair.nd rfl (.inl rfl) (pe_op op_mulW (pv 3) (pe_op op_add (pc C__law_wide (hr.mono (by decide)) (by rfl) (pa_cons (pv 0) (pa_cons (pe_op op_add pe_int (pc C__law_take (hr.mono (by decide)) (by rfl) (pa_cons (pv 0) (pa_cons pe_int pa_nil)))) pa_nil))) pe_int)))
 (pss_cons (ps_set (i := 4) sc__law_pair.nd rfl (.inl rfl) (pe_op op_mulW (pv 3) (pe_op op_add (pc C__law_wide (hr.mono (by decide)) (by rfl) (pa_cons (pv 0) (pa_cons (pe_op op_add pe_int (pc C__law_take (hr.mono (by decide)) (by rfl) (pa_cons (pv 0) (pa_cons pe_int pa_nil)))) pa_nil))) pe_int)))
 (pss_one (ps_ret (pe_tup (pa_cons (pe_op op_mulW (pv 2) (pc C__law_pick (hr.mono (by decide)) (by rfl) (pa_cons (pv 0) (pa_cons (pe_lst (pa_cons pe_int (pa_cons (pe_un un_neg pe_int) pa_nil))) pa_nil)))) (pa_cons (pe_op op_mulW (pv 4) (pc C__law_pick (hr.mono (by decide)) (by rfl) (pa_cons (pv 0) (pa_cons (pe_lst (pa_cons pe_int (pa_cons (pe_un un_neg pe_int) pa_nil))) pa_nil)))) pa_nil))))))))
 pss_nil)
 (pss_cons (ps_set (i := 2) sc__law_pair.nd rfl (.inl rfl) (pc C__law_integer (hr.mono (by decide)) (by rfl) (pa_cons (pv 0) pa_nil)))
 (pss_cons (ps_if (pt_cmpR op_eq (pv 1) pe_int (nomark _))
 (pss_one (ps_ret (pe_tup (pa_cons (pv 2) (pa_cons (pe_op op_mulW (pv 2) (pc C__law_pick (hr.mono (by decide)) (by rfl) (pa_cons (pv 0) (pa_cons (pe_lst (pa_cons pe_int (pa_cons (pe_un un_neg pe_int) pa_nil))) pa_nil)))) pa_nil)))))
 pss_nil)
 (pss_one (ps_ret (pc C__law_pick (hr.mono (by decide)) (by rfl) (pa_cons (pv 0) (pa_cons (pe_lst (pa_cons (pe_tup (pa_cons pe_int (pa_cons (pv 2) pa_nil))) (pa_cons (pe_tup (pa_cons (pv 2) (pa_cons pe_int pa_nil))) pa_nil))) pa_nil)))))))))), ?_⟩
    have e13 : ∀ m : Int, 0 ≤ m → m ≤ 13 → (10 : Int) ^ m.toNat ≤ 10 ^ 13 := fun m _ _ => p10 (by omega)
    walk_at "g"
    rename_i H1 kd f1 s1 k0 k1
    refine if_eqI (fun e => ?_) (fun e => ?_)
    · walk_at "g"
      exact k _ _ _ _ (by walk_at "fr") (by walk_at "st") (by walk_at "sq") (by assumption) (by assumption)
    · walk_at "g"
      refine if_eqI (fun e2 => ?_) (fun e2 => ?_)
      · walk_at "g"
        rename_i H2 i2 f2 s2 i20 i21 H3 w1 f3 s3 w10 w11 H4 i4 f4 s4 i40 i41 H5 w2 f5 s5 w20 w21
        have g1 := e13 (1 + i2) (by omega) (by omega)
        have g2 := e13 (1 + i4) (by omega) (by omega)
        have B1 : B 44 (1 + w1) := B.rng (by omega) (by omega)
        have B2 : B 44 (w2 + 1) := B.rng (by omega) (by omega)
        have F1 : Fr st H H5 := by walk_at "fr"
        clear f2 f3 f4 f5 w11 w21
        walk_at "g"
        rename_i H6 i6 f6 s6 i60 i61 H7 w3 f7 s7 w30 w31
        have g3 := e13 (1 + i6) (by omega) (by omega)
        have B3 : B 44 (w3 + 1) := B.rng (by omega) (by omega)
        have P1 : B 88 ((1 + w1) * (w2 + 1)) := B.mul B1 B2
        have P2 : B 88 ((1 + w1) * (w3 + 1)) := B.mul B1 B3
        clear w31
        generalize 1 + w1 = y1 at *
        generalize w2 + 1 = y2 at *
        generalize w3 + 1 = y3 at *
        walk_at "g"
        rename_i L H8 n8 s8 h8 H9 i v f9 s9 ev
        rcases i with _ | _ | i
        rotate_left 2
        · simp at ev
        all_goals
          cases ev
          walk_at "g"
          rename_i L2 H10 n10 s10 h10 H11 j v2 f11 s11 ev2
          rcases j with _ | _ | j
          rotate_left 2
          · simp at ev2
          all_goals
            cases ev2
            walk_at "g"
            exact k _ _ _ _ (by walk_at "fr") (by walk_at "st") (by walk_at "sq") (by walk_at "bitsK") (by walk_at "bitsK")
      · walk_at "g"
        rename_i H2 x f2 s2 bx
        refine if_eqI (fun e3 => ?_) (fun e3 => ?_)
        · walk_at "g"
          rename_i L H3 n3 s3 h3 H4 i v f4 s4 ev
          rcases i with _ | _ | i
          rotate_left 2
          · simp at ev
          all_goals
            cases ev
            walk_at "g"
            exact k _ _ _ _ (by walk_at "fr") (by walk_at "st") (by walk_at "sq") (by assumption) (by first | (rw [Int.mul_one]; assumption) | (rw [Int.mul_neg, Int.mul_one]; exact B.neg bx))
        · walk_at "g"
          rename_i t1 H3 n3 s3 h3 t2 H4 n4 s4 h4 L H5 n5 s5 h5 H6 i v f6 s6 ev
          rcases i with _ | _ | i
          rotate_left 2
          · simp at ev
          all_goals
            cases ev
            exact k _ _ _ _ (by walk_at "fr") (by walk_at "st") (by walk_at "sq") (by first | assumption | exact B.lit (by decide)) (by first | assumption | exact B.lit (by decide))
abbrev s__law_right : Stmt := top 38
theorem sc__law_right : FnScope ["actual", "n", "d"] ["actual", "n", "d"] (defScope s__law_right) := ⟨rfl, rfl, rfl, by decide +kernel, rfl, by decide +kernel, by decide +kernel⟩
set_option maxHeartbeats 4000000 in
theorem ok__law_right {f : Addr} {fd : FuncData} (F : FunA K "_law_right" "_law_right" s__law_right f fd) (T : Blt mg) (C__law_is_integer : Cal P w K mg base "_law_is_integer" 1 ["value"] (sp__law_is_integer K)) (C__law_gcd : Cal P w K mg base "_law_gcd" 1 ["one", "two"] (sp__law_gcd K)) : FnOk P w K mg base CX0 2 f fd ["actual", "n", "d"] (sp__law_right K) := by
  refine F.ok sc__law_right (fun vs H Q E h => ?_) (fun cdv A outer s H vs Q E hr h => ?_)
  · obtain ⟨_, _, _, _, rfl, _⟩ := h
    rfl
  · obtain ⟨a, q, n, d, rfl, h0, h1, h2, h3, h4, k⟩ := h
    refine ⟨_, (pss_cons (ps_if (PW.pt (pw_or (pt_not (pt_val (pe_callB (kc_isi (K := K) rfl) (by rfl) T.isinstance (by decide +kernel) (pa_cons (pv 0) (pa_cons (pe_bltn (v := .ty "tuple") (u := .type "tuple") (by rfl) T.tuple (by decide +kernel) rfl) pa_nil))))) (pw_or1 (pt_cmpR op_ne (pe_callB (kc_len (K := K) rfl) (by rfl) T.len (by decide +kernel) (pa_cons (pv 0) pa_nil)) pe_int (nomark _)))))
 (pss_one (ps_ret pe_bl))
 pss_nil)
 (pss_cons (ps_if (PW.pt (pw_or (pt_not (pt_val (pc C__law_is_integer (hr.mono (by decide)) (by rfl) (pa_cons (pe_ix (kx_tup (K := K) rfl) (pv 0) pe_int (fun _ _ => rfl)) pa_nil)))) (pw_or1 (pt_not (pt_val (pc C__law_is_integer (hr.mono (by decide)) (by rfl) (pa_cons (pe_ix (kx_tup (K := K) rfl) (pv 0) pe_int (fun _ _ => rfl)) pa_nil)))))))
 (pss_one (ps_ret pe_bl))
 pss_nil)
 (pss_one (ps_ret (pe_and (pe_cmpR op_gt (pe_ix (kx_tup (K := K) rfl) (pv 0) pe_int (fun _ _ => rfl)) pe_int (nomark _)) (pe_and (pe_cmpR op_eq (pc C__law_gcd (hr.mono (by decide)) (by rfl) (pa_cons (pe_ix (kx_tup (K := K) rfl) (pv 0) pe_int (fun _ _ => rfl)) (pa_cons (pe_ix (kx_tup (K := K) rfl) (pv 0) pe_int (fun _ _ => rfl)) pa_nil))) pe_int (nomark _)) (pe_one (pe_cmpR op_eq (pe_op op_mulW (pe_ix (kx_tup (K := K) rfl) (pv 0) pe_int (fun _ _ => rfl)) (pv 2)) (pe_op op_mulW (pv 1) (pe_ix (kx_tup (K := K) rfl) (pv 0) pe_int (fun _ _ => rfl))) (nomark _))))))))), ?_⟩
    have b0 := h1.n
    have b1 := h1.d
    have e : q.num * d = n * (q.den : Int) := by
      have e1 := numc q
      have e2 : (q.num : Rat) * (d : Rat) = (n : Rat) * ((q.den : Int) : Rat) := by
        rw [← e1, ← h4]
        grind
      exact_mod_cast e2
    have cp : ((Nat.gcd q.num.natAbs ((q.den : Int)).natAbs : Nat) : Int) = 1 := by
      have := q.reduced
      simp only [Nat.Coprime, Int.natAbs_natCast] at *
      omega
    walk_at "g"
    rw [decide_eq_true (denP q)]
    walk_at "g"
    rw [cp]
    refine if_eqI (fun _ => ?_) (fun z => (z rfl).elim)
    walk_at "g"
    rw [decide_eq_true (congrArg V.int e)]
    exact k _ (by walk_at "same")
abbrev s__law_alone : Stmt := top 39
theorem sc__law_alone : FnScope ["n"] ["n"] (defScope s__law_alone) := ⟨rfl, rfl, rfl, by decide +kernel, rfl, by decide +kernel, by decide +kernel⟩
set_option maxHeartbeats 4000000 in
theorem ok__law_alone {f : Addr} {fd : FuncData} (F : FunA K "_law_alone" "_law_alone" s__law_alone f fd) (T : Blt mg) (C__law_right : Cal P w K mg base "_law_right" 2 ["actual", "n", "d"] (sp__law_right K)) (C_ratio : Cal P w K mg base "ratio" 1 ["top", "bottom"] (sp_ratio K)) (C_as_ratio : Cal P w K mg base "as_ratio" 1 ["number"] (sp_as_ratio K)) (KC_ratio_1 : KCal P w K mg base "ratio" 1 ["top", "bottom"] (sp_ratio K) 1 [] (pkV [0, 1] [.int 1])) (KC_ratio_0_top : KCal P w K mg base "ratio" 1 ["top", "bottom"] (sp_ratio K) 0 ["top"] (pkV [0, 1] [.int 1])) : FnOk P w K mg base CX0 3 f fd ["n"] (sp__law_alone K) := by
  refine F.ok sc__law_alone (fun vs H Q E h => ?_) (fun cdv A outer s H vs Q E hr h => ?_)
  · obtain ⟨_, rfl, _⟩ := h
    rfl
  · obtain ⟨n, rfl, h0, k⟩ := h
    refine ⟨_, (pss_one (ps_ret (pe_and (pc C__law_right (hr.mono (by decide)) (by rfl) (pa_cons (pcK KC_ratio_1 (hr.mono (by decide)) (by rfl) (pa_cons (pv 0) pa_nil) pk_nil) (pa_cons (pv 0) (pa_cons pe_int pa_nil)))) (pe_and (pc C__law_right (hr.mono (by decide)) (by rfl) (pa_cons (pcK0 KC_ratio_0_top (hr.mono (by decide)) (by rfl) (pk_cons (pv 0) pk_nil)) (pa_cons (pv 0) (pa_cons pe_int pa_nil)))) (pe_one (pc C__law_right (hr.mono (by decide)) (by rfl) (pa_cons (pc C_as_ratio (hr.mono (by decide)) (by rfl) (pa_cons (pv 0) pa_nil)) (pa_cons (pv 0) (pa_cons pe_int pa_nil))))))))), ?_⟩
    have b3 := h0.le (show 134 ≤ 300 by decide)
    have bi : BN 300 300 (n : Rat) := (BN.int b3).le (by decide) (by decide)
    have z1 : (n : Rat) * ((1 : Int) : Rat) = (n : Rat) := by simp
    walk_at "g"
    exact k _ (by walk_at "same")
abbrev s__law_asked : Stmt := top 40
theorem sc__law_asked : FnScope ["n", "d", "actual"] ["n", "d"] (defScope s__law_asked) := ⟨rfl, rfl, rfl, by decide +kernel, rfl, by decide +kernel, by decide +kernel⟩
set_option maxHeartbeats 4000000 in
theorem ok__law_asked {f : Addr} {fd : FuncData} (F : FunA K "_law_asked" "_law_asked" s__law_asked f fd) (T : Blt mg) (C_ratio : Cal P w K mg base "ratio" 1 ["top", "bottom"] (sp_ratio K)) (C__law_right : Cal P w K mg base "_law_right" 2 ["actual", "n", "d"] (sp__law_right K)) (C__law_refused : Cal P w K mg base "_law_refused" 2 ["n"] (sp__law_refused K)) (C__law_alone : Cal P w K mg base "_law_alone" 3 ["n"] (sp__law_alone K)) (C_as_ratio : Cal P w K mg base "as_ratio" 1 ["number"] (sp_as_ratio K)) (KC_ratio_0_bottom_top : KCal P w K mg base "ratio" 1 ["top", "bottom"] (sp_ratio K) 0 ["bottom", "top"] (pkV [1, 0] [.int 1])) (KC_as_ratio_0_number : KCal P w K mg base "as_ratio" 1 ["number"] (sp_as_ratio K) 0 ["number"] (pkV [0] [])) : FnOk P w K mg base CX0 4 f fd ["n", "d"] (sp__law_asked K) := by
  refine F.ok sc__law_asked (fun vs H Q E h => ?_) (fun cdv A outer s H vs Q E hr h => ?_)
  · obtain ⟨_, _, rfl, _⟩ := h
    rfl
  · obtain ⟨n, d, rfl, h0, h1, k⟩ := h
    refine ⟨_, (pss_cons (ps_if (PW.pt (pw_or (pt_not (pt_val (pc C__law_alone (hr.mono (by decide)) (by rfl) (pa_cons (pv 0) pa_nil)))) (pw_or1 (pt_not (pt_val (pc C__law_alone (hr.mono (by decide)) (by rfl) (pa_cons (pv 1) pa_nil)))))))
 (pss_one (ps_ret pe_bl))
 pss_nil)
 (pss_cons (ps_if (pt_cmpR op_eq (pv 1) pe_int (nomark _))
 (pss_one (ps_ret (pe_and (pc C__law_refused (hr.mono (by decide)) (by rfl) (pa_cons (pv 0) pa_nil)) (pe_one (pc C__law_right (hr.mono (by decide)) (by rfl) (pa_cons (pc C_ratio (hr.mono (by decide)) (by rfl) (pa_cons (pv 1) (pa_cons pe_int pa_nil))) (pa_cons pe_int (pa_cons pe_int pa_nil))))))))
 pss_nil)
 (pss_cons (ps_set (i := 2) sc__law_asked.nd rfl (.inl rfl) (pc C_ratio (hr.mono (by decide)) (by rfl) (pa_cons (pv 0) (pa_cons (pv 1) pa_nil))))
 (pss_cons (ps_if (PW.pt (pw_or (pt_not (pt_val (pc C__law_right (hr.mono (by decide)) (by rfl) (pa_cons (pv 2) (pa_cons (pv 0) (pa_cons (pv 1) pa_nil)))))) (pw_or1 (pt_not (pt_val (pc C__law_right (hr.mono (by decide)) (by rfl) (pa_cons (pcK0 KC_ratio_0_bottom_top (hr.mono (by decide)) (by rfl) (pk_cons (pv 1) (pk_cons (pv 0) pk_nil))) (pa_cons (pv 0) (pa_cons (pv 1) pa_nil)))))))))
 (pss_one (ps_ret pe_bl))
 pss_nil)
 (pss_cons (ps_if (PW.pt (pw_or (pt_not (pt_val (pc C__law_right (hr.mono (by decide)) (by rfl) (pa_cons (pc C_ratio (hr.mono (by decide)) (by rfl) (pa_cons (pe_un un_neg (pv 0)) (pa_cons (pv 1) pa_nil))) (pa_cons (pe_un un_neg (pv 0)) (pa_cons (pv 1) pa_nil)))))) (pw_or1 (pt_not (pt_val (pc C__law_right (hr.mono (by decide)) (by rfl) (pa_cons (pc C_ratio (hr.mono (by decide)) (by rfl) (pa_cons (pv 0) (pa_cons (pe_un un_neg (pv 1)) pa_nil))) (pa_cons (pv 0) (pa_cons (pe_un un_neg (pv 1)) pa_nil)))))))))
 (pss_one (ps_ret pe_bl))
 pss_nil)
 (pss_cons (ps_if (PW.pt (pw_or (pt_not (pt_val (pc C__law_right (hr.mono (by decide)) (by rfl) (pa_cons (pc C_ratio (hr.mono (by decide)) (by rfl) (pa_cons (pe_ix (kx_tup (K := K) rfl) (pv 2) pe_int (fun _ _ => rfl)) (pa_cons (pe_ix (kx_tup (K := K) rfl) (pv 2) pe_int (fun _ _ => rfl)) pa_nil))) (pa_cons (pv 0) (pa_cons (pv 1) pa_nil)))))) (pw_or1 (pt_not (pt_val (pc C__law_right (hr.mono (by decide)) (by rfl) (pa_cons (pc C_as_ratio (hr.mono (by decide)) (by rfl) (pa_cons (pv 2) pa_nil)) (pa_cons (pv 0) (pa_cons (pv 1) pa_nil)))))))))
 (pss_one (ps_ret pe_bl))
 pss_nil)
 (pss_one (ps_ret (pe_and (pc C__law_right (hr.mono (by decide)) (by rfl) (pa_cons (pcK0 KC_as_ratio_0_number (hr.mono (by decide)) (by rfl) (pk_cons (pv 2) pk_nil)) (pa_cons (pv 0) (pa_cons (pv 1) pa_nil)))) (pe_and (pc C__law_refused (hr.mono (by decide)) (by rfl) (pa_cons (pv 0) pa_nil)) (pe_one (pc C__law_right (hr.mono (by decide)) (by rfl) (pa_cons (pc C_ratio (hr.mono (by decide)) (by rfl) (pa_cons (pv 0) (pa_cons (pv 1) pa_nil))) (pa_cons (pv 0) (pa_cons (pv 1) pa_nil))))))))))))))), ?_⟩
    walk_at "g"
    refine if_eqI (fun e => ?_) (fun e => ?_)
    · subst e
      walk_at "g"
      exact k _ (by walk_at "same")
    · have dz : (d : Rat) ≠ 0 := icz e
      have bq : BN 134 134 ((n : Rat) / (d : Rat)) := BN.dv e h0 h1
      have bq3 : BN 300 300 ((n : Rat) / (d : Rat)) := bq.le (by decide) (by decide)
      have dn0 := denI ((n : Rat) / (d : Rat))
      have dv := dvm (n := n) e
      have nd := ndd ((n : Rat) / (d : Rat))
      have c0 := bq.n
      have c1 := bq.d
      walk_at "g"
      exact k _ (by walk_at "same")
abbrev s_law : Stmt := top 41
theorem sc_law : FnScope ["script", "store", "k", "n", "d", "numbers", "words"] ["script"] (defScope s_law) := ⟨rfl, rfl, rfl, by decide +kernel, rfl, by decide +kernel, by decide +kernel⟩
set_option maxHeartbeats 4000000 in
theorem ok_law {f : Addr} {fd : FuncData} (F : FunA K "law" "law" s_law f fd) (T : Blt mg) (C__law_store : Cal P w K mg base "_law_store" 2 ["script"] (sp__law_store K)) (C__law_pair : Cal P w K mg base "_law_pair" 5 ["store"] (sp__law_pair K)) (C__law_integer : Cal P w K mg base "_law_integer" 4 ["store"] (sp__law_integer K)) (C__law_text : Cal P w K mg base "_law_text" 4 ["store", "most"] (sp__law_text K)) (C__law_pick : Cal P w K mg base "_law_pick" 3 ["store", "items"] (sp__law_pick K)) (C__law_holds_what : Cal P w K mg base "_law_holds_what" 3 ["numbers", "words"] (sp__law_holds_what K)) (C__law_classes : Cal P w K mg base "_law_classes" 3 ["numbers", "words"] (sp__law_classes K)) (C__law_take : Cal P w K mg base "_law_take" 2 ["store", "many"] (sp__law_take K)) (C__law_asked : Cal P w K mg base "_law_asked" 4 ["n", "d"] (sp__law_asked K)) (C__law_refused : Cal P w K mg base "_law_refused" 2 ["n"] (sp__law_refused K)) : FnOk P w K mg base CX0 6 f fd ["script"] (sp_law K) := by
  refine F.ok sc_law (fun vs H Q E h => ?_) (fun cdv A outer s H vs Q E hr h => ?_)
  · obtain ⟨_, _, rfl, _⟩ := h
    rfl
  · obtain ⟨sa, ns, rfl, h0, h1, k⟩ := h
    refine ⟨_, (pss_cons (ps_set (i := 1) sc_law.nd rfl (.inr rfl) (pc C__law_store (hr.mono (by decide)) (by rfl) (pa_cons (pv 0) pa_nil)))
 (pss_cons (ps_for PassesOwn.never rfl (pi_range1 (by rfl) T.range (pa_cons (pe_op op_add pe_int (pc C__law_take (hr.mono (by decide)) (by rfl) (pa_cons (pv 1) (pa_cons pe_int pa_nil)))) pa_nil)) (pg_name (i := 2) sc_law.nd rfl (.inl rfl))
 (pss_cons (ps_asg (pc C__law_pair (hr.mono (by decide)) (by rfl) (pa_cons (pv 1) pa_nil)) (kg_tup (K := K) (n := 2) rfl rfl (pgs_cons (pg_name (i := 3) sc_law.nd rfl (.inl rfl)) (pgs_cons (pg_name (i := 4) sc_law.nd rfl (.inl rfl)) pgs_nil))))
 (pss_one (ps_if (PW.pt (pw_or (pt_not (pt_val (pc C__law_asked (hr.mono (by decide)) (by rfl) (pa_cons (pv 3) (pa_cons (pv 4) pa_nil))))) (pw_or1 (pt_not (pt_val (pc C__law_refused (hr.mono (by decide)) (by rfl) (pa_cons (pc C__law_integer (hr.mono (by decide)) (by rfl) (pa_cons (pv 1) pa_nil)) pa_nil)))))))
 (pss_one (ps_ret pe_bl))
 pss_nil))))
 (pss_cons (ps_setLc (i := 5) (own := [("k", 2)]) rfl sc_law.nd rfl rfl (sw_true rfl rfl rfl (by decide +kernel)) (pi_range1 (by rfl) T.range (pa_cons pe_int pa_nil)) (blkOk_by (own := [("k", 2)]) (N := ["script", "store", "k", "n", "d", "numbers", "words"]) (sc := defScope s_law) (by decide +kernel)) (fun _ _ _ _ _ => (pg_name (i := 2) sc_law.nd rfl (.inl rfl))) (fun _ _ _ _ _ => pts_nil) (fun _ _ _ _ _ => (pc C__law_integer (hr.mono (by decide)) (by rfl) (pa_cons (pv 1) pa_nil))))
 (pss_cons (ps_set (i := 6) sc_law.nd rfl (.inl rfl) (pe_lst (pa_cons (pc C__law_text (hr.mono (by decide)) (by rfl) (pa_cons (pv 1) (pa_cons pe_int pa_nil))) (pa_cons (pc C__law_pick (hr.mono (by decide)) (by rfl) (pa_cons (pv 1) (pa_cons (pe_lst (pa_cons pe_str (pa_cons pe_str (pa_cons pe_str (pa_cons pe_str pa_nil))))) pa_nil))) pa_nil))))
 (pss_one (ps_ret (pe_and (pc C__law_holds_what (hr.mono (by decide)) (by rfl) (pa_cons (pv 5) (pa_cons (pv 6) pa_nil))) (pe_one (pc C__law_classes (hr.mono (by decide)) (by rfl) (pa_cons (pv 5) (pa_cons (pv 6) pa_nil))))))))))), ?_⟩
    walk_at "g"
    rename_i H1 st s1 t1 H2 m f2 t2 m0 m1
    obtain ⟨z, hz⟩ : ∃ z : Nat, (1 + m).toNat = z := ⟨_, rfl⟩
    rw [hz]
    refine f_range (n := z) (fun i σ' H' => (∃ o2 o3 o4, σ' = [some (.ref sa), some (.ref st), o2, o3, o4, none, none]) ∧ St K H' st) ⟨⟨_, _, _, rfl⟩, t2⟩ ?_ ?_
    · rintro i σ' H3 hi ⟨⟨o2, o3, o4, rfl⟩, t3⟩
      walk_at "g"
      exact ⟨⟨_, _, _, rfl⟩, by walk_at "st"⟩
    · rintro σ' H3 ⟨⟨o2, o3, o4, rfl⟩, t3⟩
      clear t2 f2 t1 s1
      walk_at "g"
      intro Da hD
      have LG := lcG_go (K := K) (s := st) (J := fun n acc H' => ∃ zs : List Int, acc = zs.map V.int) hD t3 (fun _ _ _ _ e h => h)
      refine lc_rngG (K := K) (n := 3) LG (go_new hD t3) ⟨[], rfl⟩ (fun _ => rfl) ?_ ?_
      · rintro i acc H4 hi ha hDa ⟨fg, sg⟩ ⟨zs, rfl⟩
        walk_at "g"
        rename_i H5 r f5 t5 b5
        exact r_lcQ (K := K) LG (by omega) ha (Fr.lstN f5 sg hDa (notS_len (by rw [ha]; simp; omega))) ⟨fg.trans f5, t5⟩ ⟨zs ++ [r], by simp⟩
      rintro acc H4 ha hDa ⟨fg, sg⟩ ⟨zs, rfl⟩
      obtain ⟨n0, n1, n2, rfl⟩ : ∃ a b c, zs = [a, b, c] := by
        match zs, ha with
        | [a, b, c], _ => exact ⟨a, b, c, rfl⟩
      replace hDa : H4 Da = some (.lst [.int n0, .int n1, .int n2]) := hDa
      walk_at "g"
      rename_i H5 x f5 t5 p6 H6 n6 s6 h6 H7 i v f7 t7 ev p8 H8 n8 s8 h8
      obtain ⟨u, rfl⟩ : ∃ u : Str, v = .str u := by
        rcases i with _ | _ | _ | _ | i
        · cases ev; exact ⟨_, rfl⟩
        · cases ev; exact ⟨_, rfl⟩
        · cases ev; exact ⟨_, rfl⟩
        · cases ev; exact ⟨_, rfl⟩
        · simp at ev
      have hD8 : H8 Da = some (.lst [.int n0, .int n1, .int n2]) := s8 _ _ (Fr.lstN f7 (St.same s6 t5) (s6 _ _ (Fr.lstN f5 sg hDa rfl)) rfl)
      walk_at "g"
      exact k _
end
set_option maxHeartbeats 0 in
theorem all_mk {l : PySem.W.OpenLaw} {w : World} {K : PySem.W.Frag} {h : Heap} {mg : Str → Option Value} {fa : Addr} (X : K.In h) (G : h.Ns mainGlobals mg) (hfa : mg "law" = some (.ref fa))
    {f0 : Addr} {od0 an0 : Option Addr} {sl0 : Array (Option Value)} {oc0 kV0 dc0 pm0 cd0 ct0 : Value} {T0 : Addr} {oT0 : Obj} {its0 : Array Value} {m0 : Nat}
    (a0 : PySem.W.nsIn K mainGlobals "ratio" = some (some (.ref f0))) (l0 : K.lookup f0 = some ⟨oc0, od0, .func (PySem.W.fnOf "ratio" "ratio" (defArgs s_ratio) (defBody s_ratio) (defScope s_ratio) (.ref T0) kV0 dc0 pm0 an0 cd0 ct0), sl0⟩) (c0 : PySem.W.codeIn K cd0 "ratio" = true) (k0 : PySem.W.keepIn K (.ref f0) = true) (lT0 : K.lookup T0 = some oT0) (dT0 : oT0.data = .seq its0 m0) (vT0 : Vals [.int 1] its0.toList)
    {f1 : Addr} {od1 an1 : Option Addr} {sl1 : Array (Option Value)} {oc1 kV1 dc1 pm1 cd1 ct1 : Value}
    (a1 : PySem.W.nsIn K mainGlobals "as_ratio" = some (some (.ref f1))) (l1 : K.lookup f1 = some ⟨oc1, od1, .func (PySem.W.fnOf "as_ratio" "as_ratio" (defArgs s_as_ratio) (defBody s_as_ratio) (defScope s_as_ratio) .none kV1 dc1 pm1 an1 cd1 ct1), sl1⟩) (c1 : PySem.W.codeIn K cd1 "as_ratio" = true) (k1 : PySem.W.keepIn K (.ref f1) = true)
    {f2 : Addr} {od2 an2 : Option Addr} {sl2 : Array (Option Value)} {oc2 kV2 dc2 pm2 cd2 ct2 : Value}
    (a2 : PySem.W.nsIn K mainGlobals "_law_mix" = some (some (.ref f2))) (l2 : K.lookup f2 = some ⟨oc2, od2, .func (PySem.W.fnOf "_law_mix" "_law_mix" (defArgs s__law_mix) (defBody s__law_mix) (defScope s__law_mix) .none kV2 dc2 pm2 an2 cd2 ct2), sl2⟩) (c2 : PySem.W.codeIn K cd2 "_law_mix" = true) (k2 : PySem.W.keepIn K (.ref f2) = true)
    {f3 : Addr} {od3 an3 : Option Addr} {sl3 : Array (Option Value)} {oc3 kV3 dc3 pm3 cd3 ct3 : Value}
    (a3 : PySem.W.nsIn K mainGlobals "_law_store" = some (some (.ref f3))) (l3 : K.lookup f3 = some ⟨oc3, od3, .func (PySem.W.fnOf "_law_store" "_law_store" (defArgs s__law_store) (defBody s__law_store) (defScope s__law_store) .none kV3 dc3 pm3 an3 cd3 ct3), sl3⟩) (c3 : PySem.W.codeIn K cd3 "_law_store" = true) (k3 : PySem.W.keepIn K (.ref f3) = true)
    {f4 : Addr} {od4 an4 : Option Addr} {sl4 : Array (Option Value)} {oc4 kV4 dc4 pm4 cd4 ct4 : Value}
    (a4 : PySem.W.nsIn K mainGlobals "_law_take" = some (some (.ref f4))) (l4 : K.lookup f4 = some ⟨oc4, od4, .func (PySem.W.fnOf "_law_take" "_law_take" (defArgs s__law_take) (defBody s__law_take) (defScope s__law_take) .none kV4 dc4 pm4 an4 cd4 ct4), sl4⟩) (c4 : PySem.W.codeIn K cd4 "_law_take" = true) (k4 : PySem.W.keepIn K (.ref f4) = true)
    {f5 : Addr} {od5 an5 : Option Addr} {sl5 : Array (Option Value)} {oc5 kV5 dc5 pm5 cd5 ct5 : Value}
    (a5 : PySem.W.nsIn K mainGlobals "_law_pick" = some (some (.ref f5))) (l5 : K.lookup f5 = some ⟨oc5, od5, .func (PySem.W.fnOf "_law_pick" "_law_pick" (defArgs s__law_pick) (defBody s__law_pick) (defScope s__law_pick) .none kV5 dc5 pm5 an5 cd5 ct5), sl5⟩) (c5 : PySem.W.codeIn K cd5 "_law_pick" = true) (k5 : PySem.W.keepIn K (.ref f5) = true)
    {f6 : Addr} {od6 an6 : Option Addr} {sl6 : Array (Option Value)} {oc6 kV6 dc6 pm6 cd6 ct6 : Value}
    (a6 : PySem.W.nsIn K mainGlobals "_law_few" = some (some (.ref f6))) (l6 : K.lookup f6 = some ⟨oc6, od6, .func (PySem.W.fnOf "_law_few" "_law_few" (defArgs s__law_few) (defBody s__law_few) (defScope s__law_few) .none kV6 dc6 pm6 an6 cd6 ct6), sl6⟩) (c6 : PySem.W.codeIn K cd6 "_law_few" = true) (k6 : PySem.W.keepIn K (.ref f6) = true)
    {f7 : Addr} {od7 an7 : Option Addr} {sl7 : Array (Option Value)} {oc7 kV7 dc7 pm7 cd7 ct7 : Value}
    (a7 : PySem.W.nsIn K mainGlobals "_law_wide" = some (some (.ref f7))) (l7 : K.lookup f7 = some ⟨oc7, od7, .func (PySem.W.fnOf "_law_wide" "_law_wide" (defArgs s__law_wide) (defBody s__law_wide) (defScope s__law_wide) .none kV7 dc7 pm7 an7 cd7 ct7), sl7⟩) (c7 : PySem.W.codeIn K cd7 "_law_wide" = true) (k7 : PySem.W.keepIn K (.ref f7) = true)
    {f8 : Addr} {od8 an8 : Option Addr} {sl8 : Array (Option Value)} {oc8 kV8 dc8 pm8 cd8 ct8 : Value}
    (a8 : PySem.W.nsIn K mainGlobals "_law_integer" = some (some (.ref f8))) (l8 : K.lookup f8 = some ⟨oc8, od8, .func (PySem.W.fnOf "_law_integer" "_law_integer" (defArgs s__law_integer) (defBody s__law_integer) (defScope s__law_integer) .none kV8 dc8 pm8 an8 cd8 ct8), sl8⟩) (c8 : PySem.W.codeIn K cd8 "_law_integer" = true) (k8 : PySem.W.keepIn K (.ref f8) = true)
    {f9 : Addr} {od9 an9 : Option Addr} {sl9 : Array (Option Value)} {oc9 kV9 dc9 pm9 cd9 ct9 : Value}
    (a9 : PySem.W.nsIn K mainGlobals "_law_gcd" = some (some (.ref f9))) (l9 : K.lookup f9 = some ⟨oc9, od9, .func (PySem.W.fnOf "_law_gcd" "_law_gcd" (defArgs s__law_gcd) (defBody s__law_gcd) (defScope s__law_gcd) .none kV9 dc9 pm9 an9 cd9 ct9), sl9⟩) (c9 : PySem.W.codeIn K cd9 "_law_gcd" = true) (k9 : PySem.W.keepIn K (.ref f9) = true)
    {f10 : Addr} {od10 an10 : Option Addr} {sl10 : Array (Option Value)} {oc10 kV10 dc10 pm10 cd10 ct10 : Value}
    (a10 : PySem.W.nsIn K mainGlobals "_law_text" = some (some (.ref f10))) (l10 : K.lookup f10 = some ⟨oc10, od10, .func (PySem.W.fnOf "_law_text" "_law_text" (defArgs s__law_text) (defBody s__law_text) (defScope s__law_text) .none kV10 dc10 pm10 an10 cd10 ct10), sl10⟩) (c10 : PySem.W.codeIn K cd10 "_law_text" = true) (k10 : PySem.W.keepIn K (.ref f10) = true)
    {f11 : Addr} {od11 an11 : Option Addr} {sl11 : Array (Option Value)} {oc11 kV11 dc11 pm11 cd11 ct11 : Value}
    (a11 : PySem.W.nsIn K mainGlobals "_law_is_integer" = some (some (.ref f11))) (l11 : K.lookup f11 = some ⟨oc11, od11, .func (PySem.W.fnOf "_law_is_integer" "_law_is_integer" (defArgs s__law_is_integer) (defBody s__law_is_integer) (defScope s__law_is_integer) .none kV11 dc11 pm11 an11 cd11 ct11), sl11⟩) (c11 : PySem.W.codeIn K cd11 "_law_is_integer" = true) (k11 : PySem.W.keepIn K (.ref f11) = true)
    {f12 : Addr} {od12 an12 : Option Addr} {sl12 : Array (Option Value)} {oc12 kV12 dc12 pm12 cd12 ct12 : Value}
    (a12 : PySem.W.nsIn K mainGlobals "_law_error" = some (some (.ref f12))) (l12 : K.lookup f12 = some ⟨oc12, od12, .func (PySem.W.fnOf "_law_error" "_law_error" (defArgs s__law_error) (defBody s__law_error) (defScope s__law_error) .none kV12 dc12 pm12 an12 cd12 ct12), sl12⟩) (c12 : PySem.W.codeIn K cd12 "_law_error" = true) (k12 : PySem.W.keepIn K (.ref f12) = true)
    {f13 : Addr} {od13 an13 : Option Addr} {sl13 : Array (Option Value)} {oc13 kV13 dc13 pm13 cd13 ct13 : Value}
    (a13 : PySem.W.nsIn K mainGlobals "_law_holds_what" = some (some (.ref f13))) (l13 : K.lookup f13 = some ⟨oc13, od13, .func (PySem.W.fnOf "_law_holds_what" "_law_holds_what" (defArgs s__law_holds_what) (defBody s__law_holds_what) (defScope s__law_holds_what) .none kV13 dc13 pm13 an13 cd13 ct13), sl13⟩) (c13 : PySem.W.codeIn K cd13 "_law_holds_what" = true) (k13 : PySem.W.keepIn K (.ref f13) = true)
    {f14 : Addr} {od14 an14 : Option Addr} {sl14 : Array (Option Value)} {oc14 kV14 dc14 pm14 cd14 ct14 : Value}
    (a14 : PySem.W.nsIn K mainGlobals "_law_classes" = some (some (.ref f14))) (l14 : K.lookup f14 = some ⟨oc14, od14, .func (PySem.W.fnOf "_law_classes" "_law_classes" (defArgs s__law_classes) (defBody s__law_classes) (defScope s__law_classes) .none kV14 dc14 pm14 an14 cd14 ct14), sl14⟩) (c14 : PySem.W.codeIn K cd14 "_law_classes" = true) (k14 : PySem.W.keepIn K (.ref f14) = true)
    {f15 : Addr} {od15 an15 : Option Addr} {sl15 : Array (Option Value)} {oc15 kV15 dc15 pm15 cd15 ct15 : Value}
    (a15 : PySem.W.nsIn K mainGlobals "_law_refused" = some (some (.ref f15))) (l15 : K.lookup f15 = some ⟨oc15, od15, .func (PySem.W.fnOf "_law_refused" "_law_refused" (defArgs s__law_refused) (defBody s__law_refused) (defScope s__law_refused) .none kV15 dc15 pm15 an15 cd15 ct15), sl15⟩) (c15 : PySem.W.codeIn K cd15 "_law_refused" = true) (k15 : PySem.W.keepIn K (.ref f15) = true)
    {f16 : Addr} {od16 an16 : Option Addr} {sl16 : Array (Option Value)} {oc16 kV16 dc16 pm16 cd16 ct16 : Value}
    (a16 : PySem.W.nsIn K mainGlobals "_law_pair" = some (some (.ref f16))) (l16 : K.lookup f16 = some ⟨oc16, od16, .func (PySem.W.fnOf "_law_pair" "_law_pair" (defArgs s__law_pair) (defBody s__law_pair) (defScope s__law_pair) .none kV16 dc16 pm16 an16 cd16 ct16), sl16⟩) (c16 : PySem.W.codeIn K cd16 "_law_pair" = true) (k16 : PySem.W.keepIn K (.ref f16) = true)
    {f17 : Addr} {od17 an17 : Option Addr} {sl17 : Array (Option Value)} {oc17 kV17 dc17 pm17 cd17 ct17 : Value}
    (a17 : PySem.W.nsIn K mainGlobals "_law_right" = some (some (.ref f17))) (l17 : K.lookup f17 = some ⟨oc17, od17, .func (PySem.W.fnOf "_law_right" "_law_right" (defArgs s__law_right) (defBody s__law_right) (defScope s__law_right) .none kV17 dc17 pm17 an17 cd17 ct17), sl17⟩) (c17 : PySem.W.codeIn K cd17 "_law_right" = true) (k17 : PySem.W.keepIn K (.ref f17) = true)
    {f18 : Addr} {od18 an18 : Option Addr} {sl18 : Array (Option Value)} {oc18 kV18 dc18 pm18 cd18 ct18 : Value}
    (a18 : PySem.W.nsIn K mainGlobals "_law_alone" = some (some (.ref f18))) (l18 : K.lookup f18 = some ⟨oc18, od18, .func (PySem.W.fnOf "_law_alone" "_law_alone" (defArgs s__law_alone) (defBody s__law_alone) (defScope s__law_alone) .none kV18 dc18 pm18 an18 cd18 ct18), sl18⟩) (c18 : PySem.W.codeIn K cd18 "_law_alone" = true) (k18 : PySem.W.keepIn K (.ref f18) = true)
    {f19 : Addr} {od19 an19 : Option Addr} {sl19 : Array (Option Value)} {oc19 kV19 dc19 pm19 cd19 ct19 : Value}
    (a19 : PySem.W.nsIn K mainGlobals "_law_asked" = some (some (.ref f19))) (l19 : K.lookup f19 = some ⟨oc19, od19, .func (PySem.W.fnOf "_law_asked" "_law_asked" (defArgs s__law_asked) (defBody s__law_asked) (defScope s__law_asked) .none kV19 dc19 pm19 an19 cd19 ct19), sl19⟩) (c19 : PySem.W.codeIn K cd19 "_law_asked" = true) (k19 : PySem.W.keepIn K (.ref f19) = true)
    {f20 : Addr} {od20 an20 : Option Addr} {sl20 : Array (Option Value)} {oc20 kV20 dc20 pm20 cd20 ct20 : Value}
    (a20 : PySem.W.nsIn K mainGlobals "law" = some (some (.ref f20))) (l20 : K.lookup f20 = some ⟨oc20, od20, .func (PySem.W.fnOf "law" "law" (defArgs s_law) (defBody s_law) (defScope s_law) .none kV20 dc20 pm20 an20 cd20 ct20), sl20⟩) (c20 : PySem.W.codeIn K cd20 "law" = true) (k20 : PySem.W.keepIn K (.ref f20) = true)
    (z_len : PySem.W.nsIn K mainGlobals "len" = some none)
    (z_int : PySem.W.nsIn K mainGlobals "int" = some none)
    (z_abs : PySem.W.nsIn K mainGlobals "abs" = some none)
    (z_max : PySem.W.nsIn K mainGlobals "max" = some none)
    (z_min : PySem.W.nsIn K mainGlobals "min" = some none)
    (z_range : PySem.W.nsIn K mainGlobals "range" = some none)
    (z_isinstance : PySem.W.nsIn K mainGlobals "isinstance" = some none)
    (z_list : PySem.W.nsIn K mainGlobals "list" = some none)
    (z_tuple : PySem.W.nsIn K mainGlobals "tuple" = some none)
    (z_bool : PySem.W.nsIn K mainGlobals "bool" = some none)
    (z_str : PySem.W.nsIn K mainGlobals "str" = some none)
    (z_zip : PySem.W.nsIn K mainGlobals "zip" = some none)
    (z_enumerate : PySem.W.nsIn K mainGlobals "enumerate" = some none)
    (z_sum : PySem.W.nsIn K mainGlobals "sum" = some none)
    (g_gcd : PySem.W.nsIn K mainGlobals "gcd" = some (some (.builtin "math.gcd")))
    {x_SpaceError : Addr} {x_TextFault : Addr} {x_RunFault : Addr} {x_BadRow : Addr} {x_ZeroDenominator : Addr} {x_NoNormal : Addr} {x_InLine : Addr} {x_Flat : Addr} {x_BadPolygon : Addr} {x_Singular : Addr} {x_NoDirection : Addr} {x_BadPath : Addr} {x_TooLarge : Addr} {x_BadOrder : Addr} {x_Unbounded : Addr} {x_NoParting : Addr} {x_NothingToUndo : Addr}
    (gx_SpaceError : PySem.W.nsIn K mainGlobals "SpaceError" = some (some (.ref x_SpaceError)))
    (gx_TextFault : PySem.W.nsIn K mainGlobals "TextFault" = some (some (.ref x_TextFault)))
    (gx_RunFault : PySem.W.nsIn K mainGlobals "RunFault" = some (some (.ref x_RunFault)))
    (gx_BadRow : PySem.W.nsIn K mainGlobals "BadRow" = some (some (.ref x_BadRow)))
    (gx_ZeroDenominator : PySem.W.nsIn K mainGlobals "ZeroDenominator" = some (some (.ref x_ZeroDenominator)))
    (gx_NoNormal : PySem.W.nsIn K mainGlobals "NoNormal" = some (some (.ref x_NoNormal)))
    (gx_InLine : PySem.W.nsIn K mainGlobals "InLine" = some (some (.ref x_InLine)))
    (gx_Flat : PySem.W.nsIn K mainGlobals "Flat" = some (some (.ref x_Flat)))
    (gx_BadPolygon : PySem.W.nsIn K mainGlobals "BadPolygon" = some (some (.ref x_BadPolygon)))
    (gx_Singular : PySem.W.nsIn K mainGlobals "Singular" = some (some (.ref x_Singular)))
    (gx_NoDirection : PySem.W.nsIn K mainGlobals "NoDirection" = some (some (.ref x_NoDirection)))
    (gx_BadPath : PySem.W.nsIn K mainGlobals "BadPath" = some (some (.ref x_BadPath)))
    (gx_TooLarge : PySem.W.nsIn K mainGlobals "TooLarge" = some (some (.ref x_TooLarge)))
    (gx_BadOrder : PySem.W.nsIn K mainGlobals "BadOrder" = some (some (.ref x_BadOrder)))
    (gx_Unbounded : PySem.W.nsIn K mainGlobals "Unbounded" = some (some (.ref x_Unbounded)))
    (gx_NoParting : PySem.W.nsIn K mainGlobals "NoParting" = some (some (.ref x_NoParting)))
    (gx_NothingToUndo : PySem.W.nsIn K mainGlobals "NothingToUndo" = some (some (.ref x_NothingToUndo)))
    (fk_ZeroDenominator : PySem.W.keepIn K (.ref x_ZeroDenominator) = true)
    (fe_ZeroDenominator : PySem.W.excIn K x_ZeroDenominator [.type "ValueError", .type "Exception", .type "BaseException", .type "object"] "ValueError.__new__" = true)
    (fb_ZeroDenominator : PySem.W.subIn K (.ref x_ZeroDenominator) (.type "BaseException") = some true)
    (ft_ZeroDenominator : PySem.W.typeIn K (.ref x_ZeroDenominator) = some (.type "type"))
    (xg_ZeroDenominator : PySem.W.findIn K (.ref x_ZeroDenominator) "__getattribute__" = some (some (.builtin "BaseException.__getattribute__")))
    (xk_ZeroDenominator : PySem.W.findIn K (.ref x_ZeroDenominator) "__getattr__" = some none)
    (hd_ZeroDenominator : PySem.W.hasDictIn K x_ZeroDenominator = true)
    (xa_ZeroDenominator : PySem.W.findIn K (.ref x_ZeroDenominator) "__class__" = some (some (.builtin "object.__class__")))
    (xn : PySem.W.specialIn K (.builtin "object.__class__") "__get__" = some (some (.builtin "getset_descriptor.__get__")))
    (xt : PySem.W.takesIn K (.builtin "object.__class__") = some true)
    (xm_ZeroDenominator : PySem.W.mroIn K x_ZeroDenominator (.type "object") = some true)
    (fb_SpaceError : PySem.W.subIn K (.ref x_SpaceError) (.type "BaseException") = some true)
    (hd_SpaceError : PySem.W.hasDictIn K x_SpaceError = true)
    (ft_SpaceError : PySem.W.typeIn K (.ref x_SpaceError) = some (.type "type"))
    (sx_ZeroDenominator_SpaceError : PySem.W.subIn K (.ref x_ZeroDenominator) (.ref x_SpaceError) = some true)
    (nx_ZeroDenominator_SpaceError : (Value.ref x_ZeroDenominator == Value.ref x_SpaceError) = false)
    (hd_TextFault : PySem.W.hasDictIn K x_TextFault = true)
    (ft_TextFault : PySem.W.typeIn K (.ref x_TextFault) = some (.type "type"))
    (sx_ZeroDenominator_TextFault : PySem.W.subIn K (.ref x_ZeroDenominator) (.ref x_TextFault) = some false)
    (nx_ZeroDenominator_TextFault : (Value.ref x_ZeroDenominator == Value.ref x_TextFault) = false)
    (hd_RunFault : PySem.W.hasDictIn K x_RunFault = true)
    (ft_RunFault : PySem.W.typeIn K (.ref x_RunFault) = some (.type "type"))
    (sx_ZeroDenominator_RunFault : PySem.W.subIn K (.ref x_ZeroDenominator) (.ref x_RunFault) = some false)
    (nx_ZeroDenominator_RunFault : (Value.ref x_ZeroDenominator == Value.ref x_RunFault) = false)
    (hd_BadRow : PySem.W.hasDictIn K x_BadRow = true)
    (ft_BadRow : PySem.W.typeIn K (.ref x_BadRow) = some (.type "type"))
    (sx_ZeroDenominator_BadRow : PySem.W.subIn K (.ref x_ZeroDenominator) (.ref x_BadRow) = some false)
    (nx_ZeroDenominator_BadRow : (Value.ref x_ZeroDenominator == Value.ref x_BadRow) = false)
    (hd_NoNormal : PySem.W.hasDictIn K x_NoNormal = true)
    (ft_NoNormal : PySem.W.typeIn K (.ref x_NoNormal) = some (.type "type"))
    (sx_ZeroDenominator_NoNormal : PySem.W.subIn K (.ref x_ZeroDenominator) (.ref x_NoNormal) = some false)
    (nx_ZeroDenominator_NoNormal : (Value.ref x_ZeroDenominator == Value.ref x_NoNormal) = false)
    (hd_InLine : PySem.W.hasDictIn K x_InLine = true)
    (ft_InLine : PySem.W.typeIn K (.ref x_InLine) = some (.type "type"))
    (sx_ZeroDenominator_InLine : PySem.W.subIn K (.ref x_ZeroDenominator) (.ref x_InLine) = some false)
    (nx_ZeroDenominator_InLine : (Value.ref x_ZeroDenominator == Value.ref x_InLine) = false)
    (hd_Flat : PySem.W.hasDictIn K x_Flat = true)
    (ft_Flat : PySem.W.typeIn K (.ref x_Flat) = some (.type "type"))
    (sx_ZeroDenominator_Flat : PySem.W.subIn K (.ref x_ZeroDenominator) (.ref x_Flat) = some false)
    (nx_ZeroDenominator_Flat : (Value.ref x_ZeroDenominator == Value.ref x_Flat) = false)
    (hd_BadPolygon : PySem.W.hasDictIn K x_BadPolygon = true)
    (ft_BadPolygon : PySem.W.typeIn K (.ref x_BadPolygon) = some (.type "type"))
    (sx_ZeroDenominator_BadPolygon : PySem.W.subIn K (.ref x_ZeroDenominator) (.ref x_BadPolygon) = some false)
    (nx_ZeroDenominator_BadPolygon : (Value.ref x_ZeroDenominator == Value.ref x_BadPolygon) = false)
    (hd_Singular : PySem.W.hasDictIn K x_Singular = true)
    (ft_Singular : PySem.W.typeIn K (.ref x_Singular) = some (.type "type"))
    (sx_ZeroDenominator_Singular : PySem.W.subIn K (.ref x_ZeroDenominator) (.ref x_Singular) = some false)
    (nx_ZeroDenominator_Singular : (Value.ref x_ZeroDenominator == Value.ref x_Singular) = false)
    (hd_NoDirection : PySem.W.hasDictIn K x_NoDirection = true)
    (ft_NoDirection : PySem.W.typeIn K (.ref x_NoDirection) = some (.type "type"))
    (sx_ZeroDenominator_NoDirection : PySem.W.subIn K (.ref x_ZeroDenominator) (.ref x_NoDirection) = some false)
    (nx_ZeroDenominator_NoDirection : (Value.ref x_ZeroDenominator == Value.ref x_NoDirection) = false)
    (hd_BadPath : PySem.W.hasDictIn K x_BadPath = true)
    (ft_BadPath : PySem.W.typeIn K (.ref x_BadPath) = some (.type "type"))
    (sx_ZeroDenominator_BadPath : PySem.W.subIn K (.ref x_ZeroDenominator) (.ref x_BadPath) = some false)
    (nx_ZeroDenominator_BadPath : (Value.ref x_ZeroDenominator == Value.ref x_BadPath) = false)
    (hd_TooLarge : PySem.W.hasDictIn K x_TooLarge = true)
    (ft_TooLarge : PySem.W.typeIn K (.ref x_TooLarge) = some (.type "type"))
    (sx_ZeroDenominator_TooLarge : PySem.W.subIn K (.ref x_ZeroDenominator) (.ref x_TooLarge) = some false)
    (nx_ZeroDenominator_TooLarge : (Value.ref x_ZeroDenominator == Value.ref x_TooLarge) = false)
    (hd_BadOrder : PySem.W.hasDictIn K x_BadOrder = true)
    (ft_BadOrder : PySem.W.typeIn K (.ref x_BadOrder) = some (.type "type"))
    (sx_ZeroDenominator_BadOrder : PySem.W.subIn K (.ref x_ZeroDenominator) (.ref x_BadOrder) = some false)
    (nx_ZeroDenominator_BadOrder : (Value.ref x_ZeroDenominator == Value.ref x_BadOrder) = false)
    (hd_Unbounded : PySem.W.hasDictIn K x_Unbounded = true)
    (ft_Unbounded : PySem.W.typeIn K (.ref x_Unbounded) = some (.type "type"))
    (sx_ZeroDenominator_Unbounded : PySem.W.subIn K (.ref x_ZeroDenominator) (.ref x_Unbounded) = some false)
    (nx_ZeroDenominator_Unbounded : (Value.ref x_ZeroDenominator == Value.ref x_Unbounded) = false)
    (hd_NoParting : PySem.W.hasDictIn K x_NoParting = true)
    (ft_NoParting : PySem.W.typeIn K (.ref x_NoParting) = some (.type "type"))
    (sx_ZeroDenominator_NoParting : PySem.W.subIn K (.ref x_ZeroDenominator) (.ref x_NoParting) = some false)
    (nx_ZeroDenominator_NoParting : (Value.ref x_ZeroDenominator == Value.ref x_NoParting) = false)
    (hd_NothingToUndo : PySem.W.hasDictIn K x_NothingToUndo = true)
    (ft_NothingToUndo : PySem.W.typeIn K (.ref x_NothingToUndo) = some (.type "type"))
    (sx_ZeroDenominator_NothingToUndo : PySem.W.subIn K (.ref x_ZeroDenominator) (.ref x_NothingToUndo) = some false)
    (nx_ZeroDenominator_NothingToUndo : (Value.ref x_ZeroDenominator == Value.ref x_NothingToUndo) = false)
    (vx_ZeroDenominator : PySem.W.subIn K (.ref x_ZeroDenominator) (.type "ValueError") = some true)
    (fk_SpaceError : PySem.W.keepIn K (.ref x_SpaceError) = true)
    (fe_SpaceError : PySem.W.excIn K x_SpaceError [.type "ValueError", .type "Exception", .type "BaseException", .type "object"] "ValueError.__new__" = true)
    (fk_NoNormal : PySem.W.keepIn K (.ref x_NoNormal) = true)
    (fe_NoNormal : PySem.W.excIn K x_NoNormal [.type "ValueError", .type "Exception", .type "BaseException", .type "object"] "ValueError.__new__" = true)
    (fk_InLine : PySem.W.keepIn K (.ref x_InLine) = true)
    (fe_InLine : PySem.W.excIn K x_InLine [.type "ValueError", .type "Exception", .type "BaseException", .type "object"] "ValueError.__new__" = true)
    (fk_Flat : PySem.W.keepIn K (.ref x_Flat) = true)
    (fe_Flat : PySem.W.excIn K x_Flat [.type "ValueError", .type "Exception", .type "BaseException", .type "object"] "ValueError.__new__" = true)
    (fk_BadPolygon : PySem.W.keepIn K (.ref x_BadPolygon) = true)
    (fe_BadPolygon : PySem.W.excIn K x_BadPolygon [.type "ValueError", .type "Exception", .type "BaseException", .type "object"] "ValueError.__new__" = true)
    (fk_Singular : PySem.W.keepIn K (.ref x_Singular) = true)
    (fe_Singular : PySem.W.excIn K x_Singular [.type "ValueError", .type "Exception", .type "BaseException", .type "object"] "ValueError.__new__" = true)
    (fk_NoDirection : PySem.W.keepIn K (.ref x_NoDirection) = true)
    (fe_NoDirection : PySem.W.excIn K x_NoDirection [.type "ValueError", .type "Exception", .type "BaseException", .type "object"] "ValueError.__new__" = true)
    (fk_BadPath : PySem.W.keepIn K (.ref x_BadPath) = true)
    (fe_BadPath : PySem.W.excIn K x_BadPath [.type "ValueError", .type "Exception", .type "BaseException", .type "object"] "ValueError.__new__" = true)
    (fk_BadOrder : PySem.W.keepIn K (.ref x_BadOrder) = true)
    (fe_BadOrder : PySem.W.excIn K x_BadOrder [.type "ValueError", .type "Exception", .type "BaseException", .type "object"] "ValueError.__new__" = true)
    (fk_Unbounded : PySem.W.keepIn K (.ref x_Unbounded) = true)
    (fe_Unbounded : PySem.W.excIn K x_Unbounded [.type "ValueError", .type "Exception", .type "BaseException", .type "object"] "ValueError.__new__" = true)
    (fk_NothingToUndo : PySem.W.keepIn K (.ref x_NothingToUndo) = true)
    (fe_NothingToUndo : PySem.W.excIn K x_NothingToUndo [.type "ValueError", .type "Exception", .type "BaseException", .type "object"] "ValueError.__new__" = true)
    (xg_TextFault : PySem.W.findIn K (.ref x_TextFault) "__getattribute__" = some (some (.builtin "BaseException.__getattribute__")))
    (xk_TextFault : PySem.W.findIn K (.ref x_TextFault) "__getattr__" = some none)
    (fb_TextFault : PySem.W.subIn K (.ref x_TextFault) (.type "BaseException") = some true)
    (xa_TextFault : PySem.W.findIn K (.ref x_TextFault) "__class__" = some (some (.builtin "object.__class__")))
    (xm_TextFault : PySem.W.mroIn K x_TextFault (.type "object") = some true)
    (vx_TextFault : PySem.W.subIn K (.ref x_TextFault) (.type "ValueError") = some true)
    (sx_TextFault_RunFault : PySem.W.subIn K (.ref x_TextFault) (.ref x_RunFault) = some false)
    (nx_TextFault_RunFault : (Value.ref x_TextFault == Value.ref x_RunFault) = false)
    (sx_TextFault_BadRow : PySem.W.subIn K (.ref x_TextFault) (.ref x_BadRow) = some false)
    (nx_TextFault_BadRow : (Value.ref x_TextFault == Value.ref x_BadRow) = false)
    (sx_TextFault_ZeroDenominator : PySem.W.subIn K (.ref x_TextFault) (.ref x_ZeroDenominator) = some false)
    (nx_TextFault_ZeroDenominator : (Value.ref x_TextFault == Value.ref x_ZeroDenominator) = false)
    (sx_TextFault_NoNormal : PySem.W.subIn K (.ref x_TextFault) (.ref x_NoNormal) = some false)
    (nx_TextFault_NoNormal : (Value.ref x_TextFault == Value.ref x_NoNormal) = false)
    (sx_TextFault_InLine : PySem.W.subIn K (.ref x_TextFault) (.ref x_InLine) = some false)
    (nx_TextFault_InLine : (Value.ref x_TextFault == Value.ref x_InLine) = false)
    (sx_TextFault_Flat : PySem.W.subIn K (.ref x_TextFault) (.ref x_Flat) = some false)
    (nx_TextFault_Flat : (Value.ref x_TextFault == Value.ref x_Flat) = false)
    (sx_TextFault_BadPolygon : PySem.W.subIn K (.ref x_TextFault) (.ref x_BadPolygon) = some false)
    (nx_TextFault_BadPolygon : (Value.ref x_TextFault == Value.ref x_BadPolygon) = false)
    (sx_TextFault_Singular : PySem.W.subIn K (.ref x_TextFault) (.ref x_Singular) = some false)
    (nx_TextFault_Singular : (Value.ref x_TextFault == Value.ref x_Singular) = false)
    (sx_TextFault_NoDirection : PySem.W.subIn K (.ref x_TextFault) (.ref x_NoDirection) = some false)
    (nx_TextFault_NoDirection : (Value.ref x_TextFault == Value.ref x_NoDirection) = false)
    (sx_TextFault_BadPath : PySem.W.subIn K (.ref x_TextFault) (.ref x_BadPath) = some false)
    (nx_TextFault_BadPath : (Value.ref x_TextFault == Value.ref x_BadPath) = false)
    (sx_TextFault_TooLarge : PySem.W.subIn K (.ref x_TextFault) (.ref x_TooLarge) = some false)
    (nx_TextFault_TooLarge : (Value.ref x_TextFault == Value.ref x_TooLarge) = false)
    (sx_TextFault_BadOrder : PySem.W.subIn K (.ref x_TextFault) (.ref x_BadOrder) = some false)
    (nx_TextFault_BadOrder : (Value.ref x_TextFault == Value.ref x_BadOrder) = false)
    (sx_TextFault_Unbounded : PySem.W.subIn K (.ref x_TextFault) (.ref x_Unbounded) = some false)
    (nx_TextFault_Unbounded : (Value.ref x_TextFault == Value.ref x_Unbounded) = false)
    (sx_TextFault_NoParting : PySem.W.subIn K (.ref x_TextFault) (.ref x_NoParting) = some false)
    (nx_TextFault_NoParting : (Value.ref x_TextFault == Value.ref x_NoParting) = false)
    (sx_TextFault_NothingToUndo : PySem.W.subIn K (.ref x_TextFault) (.ref x_NothingToUndo) = some false)
    (nx_TextFault_NothingToUndo : (Value.ref x_TextFault == Value.ref x_NothingToUndo) = false)
    (sx_TextFault_SpaceError : PySem.W.subIn K (.ref x_TextFault) (.ref x_SpaceError) = some true)
    (nx_TextFault_SpaceError : (Value.ref x_TextFault == Value.ref x_SpaceError) = false)
    (xg_RunFault : PySem.W.findIn K (.ref x_RunFault) "__getattribute__" = some (some (.builtin "BaseException.__getattribute__")))
    (xk_RunFault : PySem.W.findIn K (.ref x_RunFault) "__getattr__" = some none)
    (fb_RunFault : PySem.W.subIn K (.ref x_RunFault) (.type "BaseException") = some true)
    (xa_RunFault : PySem.W.findIn K (.ref x_RunFault) "__class__" = some (some (.builtin "object.__class__")))
    (xm_RunFault : PySem.W.mroIn K x_RunFault (.type "object") = some true)
    (vx_RunFault : PySem.W.subIn K (.ref x_RunFault) (.type "ValueError") = some true)
    (sx_RunFault_TextFault : PySem.W.subIn K (.ref x_RunFault) (.ref x_TextFault) = some false)
    (nx_RunFault_TextFault : (Value.ref x_RunFault == Value.ref x_TextFault) = false)
    (sx_RunFault_BadRow : PySem.W.subIn K (.ref x_RunFault) (.ref x_BadRow) = some false)
    (nx_RunFault_BadRow : (Value.ref x_RunFault == Value.ref x_BadRow) = false)
    (sx_RunFault_ZeroDenominator : PySem.W.subIn K (.ref x_RunFault) (.ref x_ZeroDenominator) = some false)
    (nx_RunFault_ZeroDenominator : (Value.ref x_RunFault == Value.ref x_ZeroDenominator) = false)
    (sx_RunFault_NoNormal : PySem.W.subIn K (.ref x_RunFault) (.ref x_NoNormal) = some false)
    (nx_RunFault_NoNormal : (Value.ref x_RunFault == Value.ref x_NoNormal) = false)
    (sx_RunFault_InLine : PySem.W.subIn K (.ref x_RunFault) (.ref x_InLine) = some false)
    (nx_RunFault_InLine : (Value.ref x_RunFault == Value.ref x_InLine) = false)
    (sx_RunFault_Flat : PySem.W.subIn K (.ref x_RunFault) (.ref x_Flat) = some false)
    (nx_RunFault_Flat : (Value.ref x_RunFault == Value.ref x_Flat) = false)
    (sx_RunFault_BadPolygon : PySem.W.subIn K (.ref x_RunFault) (.ref x_BadPolygon) = some false)
    (nx_RunFault_BadPolygon : (Value.ref x_RunFault == Value.ref x_BadPolygon) = false)
    (sx_RunFault_Singular : PySem.W.subIn K (.ref x_RunFault) (.ref x_Singular) = some false)
    (nx_RunFault_Singular : (Value.ref x_RunFault == Value.ref x_Singular) = false)
    (sx_RunFault_NoDirection : PySem.W.subIn K (.ref x_RunFault) (.ref x_NoDirection) = some false)
    (nx_RunFault_NoDirection : (Value.ref x_RunFault == Value.ref x_NoDirection) = false)
    (sx_RunFault_BadPath : PySem.W.subIn K (.ref x_RunFault) (.ref x_BadPath) = some false)
    (nx_RunFault_BadPath : (Value.ref x_RunFault == Value.ref x_BadPath) = false)
    (sx_RunFault_TooLarge : PySem.W.subIn K (.ref x_RunFault) (.ref x_TooLarge) = some false)
    (nx_RunFault_TooLarge : (Value.ref x_RunFault == Value.ref x_TooLarge) = false)
    (sx_RunFault_BadOrder : PySem.W.subIn K (.ref x_RunFault) (.ref x_BadOrder) = some false)
    (nx_RunFault_BadOrder : (Value.ref x_RunFault == Value.ref x_BadOrder) = false)
    (sx_RunFault_Unbounded : PySem.W.subIn K (.ref x_RunFault) (.ref x_Unbounded) = some false)
    (nx_RunFault_Unbounded : (Value.ref x_RunFault == Value.ref x_Unbounded) = false)
    (sx_RunFault_NoParting : PySem.W.subIn K (.ref x_RunFault) (.ref x_NoParting) = some false)
    (nx_RunFault_NoParting : (Value.ref x_RunFault == Value.ref x_NoParting) = false)
    (sx_RunFault_NothingToUndo : PySem.W.subIn K (.ref x_RunFault) (.ref x_NothingToUndo) = some false)
    (nx_RunFault_NothingToUndo : (Value.ref x_RunFault == Value.ref x_NothingToUndo) = false)
    (sx_RunFault_SpaceError : PySem.W.subIn K (.ref x_RunFault) (.ref x_SpaceError) = some true)
    (nx_RunFault_SpaceError : (Value.ref x_RunFault == Value.ref x_SpaceError) = false)
    (xg_BadRow : PySem.W.findIn K (.ref x_BadRow) "__getattribute__" = some (some (.builtin "BaseException.__getattribute__")))
    (xk_BadRow : PySem.W.findIn K (.ref x_BadRow) "__getattr__" = some none)
    (fb_BadRow : PySem.W.subIn K (.ref x_BadRow) (.type "BaseException") = some true)
    (xa_BadRow : PySem.W.findIn K (.ref x_BadRow) "__class__" = some (some (.builtin "object.__class__")))
    (xm_BadRow : PySem.W.mroIn K x_BadRow (.type "object") = some true)
    (vx_BadRow : PySem.W.subIn K (.ref x_BadRow) (.type "ValueError") = some true)
    (sx_BadRow_TextFault : PySem.W.subIn K (.ref x_BadRow) (.ref x_TextFault) = some false)
    (nx_BadRow_TextFault : (Value.ref x_BadRow == Value.ref x_TextFault) = false)
    (sx_BadRow_RunFault : PySem.W.subIn K (.ref x_BadRow) (.ref x_RunFault) = some false)
    (nx_BadRow_RunFault : (Value.ref x_BadRow == Value.ref x_RunFault) = false)
    (sx_BadRow_ZeroDenominator : PySem.W.subIn K (.ref x_BadRow) (.ref x_ZeroDenominator) = some false)
    (nx_BadRow_ZeroDenominator : (Value.ref x_BadRow == Value.ref x_ZeroDenominator) = false)
    (sx_BadRow_NoNormal : PySem.W.subIn K (.ref x_BadRow) (.ref x_NoNormal) = some false)
    (nx_BadRow_NoNormal : (Value.ref x_BadRow == Value.ref x_NoNormal) = false)
    (sx_BadRow_InLine : PySem.W.subIn K (.ref x_BadRow) (.ref x_InLine) = some false)
    (nx_BadRow_InLine : (Value.ref x_BadRow == Value.ref x_InLine) = false)
    (sx_BadRow_Flat : PySem.W.subIn K (.ref x_BadRow) (.ref x_Flat) = some false)
    (nx_BadRow_Flat : (Value.ref x_BadRow == Value.ref x_Flat) = false)
    (sx_BadRow_BadPolygon : PySem.W.subIn K (.ref x_BadRow) (.ref x_BadPolygon) = some false)
    (nx_BadRow_BadPolygon : (Value.ref x_BadRow == Value.ref x_BadPolygon) = false)
    (sx_BadRow_Singular : PySem.W.subIn K (.ref x_BadRow) (.ref x_Singular) = some false)
    (nx_BadRow_Singular : (Value.ref x_BadRow == Value.ref x_Singular) = false)
    (sx_BadRow_NoDirection : PySem.W.subIn K (.ref x_BadRow) (.ref x_NoDirection) = some false)
    (nx_BadRow_NoDirection : (Value.ref x_BadRow == Value.ref x_NoDirection) = false)
    (sx_BadRow_BadPath : PySem.W.subIn K (.ref x_BadRow) (.ref x_BadPath) = some false)
    (nx_BadRow_BadPath : (Value.ref x_BadRow == Value.ref x_BadPath) = false)
    (sx_BadRow_TooLarge : PySem.W.subIn K (.ref x_BadRow) (.ref x_TooLarge) = some false)
    (nx_BadRow_TooLarge : (Value.ref x_BadRow == Value.ref x_TooLarge) = false)
    (sx_BadRow_BadOrder : PySem.W.subIn K (.ref x_BadRow) (.ref x_BadOrder) = some false)
    (nx_BadRow_BadOrder : (Value.ref x_BadRow == Value.ref x_BadOrder) = false)
    (sx_BadRow_Unbounded : PySem.W.subIn K (.ref x_BadRow) (.ref x_Unbounded) = some false)
    (nx_BadRow_Unbounded : (Value.ref x_BadRow == Value.ref x_Unbounded) = false)
    (sx_BadRow_NoParting : PySem.W.subIn K (.ref x_BadRow) (.ref x_NoParting) = some false)
    (nx_BadRow_NoParting : (Value.ref x_BadRow == Value.ref x_NoParting) = false)
    (sx_BadRow_NothingToUndo : PySem.W.subIn K (.ref x_BadRow) (.ref x_NothingToUndo) = some false)
    (nx_BadRow_NothingToUndo : (Value.ref x_BadRow == Value.ref x_NothingToUndo) = false)
    (sx_BadRow_SpaceError : PySem.W.subIn K (.ref x_BadRow) (.ref x_SpaceError) = some true)
    (nx_BadRow_SpaceError : (Value.ref x_BadRow == Value.ref x_SpaceError) = false)
    (xg_NoNormal : PySem.W.findIn K (.ref x_NoNormal) "__getattribute__" = some (some (.builtin "BaseException.__getattribute__")))
    (xk_NoNormal : PySem.W.findIn K (.ref x_NoNormal) "__getattr__" = some none)
    (fb_NoNormal : PySem.W.subIn K (.ref x_NoNormal) (.type "BaseException") = some true)
    (xa_NoNormal : PySem.W.findIn K (.ref x_NoNormal) "__class__" = some (some (.builtin "object.__class__")))
    (xm_NoNormal : PySem.W.mroIn K x_NoNormal (.type "object") = some true)
    (vx_NoNormal : PySem.W.subIn K (.ref x_NoNormal) (.type "ValueError") = some true)
    (sx_NoNormal_TextFault : PySem.W.subIn K (.ref x_NoNormal) (.ref x_TextFault) = some false)
    (nx_NoNormal_TextFault : (Value.ref x_NoNormal == Value.ref x_TextFault) = false)
    (sx_NoNormal_RunFault : PySem.W.subIn K (.ref x_NoNormal) (.ref x_RunFault) = some false)
    (nx_NoNormal_RunFault : (Value.ref x_NoNormal == Value.ref x_RunFault) = false)
    (sx_NoNormal_BadRow : PySem.W.subIn K (.ref x_NoNormal) (.ref x_BadRow) = some false)
    (nx_NoNormal_BadRow : (Value.ref x_NoNormal == Value.ref x_BadRow) = false)
    (sx_NoNormal_ZeroDenominator : PySem.W.subIn K (.ref x_NoNormal) (.ref x_ZeroDenominator) = some false)
    (nx_NoNormal_ZeroDenominator : (Value.ref x_NoNormal == Value.ref x_ZeroDenominator) = false)
    (sx_NoNormal_InLine : PySem.W.subIn K (.ref x_NoNormal) (.ref x_InLine) = some false)
    (nx_NoNormal_InLine : (Value.ref x_NoNormal == Value.ref x_InLine) = false)
    (sx_NoNormal_Flat : PySem.W.subIn K (.ref x_NoNormal) (.ref x_Flat) = some false)
    (nx_NoNormal_Flat : (Value.ref x_NoNormal == Value.ref x_Flat) = false)
    (sx_NoNormal_BadPolygon : PySem.W.subIn K (.ref x_NoNormal) (.ref x_BadPolygon) = some false)
    (nx_NoNormal_BadPolygon : (Value.ref x_NoNormal == Value.ref x_BadPolygon) = false)
    (sx_NoNormal_Singular : PySem.W.subIn K (.ref x_NoNormal) (.ref x_Singular) = some false)
    (nx_NoNormal_Singular : (Value.ref x_NoNormal == Value.ref x_Singular) = false)
    (sx_NoNormal_NoDirection : PySem.W.subIn K (.ref x_NoNormal) (.ref x_NoDirection) = some false)
    (nx_NoNormal_NoDirection : (Value.ref x_NoNormal == Value.ref x_NoDirection) = false)
    (sx_NoNormal_BadPath : PySem.W.subIn K (.ref x_NoNormal) (.ref x_BadPath) = some false)
    (nx_NoNormal_BadPath : (Value.ref x_NoNormal == Value.ref x_BadPath) = false)
    (sx_NoNormal_TooLarge : PySem.W.subIn K (.ref x_NoNormal) (.ref x_TooLarge) = some false)
    (nx_NoNormal_TooLarge : (Value.ref x_NoNormal == Value.ref x_TooLarge) = false)
    (sx_NoNormal_BadOrder : PySem.W.subIn K (.ref x_NoNormal) (.ref x_BadOrder) = some false)
    (nx_NoNormal_BadOrder : (Value.ref x_NoNormal == Value.ref x_BadOrder) = false)
    (sx_NoNormal_Unbounded : PySem.W.subIn K (.ref x_NoNormal) (.ref x_Unbounded) = some false)
    (nx_NoNormal_Unbounded : (Value.ref x_NoNormal == Value.ref x_Unbounded) = false)
    (sx_NoNormal_NoParting : PySem.W.subIn K (.ref x_NoNormal) (.ref x_NoParting) = some false)
    (nx_NoNormal_NoParting : (Value.ref x_NoNormal == Value.ref x_NoParting) = false)
    (sx_NoNormal_NothingToUndo : PySem.W.subIn K (.ref x_NoNormal) (.ref x_NothingToUndo) = some false)
    (nx_NoNormal_NothingToUndo : (Value.ref x_NoNormal == Value.ref x_NothingToUndo) = false)
    (sx_NoNormal_SpaceError : PySem.W.subIn K (.ref x_NoNormal) (.ref x_SpaceError) = some true)
    (nx_NoNormal_SpaceError : (Value.ref x_NoNormal == Value.ref x_SpaceError) = false)
    (xg_InLine : PySem.W.findIn K (.ref x_InLine) "__getattribute__" = some (some (.builtin "BaseException.__getattribute__")))
    (xk_InLine : PySem.W.findIn K (.ref x_InLine) "__getattr__" = some none)
    (fb_InLine : PySem.W.subIn K (.ref x_InLine) (.type "BaseException") = some true)
    (xa_InLine : PySem.W.findIn K (.ref x_InLine) "__class__" = some (some (.builtin "object.__class__")))
    (xm_InLine : PySem.W.mroIn K x_InLine (.type "object") = some true)
    (vx_InLine : PySem.W.subIn K (.ref x_InLine) (.type "ValueError") = some true)
    (sx_InLine_TextFault : PySem.W.subIn K (.ref x_InLine) (.ref x_TextFault) = some false)
    (nx_InLine_TextFault : (Value.ref x_InLine == Value.ref x_TextFault) = false)
    (sx_InLine_RunFault : PySem.W.subIn K (.ref x_InLine) (.ref x_RunFault) = some false)
    (nx_InLine_RunFault : (Value.ref x_InLine == Value.ref x_RunFault) = false)
    (sx_InLine_BadRow : PySem.W.subIn K (.ref x_InLine) (.ref x_BadRow) = some false)
    (nx_InLine_BadRow : (Value.ref x_InLine == Value.ref x_BadRow) = false)
    (sx_InLine_ZeroDenominator : PySem.W.subIn K (.ref x_InLine) (.ref x_ZeroDenominator) = some false)
    (nx_InLine_ZeroDenominator : (Value.ref x_InLine == Value.ref x_ZeroDenominator) = false)
    (sx_InLine_NoNormal : PySem.W.subIn K (.ref x_InLine) (.ref x_NoNormal) = some false)
    (nx_InLine_NoNormal : (Value.ref x_InLine == Value.ref x_NoNormal) = false)
    (sx_InLine_Flat : PySem.W.subIn K (.ref x_InLine) (.ref x_Flat) = some false)
    (nx_InLine_Flat : (Value.ref x_InLine == Value.ref x_Flat) = false)
    (sx_InLine_BadPolygon : PySem.W.subIn K (.ref x_InLine) (.ref x_BadPolygon) = some false)
    (nx_InLine_BadPolygon : (Value.ref x_InLine == Value.ref x_BadPolygon) = false)
    (sx_InLine_Singular : PySem.W.subIn K (.ref x_InLine) (.ref x_Singular) = some false)
    (nx_InLine_Singular : (Value.ref x_InLine == Value.ref x_Singular) = false)
    (sx_InLine_NoDirection : PySem.W.subIn K (.ref x_InLine) (.ref x_NoDirection) = some false)
    (nx_InLine_NoDirection : (Value.ref x_InLine == Value.ref x_NoDirection) = false)
    (sx_InLine_BadPath : PySem.W.subIn K (.ref x_InLine) (.ref x_BadPath) = some false)
    (nx_InLine_BadPath : (Value.ref x_InLine == Value.ref x_BadPath) = false)
    (sx_InLine_TooLarge : PySem.W.subIn K (.ref x_InLine) (.ref x_TooLarge) = some false)
    (nx_InLine_TooLarge : (Value.ref x_InLine == Value.ref x_TooLarge) = false)
    (sx_InLine_BadOrder : PySem.W.subIn K (.ref x_InLine) (.ref x_BadOrder) = some false)
    (nx_InLine_BadOrder : (Value.ref x_InLine == Value.ref x_BadOrder) = false)
    (sx_InLine_Unbounded : PySem.W.subIn K (.ref x_InLine) (.ref x_Unbounded) = some false)
    (nx_InLine_Unbounded : (Value.ref x_InLine == Value.ref x_Unbounded) = false)
    (sx_InLine_NoParting : PySem.W.subIn K (.ref x_InLine) (.ref x_NoParting) = some false)
    (nx_InLine_NoParting : (Value.ref x_InLine == Value.ref x_NoParting) = false)
    (sx_InLine_NothingToUndo : PySem.W.subIn K (.ref x_InLine) (.ref x_NothingToUndo) = some false)
    (nx_InLine_NothingToUndo : (Value.ref x_InLine == Value.ref x_NothingToUndo) = false)
    (sx_InLine_SpaceError : PySem.W.subIn K (.ref x_InLine) (.ref x_SpaceError) = some true)
    (nx_InLine_SpaceError : (Value.ref x_InLine == Value.ref x_SpaceError) = false)
    (xg_Flat : PySem.W.findIn K (.ref x_Flat) "__getattribute__" = some (some (.builtin "BaseException.__getattribute__")))
    (xk_Flat : PySem.W.findIn K (.ref x_Flat) "__getattr__" = some none)
    (fb_Flat : PySem.W.subIn K (.ref x_Flat) (.type "BaseException") = some true)
    (xa_Flat : PySem.W.findIn K (.ref x_Flat) "__class__" = some (some (.builtin "object.__class__")))
    (xm_Flat : PySem.W.mroIn K x_Flat (.type "object") = some true)
    (vx_Flat : PySem.W.subIn K (.ref x_Flat) (.type "ValueError") = some true)
    (sx_Flat_TextFault : PySem.W.subIn K (.ref x_Flat) (.ref x_TextFault) = some false)
    (nx_Flat_TextFault : (Value.ref x_Flat == Value.ref x_TextFault) = false)
    (sx_Flat_RunFault : PySem.W.subIn K (.ref x_Flat) (.ref x_RunFault) = some false)
    (nx_Flat_RunFault : (Value.ref x_Flat == Value.ref x_RunFault) = false)
    (sx_Flat_BadRow : PySem.W.subIn K (.ref x_Flat) (.ref x_BadRow) = some false)
    (nx_Flat_BadRow : (Value.ref x_Flat == Value.ref x_BadRow) = false)
    (sx_Flat_ZeroDenominator : PySem.W.subIn K (.ref x_Flat) (.ref x_ZeroDenominator) = some false)
    (nx_Flat_ZeroDenominator : (Value.ref x_Flat == Value.ref x_ZeroDenominator) = false)
    (sx_Flat_NoNormal : PySem.W.subIn K (.ref x_Flat) (.ref x_NoNormal) = some false)
    (nx_Flat_NoNormal : (Value.ref x_Flat == Value.ref x_NoNormal) = false)
    (sx_Flat_InLine : PySem.W.subIn K (.ref x_Flat) (.ref x_InLine) = some false)
    (nx_Flat_InLine : (Value.ref x_Flat == Value.ref x_InLine) = false)
    (sx_Flat_BadPolygon : PySem.W.subIn K (.ref x_Flat) (.ref x_BadPolygon) = some false)
    (nx_Flat_BadPolygon : (Value.ref x_Flat == Value.ref x_BadPolygon) = false)
    (sx_Flat_Singular : PySem.W.subIn K (.ref x_Flat) (.ref x_Singular) = some false)
    (nx_Flat_Singular : (Value.ref x_Flat == Value.ref x_Singular) = false)
    (sx_Flat_NoDirection : PySem.W.subIn K (.ref x_Flat) (.ref x_NoDirection) = some false)
    (nx_Flat_NoDirection : (Value.ref x_Flat == Value.ref x_NoDirection) = false)
    (sx_Flat_BadPath : PySem.W.subIn K (.ref x_Flat) (.ref x_BadPath) = some false)
    (nx_Flat_BadPath : (Value.ref x_Flat == Value.ref x_BadPath) = false)
    (sx_Flat_TooLarge : PySem.W.subIn K (.ref x_Flat) (.ref x_TooLarge) = some false)
    (nx_Flat_TooLarge : (Value.ref x_Flat == Value.ref x_TooLarge) = false)
    (sx_Flat_BadOrder : PySem.W.subIn K (.ref x_Flat) (.ref x_BadOrder) = some false)
    (nx_Flat_BadOrder : (Value.ref x_Flat == Value.ref x_BadOrder) = false)
    (sx_Flat_Unbounded : PySem.W.subIn K (.ref x_Flat) (.ref x_Unbounded) = some false)
    (nx_Flat_Unbounded : (Value.ref x_Flat == Value.ref x_Unbounded) = false)
    (sx_Flat_NoParting : PySem.W.subIn K (.ref x_Flat) (.ref x_NoParting) = some false)
    (nx_Flat_NoParting : (Value.ref x_Flat == Value.ref x_NoParting) = false)
    (sx_Flat_NothingToUndo : PySem.W.subIn K (.ref x_Flat) (.ref x_NothingToUndo) = some false)
    (nx_Flat_NothingToUndo : (Value.ref x_Flat == Value.ref x_NothingToUndo) = false)
    (sx_Flat_SpaceError : PySem.W.subIn K (.ref x_Flat) (.ref x_SpaceError) = some true)
    (nx_Flat_SpaceError : (Value.ref x_Flat == Value.ref x_SpaceError) = false)
    (xg_BadPolygon : PySem.W.findIn K (.ref x_BadPolygon) "__getattribute__" = some (some (.builtin "BaseException.__getattribute__")))
    (xk_BadPolygon : PySem.W.findIn K (.ref x_BadPolygon) "__getattr__" = some none)
    (fb_BadPolygon : PySem.W.subIn K (.ref x_BadPolygon) (.type "BaseException") = some true)
    (xa_BadPolygon : PySem.W.findIn K (.ref x_BadPolygon) "__class__" = some (some (.builtin "object.__class__")))
    (xm_BadPolygon : PySem.W.mroIn K x_BadPolygon (.type "object") = some true)
    (vx_BadPolygon : PySem.W.subIn K (.ref x_BadPolygon) (.type "ValueError") = some true)
    (sx_BadPolygon_TextFault : PySem.W.subIn K (.ref x_BadPolygon) (.ref x_TextFault) = some false)
    (nx_BadPolygon_TextFault : (Value.ref x_BadPolygon == Value.ref x_TextFault) = false)
    (sx_BadPolygon_RunFault : PySem.W.subIn K (.ref x_BadPolygon) (.ref x_RunFault) = some false)
    (nx_BadPolygon_RunFault : (Value.ref x_BadPolygon == Value.ref x_RunFault) = false)
    (sx_BadPolygon_BadRow : PySem.W.subIn K (.ref x_BadPolygon) (.ref x_BadRow) = some false)
    (nx_BadPolygon_BadRow : (Value.ref x_BadPolygon == Value.ref x_BadRow) = false)
    (sx_BadPolygon_ZeroDenominator : PySem.W.subIn K (.ref x_BadPolygon) (.ref x_ZeroDenominator) = some false)
    (nx_BadPolygon_ZeroDenominator : (Value.ref x_BadPolygon == Value.ref x_ZeroDenominator) = false)
    (sx_BadPolygon_NoNormal : PySem.W.subIn K (.ref x_BadPolygon) (.ref x_NoNormal) = some false)
    (nx_BadPolygon_NoNormal : (Value.ref x_BadPolygon == Value.ref x_NoNormal) = false)
    (sx_BadPolygon_InLine : PySem.W.subIn K (.ref x_BadPolygon) (.ref x_InLine) = some false)
    (nx_BadPolygon_InLine : (Value.ref x_BadPolygon == Value.ref x_InLine) = false)
    (sx_BadPolygon_Flat : PySem.W.subIn K (.ref x_BadPolygon) (.ref x_Flat) = some false)
    (nx_BadPolygon_Flat : (Value.ref x_BadPolygon == Value.ref x_Flat) = false)
    (sx_BadPolygon_Singular : PySem.W.subIn K (.ref x_BadPolygon) (.ref x_Singular) = some false)
    (nx_BadPolygon_Singular : (Value.ref x_BadPolygon == Value.ref x_Singular) = false)
    (sx_BadPolygon_NoDirection : PySem.W.subIn K (.ref x_BadPolygon) (.ref x_NoDirection) = some false)
    (nx_BadPolygon_NoDirection : (Value.ref x_BadPolygon == Value.ref x_NoDirection) = false)
    (sx_BadPolygon_BadPath : PySem.W.subIn K (.ref x_BadPolygon) (.ref x_BadPath) = some false)
    (nx_BadPolygon_BadPath : (Value.ref x_BadPolygon == Value.ref x_BadPath) = false)
    (sx_BadPolygon_TooLarge : PySem.W.subIn K (.ref x_BadPolygon) (.ref x_TooLarge) = some false)
    (nx_BadPolygon_TooLarge : (Value.ref x_BadPolygon == Value.ref x_TooLarge) = false)
    (sx_BadPolygon_BadOrder : PySem.W.subIn K (.ref x_BadPolygon) (.ref x_BadOrder) = some false)
    (nx_BadPolygon_BadOrder : (Value.ref x_BadPolygon == Value.ref x_BadOrder) = false)
    (sx_BadPolygon_Unbounded : PySem.W.subIn K (.ref x_BadPolygon) (.ref x_Unbounded) = some false)
    (nx_BadPolygon_Unbounded : (Value.ref x_BadPolygon == Value.ref x_Unbounded) = false)
    (sx_BadPolygon_NoParting : PySem.W.subIn K (.ref x_BadPolygon) (.ref x_NoParting) = some false)
    (nx_BadPolygon_NoParting : (Value.ref x_BadPolygon == Value.ref x_NoParting) = false)
    (sx_BadPolygon_NothingToUndo : PySem.W.subIn K (.ref x_BadPolygon) (.ref x_NothingToUndo) = some false)
    (nx_BadPolygon_NothingToUndo : (Value.ref x_BadPolygon == Value.ref x_NothingToUndo) = false)
    (sx_BadPolygon_SpaceError : PySem.W.subIn K (.ref x_BadPolygon) (.ref x_SpaceError) = some true)
    (nx_BadPolygon_SpaceError : (Value.ref x_BadPolygon == Value.ref x_SpaceError) = false)
    (xg_Singular : PySem.W.findIn K (.ref x_Singular) "__getattribute__" = some (some (.builtin "BaseException.__getattribute__")))
    (xk_Singular : PySem.W.findIn K (.ref x_Singular) "__getattr__" = some none)
    (fb_Singular : PySem.W.subIn K (.ref x_Singular) (.type "BaseException") = some true)
    (xa_Singular : PySem.W.findIn K (.ref x_Singular) "__class__" = some (some (.builtin "object.__class__")))
    (xm_Singular : PySem.W.mroIn K x_Singular (.type "object") = some true)
    (vx_Singular : PySem.W.subIn K (.ref x_Singular) (.type "ValueError") = some true)
    (sx_Singular_TextFault : PySem.W.subIn K (.ref x_Singular) (.ref x_TextFault) = some false)
    (nx_Singular_TextFault : (Value.ref x_Singular == Value.ref x_TextFault) = false)
    (sx_Singular_RunFault : PySem.W.subIn K (.ref x_Singular) (.ref x_RunFault) = some false)
    (nx_Singular_RunFault : (Value.ref x_Singular == Value.ref x_RunFault) = false)
    (sx_Singular_BadRow : PySem.W.subIn K (.ref x_Singular) (.ref x_BadRow) = some false)
    (nx_Singular_BadRow : (Value.ref x_Singular == Value.ref x_BadRow) = false)
    (sx_Singular_ZeroDenominator : PySem.W.subIn K (.ref x_Singular) (.ref x_ZeroDenominator) = some false)
    (nx_Singular_ZeroDenominator : (Value.ref x_Singular == Value.ref x_ZeroDenominator) = false)
    (sx_Singular_NoNormal : PySem.W.subIn K (.ref x_Singular) (.ref x_NoNormal) = some false)
    (nx_Singular_NoNormal : (Value.ref x_Singular == Value.ref x_NoNormal) = false)
    (sx_Singular_InLine : PySem.W.subIn K (.ref x_Singular) (.ref x_InLine) = some false)
    (nx_Singular_InLine : (Value.ref x_Singular == Value.ref x_InLine) = false)
    (sx_Singular_Flat : PySem.W.subIn K (.ref x_Singular) (.ref x_Flat) = some false)
    (nx_Singular_Flat : (Value.ref x_Singular == Value.ref x_Flat) = false)
    (sx_Singular_BadPolygon : PySem.W.subIn K (.ref x_Singular) (.ref x_BadPolygon) = some false)
    (nx_Singular_BadPolygon : (Value.ref x_Singular == Value.ref x_BadPolygon) = false)
    (sx_Singular_NoDirection : PySem.W.subIn K (.ref x_Singular) (.ref x_NoDirection) = some false)
    (nx_Singular_NoDirection : (Value.ref x_Singular == Value.ref x_NoDirection) = false)
    (sx_Singular_BadPath : PySem.W.subIn K (.ref x_Singular) (.ref x_BadPath) = some false)
    (nx_Singular_BadPath : (Value.ref x_Singular == Value.ref x_BadPath) = false)
    (sx_Singular_TooLarge : PySem.W.subIn K (.ref x_Singular) (.ref x_TooLarge) = some false)
    (nx_Singular_TooLarge : (Value.ref x_Singular == Value.ref x_TooLarge) = false)
    (sx_Singular_BadOrder : PySem.W.subIn K (.ref x_Singular) (.ref x_BadOrder) = some false)
    (nx_Singular_BadOrder : (Value.ref x_Singular == Value.ref x_BadOrder) = false)
    (sx_Singular_Unbounded : PySem.W.subIn K (.ref x_Singular) (.ref x_Unbounded) = some false)
    (nx_Singular_Unbounded : (Value.ref x_Singular == Value.ref x_Unbounded) = false)
    (sx_Singular_NoParting : PySem.W.subIn K (.ref x_Singular) (.ref x_NoParting) = some false)
    (nx_Singular_NoParting : (Value.ref x_Singular == Value.ref x_NoParting) = false)
    (sx_Singular_NothingToUndo : PySem.W.subIn K (.ref x_Singular) (.ref x_NothingToUndo) = some false)
    (nx_Singular_NothingToUndo : (Value.ref x_Singular == Value.ref x_NothingToUndo) = false)
    (sx_Singular_SpaceError : PySem.W.subIn K (.ref x_Singular) (.ref x_SpaceError) = some true)
    (nx_Singular_SpaceError : (Value.ref x_Singular == Value.ref x_SpaceError) = false)
    (xg_NoDirection : PySem.W.findIn K (.ref x_NoDirection) "__getattribute__" = some (some (.builtin "BaseException.__getattribute__")))
    (xk_NoDirection : PySem.W.findIn K (.ref x_NoDirection) "__getattr__" = some none)
    (fb_NoDirection : PySem.W.subIn K (.ref x_NoDirection) (.type "BaseException") = some true)
    (xa_NoDirection : PySem.W.findIn K (.ref x_NoDirection) "__class__" = some (some (.builtin "object.__class__")))
    (xm_NoDirection : PySem.W.mroIn K x_NoDirection (.type "object") = some true)
    (vx_NoDirection : PySem.W.subIn K (.ref x_NoDirection) (.type "ValueError") = some true)
    (sx_NoDirection_TextFault : PySem.W.subIn K (.ref x_NoDirection) (.ref x_TextFault) = some false)
    (nx_NoDirection_TextFault : (Value.ref x_NoDirection == Value.ref x_TextFault) = false)
    (sx_NoDirection_RunFault : PySem.W.subIn K (.ref x_NoDirection) (.ref x_RunFault) = some false)
    (nx_NoDirection_RunFault : (Value.ref x_NoDirection == Value.ref x_RunFault) = false)
    (sx_NoDirection_BadRow : PySem.W.subIn K (.ref x_NoDirection) (.ref x_BadRow) = some false)
    (nx_NoDirection_BadRow : (Value.ref x_NoDirection == Value.ref x_BadRow) = false)
    (sx_NoDirection_ZeroDenominator : PySem.W.subIn K (.ref x_NoDirection) (.ref x_ZeroDenominator) = some false)
    (nx_NoDirection_ZeroDenominator : (Value.ref x_NoDirection == Value.ref x_ZeroDenominator) = false)
    (sx_NoDirection_NoNormal : PySem.W.subIn K (.ref x_NoDirection) (.ref x_NoNormal) = some false)
    (nx_NoDirection_NoNormal : (Value.ref x_NoDirection == Value.ref x_NoNormal) = false)
    (sx_NoDirection_InLine : PySem.W.subIn K (.ref x_NoDirection) (.ref x_InLine) = some false)
    (nx_NoDirection_InLine : (Value.ref x_NoDirection == Value.ref x_InLine) = false)
    (sx_NoDirection_Flat : PySem.W.subIn K (.ref x_NoDirection) (.ref x_Flat) = some false)
    (nx_NoDirection_Flat : (Value.ref x_NoDirection == Value.ref x_Flat) = false)
    (sx_NoDirection_BadPolygon : PySem.W.subIn K (.ref x_NoDirection) (.ref x_BadPolygon) = some false)
    (nx_NoDirection_BadPolygon : (Value.ref x_NoDirection == Value.ref x_BadPolygon) = false)
    (sx_NoDirection_Singular : PySem.W.subIn K (.ref x_NoDirection) (.ref x_Singular) = some false)
    (nx_NoDirection_Singular : (Value.ref x_NoDirection == Value.ref x_Singular) = false)
    (sx_NoDirection_BadPath : PySem.W.subIn K (.ref x_NoDirection) (.ref x_BadPath) = some false)
    (nx_NoDirection_BadPath : (Value.ref x_NoDirection == Value.ref x_BadPath) = false)
    (sx_NoDirection_TooLarge : PySem.W.subIn K (.ref x_NoDirection) (.ref x_TooLarge) = some false)
    (nx_NoDirection_TooLarge : (Value.ref x_NoDirection == Value.ref x_TooLarge) = false)
    (sx_NoDirection_BadOrder : PySem.W.subIn K (.ref x_NoDirection) (.ref x_BadOrder) = some false)
    (nx_NoDirection_BadOrder : (Value.ref x_NoDirection == Value.ref x_BadOrder) = false)
    (sx_NoDirection_Unbounded : PySem.W.subIn K (.ref x_NoDirection) (.ref x_Unbounded) = some false)
    (nx_NoDirection_Unbounded : (Value.ref x_NoDirection == Value.ref x_Unbounded) = false)
    (sx_NoDirection_NoParting : PySem.W.subIn K (.ref x_NoDirection) (.ref x_NoParting) = some false)
    (nx_NoDirection_NoParting : (Value.ref x_NoDirection == Value.ref x_NoParting) = false)
    (sx_NoDirection_NothingToUndo : PySem.W.subIn K (.ref x_NoDirection) (.ref x_NothingToUndo) = some false)
    (nx_NoDirection_NothingToUndo : (Value.ref x_NoDirection == Value.ref x_NothingToUndo) = false)
    (sx_NoDirection_SpaceError : PySem.W.subIn K (.ref x_NoDirection) (.ref x_SpaceError) = some true)
    (nx_NoDirection_SpaceError : (Value.ref x_NoDirection == Value.ref x_SpaceError) = false)
    (xg_BadPath : PySem.W.findIn K (.ref x_BadPath) "__getattribute__" = some (some (.builtin "BaseException.__getattribute__")))
    (xk_BadPath : PySem.W.findIn K (.ref x_BadPath) "__getattr__" = some none)
    (fb_BadPath : PySem.W.subIn K (.ref x_BadPath) (.type "BaseException") = some true)
    (xa_BadPath : PySem.W.findIn K (.ref x_BadPath) "__class__" = some (some (.builtin "object.__class__")))
    (xm_BadPath : PySem.W.mroIn K x_BadPath (.type "object") = some true)
    (vx_BadPath : PySem.W.subIn K (.ref x_BadPath) (.type "ValueError") = some true)
    (sx_BadPath_TextFault : PySem.W.subIn K (.ref x_BadPath) (.ref x_TextFault) = some false)
    (nx_BadPath_TextFault : (Value.ref x_BadPath == Value.ref x_TextFault) = false)
    (sx_BadPath_RunFault : PySem.W.subIn K (.ref x_BadPath) (.ref x_RunFault) = some false)
    (nx_BadPath_RunFault : (Value.ref x_BadPath == Value.ref x_RunFault) = false)
    (sx_BadPath_BadRow : PySem.W.subIn K (.ref x_BadPath) (.ref x_BadRow) = some false)
    (nx_BadPath_BadRow : (Value.ref x_BadPath == Value.ref x_BadRow) = false)
    (sx_BadPath_ZeroDenominator : PySem.W.subIn K (.ref x_BadPath) (.ref x_ZeroDenominator) = some false)
    (nx_BadPath_ZeroDenominator : (Value.ref x_BadPath == Value.ref x_ZeroDenominator) = false)
    (sx_BadPath_NoNormal : PySem.W.subIn K (.ref x_BadPath) (.ref x_NoNormal) = some false)
    (nx_BadPath_NoNormal : (Value.ref x_BadPath == Value.ref x_NoNormal) = false)
    (sx_BadPath_InLine : PySem.W.subIn K (.ref x_BadPath) (.ref x_InLine) = some false)
    (nx_BadPath_InLine : (Value.ref x_BadPath == Value.ref x_InLine) = false)
    (sx_BadPath_Flat : PySem.W.subIn K (.ref x_BadPath) (.ref x_Flat) = some false)
    (nx_BadPath_Flat : (Value.ref x_BadPath == Value.ref x_Flat) = false)
    (sx_BadPath_BadPolygon : PySem.W.subIn K (.ref x_BadPath) (.ref x_BadPolygon) = some false)
    (nx_BadPath_BadPolygon : (Value.ref x_BadPath == Value.ref x_BadPolygon) = false)
    (sx_BadPath_Singular : PySem.W.subIn K (.ref x_BadPath) (.ref x_Singular) = some false)
    (nx_BadPath_Singular : (Value.ref x_BadPath == Value.ref x_Singular) = false)
    (sx_BadPath_NoDirection : PySem.W.subIn K (.ref x_BadPath) (.ref x_NoDirection) = some false)
    (nx_BadPath_NoDirection : (Value.ref x_BadPath == Value.ref x_NoDirection) = false)
    (sx_BadPath_TooLarge : PySem.W.subIn K (.ref x_BadPath) (.ref x_TooLarge) = some false)
    (nx_BadPath_TooLarge : (Value.ref x_BadPath == Value.ref x_TooLarge) = false)
    (sx_BadPath_BadOrder : PySem.W.subIn K (.ref x_BadPath) (.ref x_BadOrder) = some false)
    (nx_BadPath_BadOrder : (Value.ref x_BadPath == Value.ref x_BadOrder) = false)
    (sx_BadPath_Unbounded : PySem.W.subIn K (.ref x_BadPath) (.ref x_Unbounded) = some false)
    (nx_BadPath_Unbounded : (Value.ref x_BadPath == Value.ref x_Unbounded) = false)
    (sx_BadPath_NoParting : PySem.W.subIn K (.ref x_BadPath) (.ref x_NoParting) = some false)
    (nx_BadPath_NoParting : (Value.ref x_BadPath == Value.ref x_NoParting) = false)
    (sx_BadPath_NothingToUndo : PySem.W.subIn K (.ref x_BadPath) (.ref x_NothingToUndo) = some false)
    (nx_BadPath_NothingToUndo : (Value.ref x_BadPath == Value.ref x_NothingToUndo) = false)
    (sx_BadPath_SpaceError : PySem.W.subIn K (.ref x_BadPath) (.ref x_SpaceError) = some true)
    (nx_BadPath_SpaceError : (Value.ref x_BadPath == Value.ref x_SpaceError) = false)
    (xg_TooLarge : PySem.W.findIn K (.ref x_TooLarge) "__getattribute__" = some (some (.builtin "BaseException.__getattribute__")))
    (xk_TooLarge : PySem.W.findIn K (.ref x_TooLarge) "__getattr__" = some none)
    (fb_TooLarge : PySem.W.subIn K (.ref x_TooLarge) (.type "BaseException") = some true)
    (xa_TooLarge : PySem.W.findIn K (.ref x_TooLarge) "__class__" = some (some (.builtin "object.__class__")))
    (xm_TooLarge : PySem.W.mroIn K x_TooLarge (.type "object") = some true)
    (vx_TooLarge : PySem.W.subIn K (.ref x_TooLarge) (.type "ValueError") = some true)
    (sx_TooLarge_TextFault : PySem.W.subIn K (.ref x_TooLarge) (.ref x_TextFault) = some false)
    (nx_TooLarge_TextFault : (Value.ref x_TooLarge == Value.ref x_TextFault) = false)
    (sx_TooLarge_RunFault : PySem.W.subIn K (.ref x_TooLarge) (.ref x_RunFault) = some false)
    (nx_TooLarge_RunFault : (Value.ref x_TooLarge == Value.ref x_RunFault) = false)
    (sx_TooLarge_BadRow : PySem.W.subIn K (.ref x_TooLarge) (.ref x_BadRow) = some false)
    (nx_TooLarge_BadRow : (Value.ref x_TooLarge == Value.ref x_BadRow) = false)
    (sx_TooLarge_ZeroDenominator : PySem.W.subIn K (.ref x_TooLarge) (.ref x_ZeroDenominator) = some false)
    (nx_TooLarge_ZeroDenominator : (Value.ref x_TooLarge == Value.ref x_ZeroDenominator) = false)
    (sx_TooLarge_NoNormal : PySem.W.subIn K (.ref x_TooLarge) (.ref x_NoNormal) = some false)
    (nx_TooLarge_NoNormal : (Value.ref x_TooLarge == Value.ref x_NoNormal) = false)
    (sx_TooLarge_InLine : PySem.W.subIn K (.ref x_TooLarge) (.ref x_InLine) = some false)
    (nx_TooLarge_InLine : (Value.ref x_TooLarge == Value.ref x_InLine) = false)
    (sx_TooLarge_Flat : PySem.W.subIn K (.ref x_TooLarge) (.ref x_Flat) = some false)
    (nx_TooLarge_Flat : (Value.ref x_TooLarge == Value.ref x_Flat) = false)
    (sx_TooLarge_BadPolygon : PySem.W.subIn K (.ref x_TooLarge) (.ref x_BadPolygon) = some false)
    (nx_TooLarge_BadPolygon : (Value.ref x_TooLarge == Value.ref x_BadPolygon) = false)
    (sx_TooLarge_Singular : PySem.W.subIn K (.ref x_TooLarge) (.ref x_Singular) = some false)
    (nx_TooLarge_Singular : (Value.ref x_TooLarge == Value.ref x_Singular) = false)
    (sx_TooLarge_NoDirection : PySem.W.subIn K (.ref x_TooLarge) (.ref x_NoDirection) = some false)
    (nx_TooLarge_NoDirection : (Value.ref x_TooLarge == Value.ref x_NoDirection) = false)
    (sx_TooLarge_BadPath : PySem.W.subIn K (.ref x_TooLarge) (.ref x_BadPath) = some false)
    (nx_TooLarge_BadPath : (Value.ref x_TooLarge == Value.ref x_BadPath) = false)
    (sx_TooLarge_BadOrder : PySem.W.subIn K (.ref x_TooLarge) (.ref x_BadOrder) = some false)
    (nx_TooLarge_BadOrder : (Value.ref x_TooLarge == Value.ref x_BadOrder) = false)
    (sx_TooLarge_Unbounded : PySem.W.subIn K (.ref x_TooLarge) (.ref x_Unbounded) = some false)
    (nx_TooLarge_Unbounded : (Value.ref x_TooLarge == Value.ref x_Unbounded) = false)
    (sx_TooLarge_NoParting : PySem.W.subIn K (.ref x_TooLarge) (.ref x_NoParting) = some false)
    (nx_TooLarge_NoParting : (Value.ref x_TooLarge == Value.ref x_NoParting) = false)
    (sx_TooLarge_NothingToUndo : PySem.W.subIn K (.ref x_TooLarge) (.ref x_NothingToUndo) = some false)
    (nx_TooLarge_NothingToUndo : (Value.ref x_TooLarge == Value.ref x_NothingToUndo) = false)
    (sx_TooLarge_SpaceError : PySem.W.subIn K (.ref x_TooLarge) (.ref x_SpaceError) = some true)
    (nx_TooLarge_SpaceError : (Value.ref x_TooLarge == Value.ref x_SpaceError) = false)
    (xg_BadOrder : PySem.W.findIn K (.ref x_BadOrder) "__getattribute__" = some (some (.builtin "BaseException.__getattribute__")))
    (xk_BadOrder : PySem.W.findIn K (.ref x_BadOrder) "__getattr__" = some none)
    (fb_BadOrder : PySem.W.subIn K (.ref x_BadOrder) (.type "BaseException") = some true)
    (xa_BadOrder : PySem.W.findIn K (.ref x_BadOrder) "__class__" = some (some (.builtin "object.__class__")))
    (xm_BadOrder : PySem.W.mroIn K x_BadOrder (.type "object") = some true)
    (vx_BadOrder : PySem.W.subIn K (.ref x_BadOrder) (.type "ValueError") = some true)
    (sx_BadOrder_TextFault : PySem.W.subIn K (.ref x_BadOrder) (.ref x_TextFault) = some false)
    (nx_BadOrder_TextFault : (Value.ref x_BadOrder == Value.ref x_TextFault) = false)
    (sx_BadOrder_RunFault : PySem.W.subIn K (.ref x_BadOrder) (.ref x_RunFault) = some false)
    (nx_BadOrder_RunFault : (Value.ref x_BadOrder == Value.ref x_RunFault) = false)
    (sx_BadOrder_BadRow : PySem.W.subIn K (.ref x_BadOrder) (.ref x_BadRow) = some false)
    (nx_BadOrder_BadRow : (Value.ref x_BadOrder == Value.ref x_BadRow) = false)
    (sx_BadOrder_ZeroDenominator : PySem.W.subIn K (.ref x_BadOrder) (.ref x_ZeroDenominator) = some false)
    (nx_BadOrder_ZeroDenominator : (Value.ref x_BadOrder == Value.ref x_ZeroDenominator) = false)
    (sx_BadOrder_NoNormal : PySem.W.subIn K (.ref x_BadOrder) (.ref x_NoNormal) = some false)
    (nx_BadOrder_NoNormal : (Value.ref x_BadOrder == Value.ref x_NoNormal) = false)
    (sx_BadOrder_InLine : PySem.W.subIn K (.ref x_BadOrder) (.ref x_InLine) = some false)
    (nx_BadOrder_InLine : (Value.ref x_BadOrder == Value.ref x_InLine) = false)
    (sx_BadOrder_Flat : PySem.W.subIn K (.ref x_BadOrder) (.ref x_Flat) = some false)
    (nx_BadOrder_Flat : (Value.ref x_BadOrder == Value.ref x_Flat) = false)
    (sx_BadOrder_BadPolygon : PySem.W.subIn K (.ref x_BadOrder) (.ref x_BadPolygon) = some false)
    (nx_BadOrder_BadPolygon : (Value.ref x_BadOrder == Value.ref x_BadPolygon) = false)
    (sx_BadOrder_Singular : PySem.W.subIn K (.ref x_BadOrder) (.ref x_Singular) = some false)
    (nx_BadOrder_Singular : (Value.ref x_BadOrder == Value.ref x_Singular) = false)
    (sx_BadOrder_NoDirection : PySem.W.subIn K (.ref x_BadOrder) (.ref x_NoDirection) = some false)
    (nx_BadOrder_NoDirection : (Value.ref x_BadOrder == Value.ref x_NoDirection) = false)
    (sx_BadOrder_BadPath : PySem.W.subIn K (.ref x_BadOrder) (.ref x_BadPath) = some false)
    (nx_BadOrder_BadPath : (Value.ref x_BadOrder == Value.ref x_BadPath) = false)
    (sx_BadOrder_TooLarge : PySem.W.subIn K (.ref x_BadOrder) (.ref x_TooLarge) = some false)
    (nx_BadOrder_TooLarge : (Value.ref x_BadOrder == Value.ref x_TooLarge) = false)
    (sx_BadOrder_Unbounded : PySem.W.subIn K (.ref x_BadOrder) (.ref x_Unbounded) = some false)
    (nx_BadOrder_Unbounded : (Value.ref x_BadOrder == Value.ref x_Unbounded) = false)
    (sx_BadOrder_NoParting : PySem.W.subIn K (.ref x_BadOrder) (.ref x_NoParting) = some false)
    (nx_BadOrder_NoParting : (Value.ref x_BadOrder == Value.ref x_NoParting) = false)
    (sx_BadOrder_NothingToUndo : PySem.W.subIn K (.ref x_BadOrder) (.ref x_NothingToUndo) = some false)
    (nx_BadOrder_NothingToUndo : (Value.ref x_BadOrder == Value.ref x_NothingToUndo) = false)
    (sx_BadOrder_SpaceError : PySem.W.subIn K (.ref x_BadOrder) (.ref x_SpaceError) = some true)
    (nx_BadOrder_SpaceError : (Value.ref x_BadOrder == Value.ref x_SpaceError) = false)
    (xg_Unbounded : PySem.W.findIn K (.ref x_Unbounded) "__getattribute__" = some (some (.builtin "BaseException.__getattribute__")))
    (xk_Unbounded : PySem.W.findIn K (.ref x_Unbounded) "__getattr__" = some none)
    (fb_Unbounded : PySem.W.subIn K (.ref x_Unbounded) (.type "BaseException") = some true)
    (xa_Unbounded : PySem.W.findIn K (.ref x_Unbounded) "__class__" = some (some (.builtin "object.__class__")))
    (xm_Unbounded : PySem.W.mroIn K x_Unbounded (.type "object") = some true)
    (vx_Unbounded : PySem.W.subIn K (.ref x_Unbounded) (.type "ValueError") = some true)
    (sx_Unbounded_TextFault : PySem.W.subIn K (.ref x_Unbounded) (.ref x_TextFault) = some false)
    (nx_Unbounded_TextFault : (Value.ref x_Unbounded == Value.ref x_TextFault) = false)
    (sx_Unbounded_RunFault : PySem.W.subIn K (.ref x_Unbounded) (.ref x_RunFault) = some false)
    (nx_Unbounded_RunFault : (Value.ref x_Unbounded == Value.ref x_RunFault) = false)
    (sx_Unbounded_BadRow : PySem.W.subIn K (.ref x_Unbounded) (.ref x_BadRow) = some false)
    (nx_Unbounded_BadRow : (Value.ref x_Unbounded == Value.ref x_BadRow) = false)
    (sx_Unbounded_ZeroDenominator : PySem.W.subIn K (.ref x_Unbounded) (.ref x_ZeroDenominator) = some false)
    (nx_Unbounded_ZeroDenominator : (Value.ref x_Unbounded == Value.ref x_ZeroDenominator) = false)
    (sx_Unbounded_NoNormal : PySem.W.subIn K (.ref x_Unbounded) (.ref x_NoNormal) = some false)
    (nx_Unbounded_NoNormal : (Value.ref x_Unbounded == Value.ref x_NoNormal) = false)
    (sx_Unbounded_InLine : PySem.W.subIn K (.ref x_Unbounded) (.ref x_InLine) = some false)
    (nx_Unbounded_InLine : (Value.ref x_Unbounded == Value.ref x_InLine) = false)
    (sx_Unbounded_Flat : PySem.W.subIn K (.ref x_Unbounded) (.ref x_Flat) = some false)
    (nx_Unbounded_Flat : (Value.ref x_Unbounded == Value.ref x_Flat) = false)
    (sx_Unbounded_BadPolygon : PySem.W.subIn K (.ref x_Unbounded) (.ref x_BadPolygon) = some false)
    (nx_Unbounded_BadPolygon : (Value.ref x_Unbounded == Value.ref x_BadPolygon) = false)
    (sx_Unbounded_Singular : PySem.W.subIn K (.ref x_Unbounded) (.ref x_Singular) = some false)
    (nx_Unbounded_Singular : (Value.ref x_Unbounded == Value.ref x_Singular) = false)
    (sx_Unbounded_NoDirection : PySem.W.subIn K (.ref x_Unbounded) (.ref x_NoDirection) = some false)
    (nx_Unbounded_NoDirection : (Value.ref x_Unbounded == Value.ref x_NoDirection) = false)
    (sx_Unbounded_BadPath : PySem.W.subIn K (.ref x_Unbounded) (.ref x_BadPath) = some false)
    (nx_Unbounded_BadPath : (Value.ref x_Unbounded == Value.ref x_BadPath) = false)
    (sx_Unbounded_TooLarge : PySem.W.subIn K (.ref x_Unbounded) (.ref x_TooLarge) = some false)
    (nx_Unbounded_TooLarge : (Value.ref x_Unbounded == Value.ref x_TooLarge) = false)
    (sx_Unbounded_BadOrder : PySem.W.subIn K (.ref x_Unbounded) (.ref x_BadOrder) = some false)
    (nx_Unbounded_BadOrder : (Value.ref x_Unbounded == Value.ref x_BadOrder) = false)
    (sx_Unbounded_NoParting : PySem.W.subIn K (.ref x_Unbounded) (.ref x_NoParting) = some false)
    (nx_Unbounded_NoParting : (Value.ref x_Unbounded == Value.ref x_NoParting) = false)
    (sx_Unbounded_NothingToUndo : PySem.W.subIn K (.ref x_Unbounded) (.ref x_NothingToUndo) = some false)
    (nx_Unbounded_NothingToUndo : (Value.ref x_Unbounded == Value.ref x_NothingToUndo) = false)
    (sx_Unbounded_SpaceError : PySem.W.subIn K (.ref x_Unbounded) (.ref x_SpaceError) = some true)
    (nx_Unbounded_SpaceError : (Value.ref x_Unbounded == Value.ref x_SpaceError) = false)
    (xg_NoParting : PySem.W.findIn K (.ref x_NoParting) "__getattribute__" = some (some (.builtin "BaseException.__getattribute__")))
    (xk_NoParting : PySem.W.findIn K (.ref x_NoParting) "__getattr__" = some none)
    (fb_NoParting : PySem.W.subIn K (.ref x_NoParting) (.type "BaseException") = some true)
    (xa_NoParting : PySem.W.findIn K (.ref x_NoParting) "__class__" = some (some (.builtin "object.__class__")))
    (xm_NoParting : PySem.W.mroIn K x_NoParting (.type "object") = some true)
    (vx_NoParting : PySem.W.subIn K (.ref x_NoParting) (.type "ValueError") = some true)
    (sx_NoParting_TextFault : PySem.W.subIn K (.ref x_NoParting) (.ref x_TextFault) = some false)
    (nx_NoParting_TextFault : (Value.ref x_NoParting == Value.ref x_TextFault) = false)
    (sx_NoParting_RunFault : PySem.W.subIn K (.ref x_NoParting) (.ref x_RunFault) = some false)
    (nx_NoParting_RunFault : (Value.ref x_NoParting == Value.ref x_RunFault) = false)
    (sx_NoParting_BadRow : PySem.W.subIn K (.ref x_NoParting) (.ref x_BadRow) = some false)
    (nx_NoParting_BadRow : (Value.ref x_NoParting == Value.ref x_BadRow) = false)
    (sx_NoParting_ZeroDenominator : PySem.W.subIn K (.ref x_NoParting) (.ref x_ZeroDenominator) = some false)
    (nx_NoParting_ZeroDenominator : (Value.ref x_NoParting == Value.ref x_ZeroDenominator) = false)
    (sx_NoParting_NoNormal : PySem.W.subIn K (.ref x_NoParting) (.ref x_NoNormal) = some false)
    (nx_NoParting_NoNormal : (Value.ref x_NoParting == Value.ref x_NoNormal) = false)
    (sx_NoParting_InLine : PySem.W.subIn K (.ref x_NoParting) (.ref x_InLine) = some false)
    (nx_NoParting_InLine : (Value.ref x_NoParting == Value.ref x_InLine) = false)
    (sx_NoParting_Flat : PySem.W.subIn K (.ref x_NoParting) (.ref x_Flat) = some false)
    (nx_NoParting_Flat : (Value.ref x_NoParting == Value.ref x_Flat) = false)
    (sx_NoParting_BadPolygon : PySem.W.subIn K (.ref x_NoParting) (.ref x_BadPolygon) = some false)
    (nx_NoParting_BadPolygon : (Value.ref x_NoParting == Value.ref x_BadPolygon) = false)
    (sx_NoParting_Singular : PySem.W.subIn K (.ref x_NoParting) (.ref x_Singular) = some false)
    (nx_NoParting_Singular : (Value.ref x_NoParting == Value.ref x_Singular) = false)
    (sx_NoParting_NoDirection : PySem.W.subIn K (.ref x_NoParting) (.ref x_NoDirection) = some false)
    (nx_NoParting_NoDirection : (Value.ref x_NoParting == Value.ref x_NoDirection) = false)
    (sx_NoParting_BadPath : PySem.W.subIn K (.ref x_NoParting) (.ref x_BadPath) = some false)
    (nx_NoParting_BadPath : (Value.ref x_NoParting == Value.ref x_BadPath) = false)
    (sx_NoParting_TooLarge : PySem.W.subIn K (.ref x_NoParting) (.ref x_TooLarge) = some false)
    (nx_NoParting_TooLarge : (Value.ref x_NoParting == Value.ref x_TooLarge) = false)
    (sx_NoParting_BadOrder : PySem.W.subIn K (.ref x_NoParting) (.ref x_BadOrder) = some false)
    (nx_NoParting_BadOrder : (Value.ref x_NoParting == Value.ref x_BadOrder) = false)
    (sx_NoParting_Unbounded : PySem.W.subIn K (.ref x_NoParting) (.ref x_Unbounded) = some false)
    (nx_NoParting_Unbounded : (Value.ref x_NoParting == Value.ref x_Unbounded) = false)
    (sx_NoParting_NothingToUndo : PySem.W.subIn K (.ref x_NoParting) (.ref x_NothingToUndo) = some false)
    (nx_NoParting_NothingToUndo : (Value.ref x_NoParting == Value.ref x_NothingToUndo) = false)
    (sx_NoParting_SpaceError : PySem.W.subIn K (.ref x_NoParting) (.ref x_SpaceError) = some true)
    (nx_NoParting_SpaceError : (Value.ref x_NoParting == Value.ref x_SpaceError) = false)
    (xg_NothingToUndo : PySem.W.findIn K (.ref x_NothingToUndo) "__getattribute__" = some (some (.builtin "BaseException.__getattribute__")))
    (xk_NothingToUndo : PySem.W.findIn K (.ref x_NothingToUndo) "__getattr__" = some none)
    (fb_NothingToUndo : PySem.W.subIn K (.ref x_NothingToUndo) (.type "BaseException") = some true)
    (xa_NothingToUndo : PySem.W.findIn K (.ref x_NothingToUndo) "__class__" = some (some (.builtin "object.__class__")))
    (xm_NothingToUndo : PySem.W.mroIn K x_NothingToUndo (.type "object") = some true)
    (vx_NothingToUndo : PySem.W.subIn K (.ref x_NothingToUndo) (.type "ValueError") = some true)
    (sx_NothingToUndo_TextFault : PySem.W.subIn K (.ref x_NothingToUndo) (.ref x_TextFault) = some false)
    (nx_NothingToUndo_TextFault : (Value.ref x_NothingToUndo == Value.ref x_TextFault) = false)
    (sx_NothingToUndo_RunFault : PySem.W.subIn K (.ref x_NothingToUndo) (.ref x_RunFault) = some false)
    (nx_NothingToUndo_RunFault : (Value.ref x_NothingToUndo == Value.ref x_RunFault) = false)
    (sx_NothingToUndo_BadRow : PySem.W.subIn K (.ref x_NothingToUndo) (.ref x_BadRow) = some false)
    (nx_NothingToUndo_BadRow : (Value.ref x_NothingToUndo == Value.ref x_BadRow) = false)
    (sx_NothingToUndo_ZeroDenominator : PySem.W.subIn K (.ref x_NothingToUndo) (.ref x_ZeroDenominator) = some false)
    (nx_NothingToUndo_ZeroDenominator : (Value.ref x_NothingToUndo == Value.ref x_ZeroDenominator) = false)
    (sx_NothingToUndo_NoNormal : PySem.W.subIn K (.ref x_NothingToUndo) (.ref x_NoNormal) = some false)
    (nx_NothingToUndo_NoNormal : (Value.ref x_NothingToUndo == Value.ref x_NoNormal) = false)
    (sx_NothingToUndo_InLine : PySem.W.subIn K (.ref x_NothingToUndo) (.ref x_InLine) = some false)
    (nx_NothingToUndo_InLine : (Value.ref x_NothingToUndo == Value.ref x_InLine) = false)
    (sx_NothingToUndo_Flat : PySem.W.subIn K (.ref x_NothingToUndo) (.ref x_Flat) = some false)
    (nx_NothingToUndo_Flat : (Value.ref x_NothingToUndo == Value.ref x_Flat) = false)
    (sx_NothingToUndo_BadPolygon : PySem.W.subIn K (.ref x_NothingToUndo) (.ref x_BadPolygon) = some false)
    (nx_NothingToUndo_BadPolygon : (Value.ref x_NothingToUndo == Value.ref x_BadPolygon) = false)
    (sx_NothingToUndo_Singular : PySem.W.subIn K (.ref x_NothingToUndo) (.ref x_Singular) = some false)
    (nx_NothingToUndo_Singular : (Value.ref x_NothingToUndo == Value.ref x_Singular) = false)
    (sx_NothingToUndo_NoDirection : PySem.W.subIn K (.ref x_NothingToUndo) (.ref x_NoDirection) = some false)
    (nx_NothingToUndo_NoDirection : (Value.ref x_NothingToUndo == Value.ref x_NoDirection) = false)
    (sx_NothingToUndo_BadPath : PySem.W.subIn K (.ref x_NothingToUndo) (.ref x_BadPath) = some false)
    (nx_NothingToUndo_BadPath : (Value.ref x_NothingToUndo == Value.ref x_BadPath) = false)
    (sx_NothingToUndo_TooLarge : PySem.W.subIn K (.ref x_NothingToUndo) (.ref x_TooLarge) = some false)
    (nx_NothingToUndo_TooLarge : (Value.ref x_NothingToUndo == Value.ref x_TooLarge) = false)
    (sx_NothingToUndo_BadOrder : PySem.W.subIn K (.ref x_NothingToUndo) (.ref x_BadOrder) = some false)
    (nx_NothingToUndo_BadOrder : (Value.ref x_NothingToUndo == Value.ref x_BadOrder) = false)
    (sx_NothingToUndo_Unbounded : PySem.W.subIn K (.ref x_NothingToUndo) (.ref x_Unbounded) = some false)
    (nx_NothingToUndo_Unbounded : (Value.ref x_NothingToUndo == Value.ref x_Unbounded) = false)
    (sx_NothingToUndo_NoParting : PySem.W.subIn K (.ref x_NothingToUndo) (.ref x_NoParting) = some false)
    (nx_NothingToUndo_NoParting : (Value.ref x_NothingToUndo == Value.ref x_NoParting) = false)
    (sx_NothingToUndo_SpaceError : PySem.W.subIn K (.ref x_NothingToUndo) (.ref x_SpaceError) = some true)
    (nx_NothingToUndo_SpaceError : (Value.ref x_NothingToUndo == Value.ref x_SpaceError) = false)
    (xg_SpaceError : PySem.W.findIn K (.ref x_SpaceError) "__getattribute__" = some (some (.builtin "BaseException.__getattribute__")))
    (xk_SpaceError : PySem.W.findIn K (.ref x_SpaceError) "__getattr__" = some none)
    (xa_SpaceError : PySem.W.findIn K (.ref x_SpaceError) "__class__" = some (some (.builtin "object.__class__")))
    (xm_SpaceError : PySem.W.mroIn K x_SpaceError (.type "object") = some true)
    (vx_SpaceError : PySem.W.subIn K (.ref x_SpaceError) (.type "ValueError") = some true)
    (sx_SpaceError_TextFault : PySem.W.subIn K (.ref x_SpaceError) (.ref x_TextFault) = some false)
    (nx_SpaceError_TextFault : (Value.ref x_SpaceError == Value.ref x_TextFault) = false)
    (sx_SpaceError_RunFault : PySem.W.subIn K (.ref x_SpaceError) (.ref x_RunFault) = some false)
    (nx_SpaceError_RunFault : (Value.ref x_SpaceError == Value.ref x_RunFault) = false)
    (sx_SpaceError_BadRow : PySem.W.subIn K (.ref x_SpaceError) (.ref x_BadRow) = some false)
    (nx_SpaceError_BadRow : (Value.ref x_SpaceError == Value.ref x_BadRow) = false)
    (sx_SpaceError_ZeroDenominator : PySem.W.subIn K (.ref x_SpaceError) (.ref x_ZeroDenominator) = some false)
    (nx_SpaceError_ZeroDenominator : (Value.ref x_SpaceError == Value.ref x_ZeroDenominator) = false)
    (sx_SpaceError_NoNormal : PySem.W.subIn K (.ref x_SpaceError) (.ref x_NoNormal) = some false)
    (nx_SpaceError_NoNormal : (Value.ref x_SpaceError == Value.ref x_NoNormal) = false)
    (sx_SpaceError_InLine : PySem.W.subIn K (.ref x_SpaceError) (.ref x_InLine) = some false)
    (nx_SpaceError_InLine : (Value.ref x_SpaceError == Value.ref x_InLine) = false)
    (sx_SpaceError_Flat : PySem.W.subIn K (.ref x_SpaceError) (.ref x_Flat) = some false)
    (nx_SpaceError_Flat : (Value.ref x_SpaceError == Value.ref x_Flat) = false)
    (sx_SpaceError_BadPolygon : PySem.W.subIn K (.ref x_SpaceError) (.ref x_BadPolygon) = some false)
    (nx_SpaceError_BadPolygon : (Value.ref x_SpaceError == Value.ref x_BadPolygon) = false)
    (sx_SpaceError_Singular : PySem.W.subIn K (.ref x_SpaceError) (.ref x_Singular) = some false)
    (nx_SpaceError_Singular : (Value.ref x_SpaceError == Value.ref x_Singular) = false)
    (sx_SpaceError_NoDirection : PySem.W.subIn K (.ref x_SpaceError) (.ref x_NoDirection) = some false)
    (nx_SpaceError_NoDirection : (Value.ref x_SpaceError == Value.ref x_NoDirection) = false)
    (sx_SpaceError_BadPath : PySem.W.subIn K (.ref x_SpaceError) (.ref x_BadPath) = some false)
    (nx_SpaceError_BadPath : (Value.ref x_SpaceError == Value.ref x_BadPath) = false)
    (sx_SpaceError_TooLarge : PySem.W.subIn K (.ref x_SpaceError) (.ref x_TooLarge) = some false)
    (nx_SpaceError_TooLarge : (Value.ref x_SpaceError == Value.ref x_TooLarge) = false)
    (sx_SpaceError_BadOrder : PySem.W.subIn K (.ref x_SpaceError) (.ref x_BadOrder) = some false)
    (nx_SpaceError_BadOrder : (Value.ref x_SpaceError == Value.ref x_BadOrder) = false)
    (sx_SpaceError_Unbounded : PySem.W.subIn K (.ref x_SpaceError) (.ref x_Unbounded) = some false)
    (nx_SpaceError_Unbounded : (Value.ref x_SpaceError == Value.ref x_Unbounded) = false)
    (sx_SpaceError_NoParting : PySem.W.subIn K (.ref x_SpaceError) (.ref x_NoParting) = some false)
    (nx_SpaceError_NoParting : (Value.ref x_SpaceError == Value.ref x_NoParting) = false)
    (sx_SpaceError_NothingToUndo : PySem.W.subIn K (.ref x_SpaceError) (.ref x_NothingToUndo) = some false)
    (nx_SpaceError_NothingToUndo : (Value.ref x_SpaceError == Value.ref x_NothingToUndo) = false)
    (z_ValueError : PySem.W.nsIn K mainGlobals "ValueError" = some none)
    {oo_TextFault : Obj} {fi_TextFault : Addr} {iod_TextFault ian_TextFault : Option Addr} {isl_TextFault : Array (Option Value)} {ioc_TextFault ikV_TextFault idc_TextFault ipm_TextFault icd_TextFault ict_TextFault : Value}
    (ol_TextFault : K.lookup x_TextFault = some oo_TextFault)
    (ob_TextFault : oexB x_TextFault oo_TextFault = true)
    (os_TextFault : PySem.W.findIn K (.ref x_TextFault) "__setattr__" = some (some (.builtin "object.__setattr__")))
    (ok_TextFault : PySem.W.keepIn K (.ref x_TextFault) = true)
    (on_TextFault_line : PySem.W.findIn K (.ref x_TextFault) "line" = some none)
    (on_TextFault_place : PySem.W.findIn K (.ref x_TextFault) "place" = some none)
    (oi_TextFault : PySem.W.findIn K (.ref x_TextFault) "__init__" = some (some (.ref fi_TextFault)))
    (ot_TextFault : PySem.W.typeIn K (.ref fi_TextFault) = some (.type "function"))
    (ow_TextFault : K.lookup fi_TextFault = some ⟨ioc_TextFault, iod_TextFault, .func (PySem.W.fnOf "__init__" "TextFault.__init__" (defArgs si_TextFault) (defBody si_TextFault) (defScope si_TextFault) .none ikV_TextFault idc_TextFault ipm_TextFault ian_TextFault icd_TextFault ict_TextFault), isl_TextFault⟩)
    (oc_TextFault : PySem.W.codeIn K icd_TextFault "TextFault.__init__" = true)
    {oo_RunFault : Obj} {fi_RunFault : Addr} {iod_RunFault ian_RunFault : Option Addr} {isl_RunFault : Array (Option Value)} {ioc_RunFault ikV_RunFault idc_RunFault ipm_RunFault icd_RunFault ict_RunFault : Value}
    (ol_RunFault : K.lookup x_RunFault = some oo_RunFault)
    (ob_RunFault : oexB x_RunFault oo_RunFault = true)
    (os_RunFault : PySem.W.findIn K (.ref x_RunFault) "__setattr__" = some (some (.builtin "object.__setattr__")))
    (ok_RunFault : PySem.W.keepIn K (.ref x_RunFault) = true)
    (on_RunFault_line : PySem.W.findIn K (.ref x_RunFault) "line" = some none)
    (on_RunFault_place : PySem.W.findIn K (.ref x_RunFault) "place" = some none)
    (on_RunFault_why : PySem.W.findIn K (.ref x_RunFault) "why" = some none)
    (oi_RunFault : PySem.W.findIn K (.ref x_RunFault) "__init__" = some (some (.ref fi_RunFault)))
    (ot_RunFault : PySem.W.typeIn K (.ref fi_RunFault) = some (.type "function"))
    (ow_RunFault : K.lookup fi_RunFault = some ⟨ioc_RunFault, iod_RunFault, .func (PySem.W.fnOf "__init__" "RunFault.__init__" (defArgs si_RunFault) (defBody si_RunFault) (defScope si_RunFault) .none ikV_RunFault idc_RunFault ipm_RunFault ian_RunFault icd_RunFault ict_RunFault), isl_RunFault⟩)
    (oc_RunFault : PySem.W.codeIn K icd_RunFault "RunFault.__init__" = true)
    {oo_BadRow : Obj} {fi_BadRow : Addr} {iod_BadRow ian_BadRow : Option Addr} {isl_BadRow : Array (Option Value)} {ioc_BadRow ikV_BadRow idc_BadRow ipm_BadRow icd_BadRow ict_BadRow : Value}
    (ol_BadRow : K.lookup x_BadRow = some oo_BadRow)
    (ob_BadRow : oexB x_BadRow oo_BadRow = true)
    (os_BadRow : PySem.W.findIn K (.ref x_BadRow) "__setattr__" = some (some (.builtin "object.__setattr__")))
    (ok_BadRow : PySem.W.keepIn K (.ref x_BadRow) = true)
    (on_BadRow_number : PySem.W.findIn K (.ref x_BadRow) "number" = some none)
    (oi_BadRow : PySem.W.findIn K (.ref x_BadRow) "__init__" = some (some (.ref fi_BadRow)))
    (ot_BadRow : PySem.W.typeIn K (.ref fi_BadRow) = some (.type "function"))
    (ow_BadRow : K.lookup fi_BadRow = some ⟨ioc_BadRow, iod_BadRow, .func (PySem.W.fnOf "__init__" "BadRow.__init__" (defArgs si_BadRow) (defBody si_BadRow) (defScope si_BadRow) .none ikV_BadRow idc_BadRow ipm_BadRow ian_BadRow icd_BadRow ict_BadRow), isl_BadRow⟩)
    (oc_BadRow : PySem.W.codeIn K icd_BadRow "BadRow.__init__" = true)
    {oo_TooLarge : Obj} {fi_TooLarge : Addr} {iod_TooLarge ian_TooLarge : Option Addr} {isl_TooLarge : Array (Option Value)} {ioc_TooLarge ikV_TooLarge idc_TooLarge ipm_TooLarge icd_TooLarge ict_TooLarge : Value}
    (ol_TooLarge : K.lookup x_TooLarge = some oo_TooLarge)
    (ob_TooLarge : oexB x_TooLarge oo_TooLarge = true)
    (os_TooLarge : PySem.W.findIn K (.ref x_TooLarge) "__setattr__" = some (some (.builtin "object.__setattr__")))
    (ok_TooLarge : PySem.W.keepIn K (.ref x_TooLarge) = true)
    (on_TooLarge_what : PySem.W.findIn K (.ref x_TooLarge) "what" = some none)
    (oi_TooLarge : PySem.W.findIn K (.ref x_TooLarge) "__init__" = some (some (.ref fi_TooLarge)))
    (ot_TooLarge : PySem.W.typeIn K (.ref fi_TooLarge) = some (.type "function"))
    (ow_TooLarge : K.lookup fi_TooLarge = some ⟨ioc_TooLarge, iod_TooLarge, .func (PySem.W.fnOf "__init__" "TooLarge.__init__" (defArgs si_TooLarge) (defBody si_TooLarge) (defScope si_TooLarge) .none ikV_TooLarge idc_TooLarge ipm_TooLarge ian_TooLarge icd_TooLarge ict_TooLarge), isl_TooLarge⟩)
    (oc_TooLarge : PySem.W.codeIn K icd_TooLarge "TooLarge.__init__" = true)
    {oo_NoParting : Obj} {fi_NoParting : Addr} {iod_NoParting ian_NoParting : Option Addr} {isl_NoParting : Array (Option Value)} {ioc_NoParting ikV_NoParting idc_NoParting ipm_NoParting icd_NoParting ict_NoParting : Value}
    (ol_NoParting : K.lookup x_NoParting = some oo_NoParting)
    (ob_NoParting : oexB x_NoParting oo_NoParting = true)
    (os_NoParting : PySem.W.findIn K (.ref x_NoParting) "__setattr__" = some (some (.builtin "object.__setattr__")))
    (ok_NoParting : PySem.W.keepIn K (.ref x_NoParting) = true)
    (on_NoParting_why : PySem.W.findIn K (.ref x_NoParting) "why" = some none)
    (oi_NoParting : PySem.W.findIn K (.ref x_NoParting) "__init__" = some (some (.ref fi_NoParting)))
    (ot_NoParting : PySem.W.typeIn K (.ref fi_NoParting) = some (.type "function"))
    (ow_NoParting : K.lookup fi_NoParting = some ⟨ioc_NoParting, iod_NoParting, .func (PySem.W.fnOf "__init__" "NoParting.__init__" (defArgs si_NoParting) (defBody si_NoParting) (defScope si_NoParting) .none ikV_NoParting idc_NoParting ipm_NoParting ian_NoParting icd_NoParting ict_NoParting), isl_NoParting⟩)
    (oc_NoParting : PySem.W.codeIn K icd_NoParting "NoParting.__init__" = true)
    : ∃ fd : FuncData, (∀ (s : Shared) (v : Value), BindsTo s fd ⟨[v], []⟩ [("script", v)]) ∧ ∀ base : Heap, K.In base → base.Ns mainGlobals mg → FnOk l.prog w K mg base CX0 6 fa fd ["script"] (sp_law K) := by
  have e := hfa.symm.trans (PySem.W.mg_of X G a20)
  cases e
  have T : Blt mg := ⟨PySem.W.mg_none_of X G z_len, PySem.W.mg_none_of X G z_int, PySem.W.mg_none_of X G z_abs, PySem.W.mg_none_of X G z_max, PySem.W.mg_none_of X G z_min, PySem.W.mg_none_of X G z_range, PySem.W.mg_none_of X G z_isinstance, PySem.W.mg_none_of X G z_list, PySem.W.mg_none_of X G z_tuple, PySem.W.mg_none_of X G z_bool, PySem.W.mg_none_of X G z_str, PySem.W.mg_none_of X G z_zip, PySem.W.mg_none_of X G z_enumerate, PySem.W.mg_none_of X G z_sum, PySem.W.mg_of X G g_gcd⟩
  refine ⟨PySem.W.fnOf "law" "law" (defArgs s_law) (defBody s_law) (defScope s_law) .none kV20 dc20 pm20 an20 cd20 ct20, fun s v => .of_eq rfl, fun base _ _ => ?_⟩
  have EC : EF K mg ⟨x_SpaceError, x_TextFault, x_RunFault, x_BadRow, x_ZeroDenominator, x_NoNormal, x_InLine, x_Flat, x_BadPolygon, x_Singular, x_NoDirection, x_BadPath, x_TooLarge, x_BadOrder, x_Unbounded, x_NoParting, x_NothingToUndo⟩ := ⟨(PySem.W.mg_of X G gx_SpaceError), (PySem.W.mg_of X G gx_TextFault), (PySem.W.mg_of X G gx_RunFault), (PySem.W.mg_of X G gx_BadRow), (PySem.W.mg_of X G gx_ZeroDenominator), (PySem.W.mg_of X G gx_NoNormal), (PySem.W.mg_of X G gx_InLine), (PySem.W.mg_of X G gx_Flat), (PySem.W.mg_of X G gx_BadPolygon), (PySem.W.mg_of X G gx_Singular), (PySem.W.mg_of X G gx_NoDirection), (PySem.W.mg_of X G gx_BadPath), (PySem.W.mg_of X G gx_TooLarge), (PySem.W.mg_of X G gx_BadOrder), (PySem.W.mg_of X G gx_Unbounded), (PySem.W.mg_of X G gx_NoParting), (PySem.W.mg_of X G gx_NothingToUndo), fk_ZeroDenominator, fe_ZeroDenominator, fb_ZeroDenominator, ft_ZeroDenominator, ⟨xg_ZeroDenominator, xk_ZeroDenominator, fb_ZeroDenominator, hd_ZeroDenominator, xa_ZeroDenominator, xn, xt, xm_ZeroDenominator⟩, (PySem.W.exm_ref fb_SpaceError hd_SpaceError ft_SpaceError sx_ZeroDenominator_SpaceError), (kit_ref hd_SpaceError ft_SpaceError sx_ZeroDenominator_SpaceError nx_ZeroDenominator_SpaceError), (kit_ref hd_TextFault ft_TextFault sx_ZeroDenominator_TextFault nx_ZeroDenominator_TextFault), (kit_ref hd_RunFault ft_RunFault sx_ZeroDenominator_RunFault nx_ZeroDenominator_RunFault), (kit_ref hd_BadRow ft_BadRow sx_ZeroDenominator_BadRow nx_ZeroDenominator_BadRow), kit_self, (kit_ref hd_NoNormal ft_NoNormal sx_ZeroDenominator_NoNormal nx_ZeroDenominator_NoNormal), (kit_ref hd_InLine ft_InLine sx_ZeroDenominator_InLine nx_ZeroDenominator_InLine), (kit_ref hd_Flat ft_Flat sx_ZeroDenominator_Flat nx_ZeroDenominator_Flat), (kit_ref hd_BadPolygon ft_BadPolygon sx_ZeroDenominator_BadPolygon nx_ZeroDenominator_BadPolygon), (kit_ref hd_Singular ft_Singular sx_ZeroDenominator_Singular nx_ZeroDenominator_Singular), (kit_ref hd_NoDirection ft_NoDirection sx_ZeroDenominator_NoDirection nx_ZeroDenominator_NoDirection), (kit_ref hd_BadPath ft_BadPath sx_ZeroDenominator_BadPath nx_ZeroDenominator_BadPath), (kit_ref hd_TooLarge ft_TooLarge sx_ZeroDenominator_TooLarge nx_ZeroDenominator_TooLarge), (kit_ref hd_BadOrder ft_BadOrder sx_ZeroDenominator_BadOrder nx_ZeroDenominator_BadOrder), (kit_ref hd_Unbounded ft_Unbounded sx_ZeroDenominator_Unbounded nx_ZeroDenominator_Unbounded), (kit_ref hd_NoParting ft_NoParting sx_ZeroDenominator_NoParting nx_ZeroDenominator_NoParting), (kit_ref hd_NothingToUndo ft_NothingToUndo sx_ZeroDenominator_NothingToUndo nx_ZeroDenominator_NothingToUndo), (kit_b (by decide +kernel) vx_ZeroDenominator), fk_SpaceError, fe_SpaceError, fk_NoNormal, fe_NoNormal, fk_InLine, fe_InLine, fk_Flat, fe_Flat, fk_BadPolygon, fe_BadPolygon, fk_Singular, fe_Singular, fk_NoDirection, fe_NoDirection, fk_BadPath, fe_BadPath, fk_BadOrder, fe_BadOrder, fk_Unbounded, fe_Unbounded, fk_NothingToUndo, fe_NothingToUndo, ⟨⟨xg_TextFault, xk_TextFault, fb_TextFault, hd_TextFault, xa_TextFault, xn, xt, xm_TextFault⟩, (kit_b (by decide +kernel) vx_TextFault), kit_self, (kit_ref hd_RunFault ft_RunFault sx_TextFault_RunFault nx_TextFault_RunFault), (kit_ref hd_BadRow ft_BadRow sx_TextFault_BadRow nx_TextFault_BadRow), (kit_ref hd_ZeroDenominator ft_ZeroDenominator sx_TextFault_ZeroDenominator nx_TextFault_ZeroDenominator), (kit_ref hd_NoNormal ft_NoNormal sx_TextFault_NoNormal nx_TextFault_NoNormal), (kit_ref hd_InLine ft_InLine sx_TextFault_InLine nx_TextFault_InLine), (kit_ref hd_Flat ft_Flat sx_TextFault_Flat nx_TextFault_Flat), (kit_ref hd_BadPolygon ft_BadPolygon sx_TextFault_BadPolygon nx_TextFault_BadPolygon), (kit_ref hd_Singular ft_Singular sx_TextFault_Singular nx_TextFault_Singular), (kit_ref hd_NoDirection ft_NoDirection sx_TextFault_NoDirection nx_TextFault_NoDirection), (kit_ref hd_BadPath ft_BadPath sx_TextFault_BadPath nx_TextFault_BadPath), (kit_ref hd_TooLarge ft_TooLarge sx_TextFault_TooLarge nx_TextFault_TooLarge), (kit_ref hd_BadOrder ft_BadOrder sx_TextFault_BadOrder nx_TextFault_BadOrder), (kit_ref hd_Unbounded ft_Unbounded sx_TextFault_Unbounded nx_TextFault_Unbounded), (kit_ref hd_NoParting ft_NoParting sx_TextFault_NoParting nx_TextFault_NoParting), (kit_ref hd_NothingToUndo ft_NothingToUndo sx_TextFault_NothingToUndo nx_TextFault_NothingToUndo), (kit_ref hd_SpaceError ft_SpaceError sx_TextFault_SpaceError nx_TextFault_SpaceError)⟩, ⟨⟨xg_RunFault, xk_RunFault, fb_RunFault, hd_RunFault, xa_RunFault, xn, xt, xm_RunFault⟩, (kit_b (by decide +kernel) vx_RunFault), (kit_ref hd_TextFault ft_TextFault sx_RunFault_TextFault nx_RunFault_TextFault), kit_self, (kit_ref hd_BadRow ft_BadRow sx_RunFault_BadRow nx_RunFault_BadRow), (kit_ref hd_ZeroDenominator ft_ZeroDenominator sx_RunFault_ZeroDenominator nx_RunFault_ZeroDenominator), (kit_ref hd_NoNormal ft_NoNormal sx_RunFault_NoNormal nx_RunFault_NoNormal), (kit_ref hd_InLine ft_InLine sx_RunFault_InLine nx_RunFault_InLine), (kit_ref hd_Flat ft_Flat sx_RunFault_Flat nx_RunFault_Flat), (kit_ref hd_BadPolygon ft_BadPolygon sx_RunFault_BadPolygon nx_RunFault_BadPolygon), (kit_ref hd_Singular ft_Singular sx_RunFault_Singular nx_RunFault_Singular), (kit_ref hd_NoDirection ft_NoDirection sx_RunFault_NoDirection nx_RunFault_NoDirection), (kit_ref hd_BadPath ft_BadPath sx_RunFault_BadPath nx_RunFault_BadPath), (kit_ref hd_TooLarge ft_TooLarge sx_RunFault_TooLarge nx_RunFault_TooLarge), (kit_ref hd_BadOrder ft_BadOrder sx_RunFault_BadOrder nx_RunFault_BadOrder), (kit_ref hd_Unbounded ft_Unbounded sx_RunFault_Unbounded nx_RunFault_Unbounded), (kit_ref hd_NoParting ft_NoParting sx_RunFault_NoParting nx_RunFault_NoParting), (kit_ref hd_NothingToUndo ft_NothingToUndo sx_RunFault_NothingToUndo nx_RunFault_NothingToUndo), (kit_ref hd_SpaceError ft_SpaceError sx_RunFault_SpaceError nx_RunFault_SpaceError)⟩, ⟨⟨xg_BadRow, xk_BadRow, fb_BadRow, hd_BadRow, xa_BadRow, xn, xt, xm_BadRow⟩, (kit_b (by decide +kernel) vx_BadRow), (kit_ref hd_TextFault ft_TextFault sx_BadRow_TextFault nx_BadRow_TextFault), (kit_ref hd_RunFault ft_RunFault sx_BadRow_RunFault nx_BadRow_RunFault), kit_self, (kit_ref hd_ZeroDenominator ft_ZeroDenominator sx_BadRow_ZeroDenominator nx_BadRow_ZeroDenominator), (kit_ref hd_NoNormal ft_NoNormal sx_BadRow_NoNormal nx_BadRow_NoNormal), (kit_ref hd_InLine ft_InLine sx_BadRow_InLine nx_BadRow_InLine), (kit_ref hd_Flat ft_Flat sx_BadRow_Flat nx_BadRow_Flat), (kit_ref hd_BadPolygon ft_BadPolygon sx_BadRow_BadPolygon nx_BadRow_BadPolygon), (kit_ref hd_Singular ft_Singular sx_BadRow_Singular nx_BadRow_Singular), (kit_ref hd_NoDirection ft_NoDirection sx_BadRow_NoDirection nx_BadRow_NoDirection), (kit_ref hd_BadPath ft_BadPath sx_BadRow_BadPath nx_BadRow_BadPath), (kit_ref hd_TooLarge ft_TooLarge sx_BadRow_TooLarge nx_BadRow_TooLarge), (kit_ref hd_BadOrder ft_BadOrder sx_BadRow_BadOrder nx_BadRow_BadOrder), (kit_ref hd_Unbounded ft_Unbounded sx_BadRow_Unbounded nx_BadRow_Unbounded), (kit_ref hd_NoParting ft_NoParting sx_BadRow_NoParting nx_BadRow_NoParting), (kit_ref hd_NothingToUndo ft_NothingToUndo sx_BadRow_NothingToUndo nx_BadRow_NothingToUndo), (kit_ref hd_SpaceError ft_SpaceError sx_BadRow_SpaceError nx_BadRow_SpaceError)⟩, ⟨⟨xg_ZeroDenominator, xk_ZeroDenominator, fb_ZeroDenominator, hd_ZeroDenominator, xa_ZeroDenominator, xn, xt, xm_ZeroDenominator⟩, (kit_b (by decide +kernel) vx_ZeroDenominator), (kit_ref hd_TextFault ft_TextFault sx_ZeroDenominator_TextFault nx_ZeroDenominator_TextFault), (kit_ref hd_RunFault ft_RunFault sx_ZeroDenominator_RunFault nx_ZeroDenominator_RunFault), (kit_ref hd_BadRow ft_BadRow sx_ZeroDenominator_BadRow nx_ZeroDenominator_BadRow), kit_self, (kit_ref hd_NoNormal ft_NoNormal sx_ZeroDenominator_NoNormal nx_ZeroDenominator_NoNormal), (kit_ref hd_InLine ft_InLine sx_ZeroDenominator_InLine nx_ZeroDenominator_InLine), (kit_ref hd_Flat ft_Flat sx_ZeroDenominator_Flat nx_ZeroDenominator_Flat), (kit_ref hd_BadPolygon ft_BadPolygon sx_ZeroDenominator_BadPolygon nx_ZeroDenominator_BadPolygon), (kit_ref hd_Singular ft_Singular sx_ZeroDenominator_Singular nx_ZeroDenominator_Singular), (kit_ref hd_NoDirection ft_NoDirection sx_ZeroDenominator_NoDirection nx_ZeroDenominator_NoDirection), (kit_ref hd_BadPath ft_BadPath sx_ZeroDenominator_BadPath nx_ZeroDenominator_BadPath), (kit_ref hd_TooLarge ft_TooLarge sx_ZeroDenominator_TooLarge nx_ZeroDenominator_TooLarge), (kit_ref hd_BadOrder ft_BadOrder sx_ZeroDenominator_BadOrder nx_ZeroDenominator_BadOrder), (kit_ref hd_Unbounded ft_Unbounded sx_ZeroDenominator_Unbounded nx_ZeroDenominator_Unbounded), (kit_ref hd_NoParting ft_NoParting sx_ZeroDenominator_NoParting nx_ZeroDenominator_NoParting), (kit_ref hd_NothingToUndo ft_NothingToUndo sx_ZeroDenominator_NothingToUndo nx_ZeroDenominator_NothingToUndo), (kit_ref hd_SpaceError ft_SpaceError sx_ZeroDenominator_SpaceError nx_ZeroDenominator_SpaceError)⟩, ⟨⟨xg_NoNormal, xk_NoNormal, fb_NoNormal, hd_NoNormal, xa_NoNormal, xn, xt, xm_NoNormal⟩, (kit_b (by decide +kernel) vx_NoNormal), (kit_ref hd_TextFault ft_TextFault sx_NoNormal_TextFault nx_NoNormal_TextFault), (kit_ref hd_RunFault ft_RunFault sx_NoNormal_RunFault nx_NoNormal_RunFault), (kit_ref hd_BadRow ft_BadRow sx_NoNormal_BadRow nx_NoNormal_BadRow), (kit_ref hd_ZeroDenominator ft_ZeroDenominator sx_NoNormal_ZeroDenominator nx_NoNormal_ZeroDenominator), kit_self, (kit_ref hd_InLine ft_InLine sx_NoNormal_InLine nx_NoNormal_InLine), (kit_ref hd_Flat ft_Flat sx_NoNormal_Flat nx_NoNormal_Flat), (kit_ref hd_BadPolygon ft_BadPolygon sx_NoNormal_BadPolygon nx_NoNormal_BadPolygon), (kit_ref hd_Singular ft_Singular sx_NoNormal_Singular nx_NoNormal_Singular), (kit_ref hd_NoDirection ft_NoDirection sx_NoNormal_NoDirection nx_NoNormal_NoDirection), (kit_ref hd_BadPath ft_BadPath sx_NoNormal_BadPath nx_NoNormal_BadPath), (kit_ref hd_TooLarge ft_TooLarge sx_NoNormal_TooLarge nx_NoNormal_TooLarge), (kit_ref hd_BadOrder ft_BadOrder sx_NoNormal_BadOrder nx_NoNormal_BadOrder), (kit_ref hd_Unbounded ft_Unbounded sx_NoNormal_Unbounded nx_NoNormal_Unbounded), (kit_ref hd_NoParting ft_NoParting sx_NoNormal_NoParting nx_NoNormal_NoParting), (kit_ref hd_NothingToUndo ft_NothingToUndo sx_NoNormal_NothingToUndo nx_NoNormal_NothingToUndo), (kit_ref hd_SpaceError ft_SpaceError sx_NoNormal_SpaceError nx_NoNormal_SpaceError)⟩, ⟨⟨xg_InLine, xk_InLine, fb_InLine, hd_InLine, xa_InLine, xn, xt, xm_InLine⟩, (kit_b (by decide +kernel) vx_InLine), (kit_ref hd_TextFault ft_TextFault sx_InLine_TextFault nx_InLine_TextFault), (kit_ref hd_RunFault ft_RunFault sx_InLine_RunFault nx_InLine_RunFault), (kit_ref hd_BadRow ft_BadRow sx_InLine_BadRow nx_InLine_BadRow), (kit_ref hd_ZeroDenominator ft_ZeroDenominator sx_InLine_ZeroDenominator nx_InLine_ZeroDenominator), (kit_ref hd_NoNormal ft_NoNormal sx_InLine_NoNormal nx_InLine_NoNormal), kit_self, (kit_ref hd_Flat ft_Flat sx_InLine_Flat nx_InLine_Flat), (kit_ref hd_BadPolygon ft_BadPolygon sx_InLine_BadPolygon nx_InLine_BadPolygon), (kit_ref hd_Singular ft_Singular sx_InLine_Singular nx_InLine_Singular), (kit_ref hd_NoDirection ft_NoDirection sx_InLine_NoDirection nx_InLine_NoDirection), (kit_ref hd_BadPath ft_BadPath sx_InLine_BadPath nx_InLine_BadPath), (kit_ref hd_TooLarge ft_TooLarge sx_InLine_TooLarge nx_InLine_TooLarge), (kit_ref hd_BadOrder ft_BadOrder sx_InLine_BadOrder nx_InLine_BadOrder), (kit_ref hd_Unbounded ft_Unbounded sx_InLine_Unbounded nx_InLine_Unbounded), (kit_ref hd_NoParting ft_NoParting sx_InLine_NoParting nx_InLine_NoParting), (kit_ref hd_NothingToUndo ft_NothingToUndo sx_InLine_NothingToUndo nx_InLine_NothingToUndo), (kit_ref hd_SpaceError ft_SpaceError sx_InLine_SpaceError nx_InLine_SpaceError)⟩, ⟨⟨xg_Flat, xk_Flat, fb_Flat, hd_Flat, xa_Flat, xn, xt, xm_Flat⟩, (kit_b (by decide +kernel) vx_Flat), (kit_ref hd_TextFault ft_TextFault sx_Flat_TextFault nx_Flat_TextFault), (kit_ref hd_RunFault ft_RunFault sx_Flat_RunFault nx_Flat_RunFault), (kit_ref hd_BadRow ft_BadRow sx_Flat_BadRow nx_Flat_BadRow), (kit_ref hd_ZeroDenominator ft_ZeroDenominator sx_Flat_ZeroDenominator nx_Flat_ZeroDenominator), (kit_ref hd_NoNormal ft_NoNormal sx_Flat_NoNormal nx_Flat_NoNormal), (kit_ref hd_InLine ft_InLine sx_Flat_InLine nx_Flat_InLine), kit_self, (kit_ref hd_BadPolygon ft_BadPolygon sx_Flat_BadPolygon nx_Flat_BadPolygon), (kit_ref hd_Singular ft_Singular sx_Flat_Singular nx_Flat_Singular), (kit_ref hd_NoDirection ft_NoDirection sx_Flat_NoDirection nx_Flat_NoDirection), (kit_ref hd_BadPath ft_BadPath sx_Flat_BadPath nx_Flat_BadPath), (kit_ref hd_TooLarge ft_TooLarge sx_Flat_TooLarge nx_Flat_TooLarge), (kit_ref hd_BadOrder ft_BadOrder sx_Flat_BadOrder nx_Flat_BadOrder), (kit_ref hd_Unbounded ft_Unbounded sx_Flat_Unbounded nx_Flat_Unbounded), (kit_ref hd_NoParting ft_NoParting sx_Flat_NoParting nx_Flat_NoParting), (kit_ref hd_NothingToUndo ft_NothingToUndo sx_Flat_NothingToUndo nx_Flat_NothingToUndo), (kit_ref hd_SpaceError ft_SpaceError sx_Flat_SpaceError nx_Flat_SpaceError)⟩, ⟨⟨xg_BadPolygon, xk_BadPolygon, fb_BadPolygon, hd_BadPolygon, xa_BadPolygon, xn, xt, xm_BadPolygon⟩, (kit_b (by decide +kernel) vx_BadPolygon), (kit_ref hd_TextFault ft_TextFault sx_BadPolygon_TextFault nx_BadPolygon_TextFault), (kit_ref hd_RunFault ft_RunFault sx_BadPolygon_RunFault nx_BadPolygon_RunFault), (kit_ref hd_BadRow ft_BadRow sx_BadPolygon_BadRow nx_BadPolygon_BadRow), (kit_ref hd_ZeroDenominator ft_ZeroDenominator sx_BadPolygon_ZeroDenominator nx_BadPolygon_ZeroDenominator), (kit_ref hd_NoNormal ft_NoNormal sx_BadPolygon_NoNormal nx_BadPolygon_NoNormal), (kit_ref hd_InLine ft_InLine sx_BadPolygon_InLine nx_BadPolygon_InLine), (kit_ref hd_Flat ft_Flat sx_BadPolygon_Flat nx_BadPolygon_Flat), kit_self, (kit_ref hd_Singular ft_Singular sx_BadPolygon_Singular nx_BadPolygon_Singular), (kit_ref hd_NoDirection ft_NoDirection sx_BadPolygon_NoDirection nx_BadPolygon_NoDirection), (kit_ref hd_BadPath ft_BadPath sx_BadPolygon_BadPath nx_BadPolygon_BadPath), (kit_ref hd_TooLarge ft_TooLarge sx_BadPolygon_TooLarge nx_BadPolygon_TooLarge), (kit_ref hd_BadOrder ft_BadOrder sx_BadPolygon_BadOrder nx_BadPolygon_BadOrder), (kit_ref hd_Unbounded ft_Unbounded sx_BadPolygon_Unbounded nx_BadPolygon_Unbounded), (kit_ref hd_NoParting ft_NoParting sx_BadPolygon_NoParting nx_BadPolygon_NoParting), (kit_ref hd_NothingToUndo ft_NothingToUndo sx_BadPolygon_NothingToUndo nx_BadPolygon_NothingToUndo), (kit_ref hd_SpaceError ft_SpaceError sx_BadPolygon_SpaceError nx_BadPolygon_SpaceError)⟩, ⟨⟨xg_Singular, xk_Singular, fb_Singular, hd_Singular, xa_Singular, xn, xt, xm_Singular⟩, (kit_b (by decide +kernel) vx_Singular), (kit_ref hd_TextFault ft_TextFault sx_Singular_TextFault nx_Singular_TextFault), (kit_ref hd_RunFault ft_RunFault sx_Singular_RunFault nx_Singular_RunFault), (kit_ref hd_BadRow ft_BadRow sx_Singular_BadRow nx_Singular_BadRow), (kit_ref hd_ZeroDenominator ft_ZeroDenominator sx_Singular_ZeroDenominator nx_Singular_ZeroDenominator), (kit_ref hd_NoNormal ft_NoNormal sx_Singular_NoNormal nx_Singular_NoNormal), (kit_ref hd_InLine ft_InLine sx_Singular_InLine nx_Singular_InLine), (kit_ref hd_Flat ft_Flat sx_Singular_Flat nx_Singular_Flat), (kit_ref hd_BadPolygon ft_BadPolygon sx_Singular_BadPolygon nx_Singular_BadPolygon), kit_self, (kit_ref hd_NoDirection ft_NoDirection sx_Singular_NoDirection nx_Singular_NoDirection), (kit_ref hd_BadPath ft_BadPath sx_Singular_BadPath nx_Singular_BadPath), (kit_ref hd_TooLarge ft_TooLarge sx_Singular_TooLarge nx_Singular_TooLarge), (kit_ref hd_BadOrder ft_BadOrder sx_Singular_BadOrder nx_Singular_BadOrder), (kit_ref hd_Unbounded ft_Unbounded sx_Singular_Unbounded nx_Singular_Unbounded), (kit_ref hd_NoParting ft_NoParting sx_Singular_NoParting nx_Singular_NoParting), (kit_ref hd_NothingToUndo ft_NothingToUndo sx_Singular_NothingToUndo nx_Singular_NothingToUndo), (kit_ref hd_SpaceError ft_SpaceError sx_Singular_SpaceError nx_Singular_SpaceError)⟩, ⟨⟨xg_NoDirection, xk_NoDirection, fb_NoDirection, hd_NoDirection, xa_NoDirection, xn, xt, xm_NoDirection⟩, (kit_b (by decide +kernel) vx_NoDirection), (kit_ref hd_TextFault ft_TextFault sx_NoDirection_TextFault nx_NoDirection_TextFault), (kit_ref hd_RunFault ft_RunFault sx_NoDirection_RunFault nx_NoDirection_RunFault), (kit_ref hd_BadRow ft_BadRow sx_NoDirection_BadRow nx_NoDirection_BadRow), (kit_ref hd_ZeroDenominator ft_ZeroDenominator sx_NoDirection_ZeroDenominator nx_NoDirection_ZeroDenominator), (kit_ref hd_NoNormal ft_NoNormal sx_NoDirection_NoNormal nx_NoDirection_NoNormal), (kit_ref hd_InLine ft_InLine sx_NoDirection_InLine nx_NoDirection_InLine), (kit_ref hd_Flat ft_Flat sx_NoDirection_Flat nx_NoDirection_Flat), (kit_ref hd_BadPolygon ft_BadPolygon sx_NoDirection_BadPolygon nx_NoDirection_BadPolygon), (kit_ref hd_Singular ft_Singular sx_NoDirection_Singular nx_NoDirection_Singular), kit_self, (kit_ref hd_BadPath ft_BadPath sx_NoDirection_BadPath nx_NoDirection_BadPath), (kit_ref hd_TooLarge ft_TooLarge sx_NoDirection_TooLarge nx_NoDirection_TooLarge), (kit_ref hd_BadOrder ft_BadOrder sx_NoDirection_BadOrder nx_NoDirection_BadOrder), (kit_ref hd_Unbounded ft_Unbounded sx_NoDirection_Unbounded nx_NoDirection_Unbounded), (kit_ref hd_NoParting ft_NoParting sx_NoDirection_NoParting nx_NoDirection_NoParting), (kit_ref hd_NothingToUndo ft_NothingToUndo sx_NoDirection_NothingToUndo nx_NoDirection_NothingToUndo), (kit_ref hd_SpaceError ft_SpaceError sx_NoDirection_SpaceError nx_NoDirection_SpaceError)⟩, ⟨⟨xg_BadPath, xk_BadPath, fb_BadPath, hd_BadPath, xa_BadPath, xn, xt, xm_BadPath⟩, (kit_b (by decide +kernel) vx_BadPath), (kit_ref hd_TextFault ft_TextFault sx_BadPath_TextFault nx_BadPath_TextFault), (kit_ref hd_RunFault ft_RunFault sx_BadPath_RunFault nx_BadPath_RunFault), (kit_ref hd_BadRow ft_BadRow sx_BadPath_BadRow nx_BadPath_BadRow), (kit_ref hd_ZeroDenominator ft_ZeroDenominator sx_BadPath_ZeroDenominator nx_BadPath_ZeroDenominator), (kit_ref hd_NoNormal ft_NoNormal sx_BadPath_NoNormal nx_BadPath_NoNormal), (kit_ref hd_InLine ft_InLine sx_BadPath_InLine nx_BadPath_InLine), (kit_ref hd_Flat ft_Flat sx_BadPath_Flat nx_BadPath_Flat), (kit_ref hd_BadPolygon ft_BadPolygon sx_BadPath_BadPolygon nx_BadPath_BadPolygon), (kit_ref hd_Singular ft_Singular sx_BadPath_Singular nx_BadPath_Singular), (kit_ref hd_NoDirection ft_NoDirection sx_BadPath_NoDirection nx_BadPath_NoDirection), kit_self, (kit_ref hd_TooLarge ft_TooLarge sx_BadPath_TooLarge nx_BadPath_TooLarge), (kit_ref hd_BadOrder ft_BadOrder sx_BadPath_BadOrder nx_BadPath_BadOrder), (kit_ref hd_Unbounded ft_Unbounded sx_BadPath_Unbounded nx_BadPath_Unbounded), (kit_ref hd_NoParting ft_NoParting sx_BadPath_NoParting nx_BadPath_NoParting), (kit_ref hd_NothingToUndo ft_NothingToUndo sx_BadPath_NothingToUndo nx_BadPath_NothingToUndo), (kit_ref hd_SpaceError ft_SpaceError sx_BadPath_SpaceError nx_BadPath_SpaceError)⟩, ⟨⟨xg_TooLarge, xk_TooLarge, fb_TooLarge, hd_TooLarge, xa_TooLarge, xn, xt, xm_TooLarge⟩, (kit_b (by decide +kernel) vx_TooLarge), (kit_ref hd_TextFault ft_TextFault sx_TooLarge_TextFault nx_TooLarge_TextFault), (kit_ref hd_RunFault ft_RunFault sx_TooLarge_RunFault nx_TooLarge_RunFault), (kit_ref hd_BadRow ft_BadRow sx_TooLarge_BadRow nx_TooLarge_BadRow), (kit_ref hd_ZeroDenominator ft_ZeroDenominator sx_TooLarge_ZeroDenominator nx_TooLarge_ZeroDenominator), (kit_ref hd_NoNormal ft_NoNormal sx_TooLarge_NoNormal nx_TooLarge_NoNormal), (kit_ref hd_InLine ft_InLine sx_TooLarge_InLine nx_TooLarge_InLine), (kit_ref hd_Flat ft_Flat sx_TooLarge_Flat nx_TooLarge_Flat), (kit_ref hd_BadPolygon ft_BadPolygon sx_TooLarge_BadPolygon nx_TooLarge_BadPolygon), (kit_ref hd_Singular ft_Singular sx_TooLarge_Singular nx_TooLarge_Singular), (kit_ref hd_NoDirection ft_NoDirection sx_TooLarge_NoDirection nx_TooLarge_NoDirection), (kit_ref hd_BadPath ft_BadPath sx_TooLarge_BadPath nx_TooLarge_BadPath), kit_self, (kit_ref hd_BadOrder ft_BadOrder sx_TooLarge_BadOrder nx_TooLarge_BadOrder), (kit_ref hd_Unbounded ft_Unbounded sx_TooLarge_Unbounded nx_TooLarge_Unbounded), (kit_ref hd_NoParting ft_NoParting sx_TooLarge_NoParting nx_TooLarge_NoParting), (kit_ref hd_NothingToUndo ft_NothingToUndo sx_TooLarge_NothingToUndo nx_TooLarge_NothingToUndo), (kit_ref hd_SpaceError ft_SpaceError sx_TooLarge_SpaceError nx_TooLarge_SpaceError)⟩, ⟨⟨xg_BadOrder, xk_BadOrder, fb_BadOrder, hd_BadOrder, xa_BadOrder, xn, xt, xm_BadOrder⟩, (kit_b (by decide +kernel) vx_BadOrder), (kit_ref hd_TextFault ft_TextFault sx_BadOrder_TextFault nx_BadOrder_TextFault), (kit_ref hd_RunFault ft_RunFault sx_BadOrder_RunFault nx_BadOrder_RunFault), (kit_ref hd_BadRow ft_BadRow sx_BadOrder_BadRow nx_BadOrder_BadRow), (kit_ref hd_ZeroDenominator ft_ZeroDenominator sx_BadOrder_ZeroDenominator nx_BadOrder_ZeroDenominator), (kit_ref hd_NoNormal ft_NoNormal sx_BadOrder_NoNormal nx_BadOrder_NoNormal), (kit_ref hd_InLine ft_InLine sx_BadOrder_InLine nx_BadOrder_InLine), (kit_ref hd_Flat ft_Flat sx_BadOrder_Flat nx_BadOrder_Flat), (kit_ref hd_BadPolygon ft_BadPolygon sx_BadOrder_BadPolygon nx_BadOrder_BadPolygon), (kit_ref hd_Singular ft_Singular sx_BadOrder_Singular nx_BadOrder_Singular), (kit_ref hd_NoDirection ft_NoDirection sx_BadOrder_NoDirection nx_BadOrder_NoDirection), (kit_ref hd_BadPath ft_BadPath sx_BadOrder_BadPath nx_BadOrder_BadPath), (kit_ref hd_TooLarge ft_TooLarge sx_BadOrder_TooLarge nx_BadOrder_TooLarge), kit_self, (kit_ref hd_Unbounded ft_Unbounded sx_BadOrder_Unbounded nx_BadOrder_Unbounded), (kit_ref hd_NoParting ft_NoParting sx_BadOrder_NoParting nx_BadOrder_NoParting), (kit_ref hd_NothingToUndo ft_NothingToUndo sx_BadOrder_NothingToUndo nx_BadOrder_NothingToUndo), (kit_ref hd_SpaceError ft_SpaceError sx_BadOrder_SpaceError nx_BadOrder_SpaceError)⟩, ⟨⟨xg_Unbounded, xk_Unbounded, fb_Unbounded, hd_Unbounded, xa_Unbounded, xn, xt, xm_Unbounded⟩, (kit_b (by decide +kernel) vx_Unbounded), (kit_ref hd_TextFault ft_TextFault sx_Unbounded_TextFault nx_Unbounded_TextFault), (kit_ref hd_RunFault ft_RunFault sx_Unbounded_RunFault nx_Unbounded_RunFault), (kit_ref hd_BadRow ft_BadRow sx_Unbounded_BadRow nx_Unbounded_BadRow), (kit_ref hd_ZeroDenominator ft_ZeroDenominator sx_Unbounded_ZeroDenominator nx_Unbounded_ZeroDenominator), (kit_ref hd_NoNormal ft_NoNormal sx_Unbounded_NoNormal nx_Unbounded_NoNormal), (kit_ref hd_InLine ft_InLine sx_Unbounded_InLine nx_Unbounded_InLine), (kit_ref hd_Flat ft_Flat sx_Unbounded_Flat nx_Unbounded_Flat), (kit_ref hd_BadPolygon ft_BadPolygon sx_Unbounded_BadPolygon nx_Unbounded_BadPolygon), (kit_ref hd_Singular ft_Singular sx_Unbounded_Singular nx_Unbounded_Singular), (kit_ref hd_NoDirection ft_NoDirection sx_Unbounded_NoDirection nx_Unbounded_NoDirection), (kit_ref hd_BadPath ft_BadPath sx_Unbounded_BadPath nx_Unbounded_BadPath), (kit_ref hd_TooLarge ft_TooLarge sx_Unbounded_TooLarge nx_Unbounded_TooLarge), (kit_ref hd_BadOrder ft_BadOrder sx_Unbounded_BadOrder nx_Unbounded_BadOrder), kit_self, (kit_ref hd_NoParting ft_NoParting sx_Unbounded_NoParting nx_Unbounded_NoParting), (kit_ref hd_NothingToUndo ft_NothingToUndo sx_Unbounded_NothingToUndo nx_Unbounded_NothingToUndo), (kit_ref hd_SpaceError ft_SpaceError sx_Unbounded_SpaceError nx_Unbounded_SpaceError)⟩, ⟨⟨xg_NoParting, xk_NoParting, fb_NoParting, hd_NoParting, xa_NoParting, xn, xt, xm_NoParting⟩, (kit_b (by decide +kernel) vx_NoParting), (kit_ref hd_TextFault ft_TextFault sx_NoParting_TextFault nx_NoParting_TextFault), (kit_ref hd_RunFault ft_RunFault sx_NoParting_RunFault nx_NoParting_RunFault), (kit_ref hd_BadRow ft_BadRow sx_NoParting_BadRow nx_NoParting_BadRow), (kit_ref hd_ZeroDenominator ft_ZeroDenominator sx_NoParting_ZeroDenominator nx_NoParting_ZeroDenominator), (kit_ref hd_NoNormal ft_NoNormal sx_NoParting_NoNormal nx_NoParting_NoNormal), (kit_ref hd_InLine ft_InLine sx_NoParting_InLine nx_NoParting_InLine), (kit_ref hd_Flat ft_Flat sx_NoParting_Flat nx_NoParting_Flat), (kit_ref hd_BadPolygon ft_BadPolygon sx_NoParting_BadPolygon nx_NoParting_BadPolygon), (kit_ref hd_Singular ft_Singular sx_NoParting_Singular nx_NoParting_Singular), (kit_ref hd_NoDirection ft_NoDirection sx_NoParting_NoDirection nx_NoParting_NoDirection), (kit_ref hd_BadPath ft_BadPath sx_NoParting_BadPath nx_NoParting_BadPath), (kit_ref hd_TooLarge ft_TooLarge sx_NoParting_TooLarge nx_NoParting_TooLarge), (kit_ref hd_BadOrder ft_BadOrder sx_NoParting_BadOrder nx_NoParting_BadOrder), (kit_ref hd_Unbounded ft_Unbounded sx_NoParting_Unbounded nx_NoParting_Unbounded), kit_self, (kit_ref hd_NothingToUndo ft_NothingToUndo sx_NoParting_NothingToUndo nx_NoParting_NothingToUndo), (kit_ref hd_SpaceError ft_SpaceError sx_NoParting_SpaceError nx_NoParting_SpaceError)⟩, ⟨⟨xg_NothingToUndo, xk_NothingToUndo, fb_NothingToUndo, hd_NothingToUndo, xa_NothingToUndo, xn, xt, xm_NothingToUndo⟩, (kit_b (by decide +kernel) vx_NothingToUndo), (kit_ref hd_TextFault ft_TextFault sx_NothingToUndo_TextFault nx_NothingToUndo_TextFault), (kit_ref hd_RunFault ft_RunFault sx_NothingToUndo_RunFault nx_NothingToUndo_RunFault), (kit_ref hd_BadRow ft_BadRow sx_NothingToUndo_BadRow nx_NothingToUndo_BadRow), (kit_ref hd_ZeroDenominator ft_ZeroDenominator sx_NothingToUndo_ZeroDenominator nx_NothingToUndo_ZeroDenominator), (kit_ref hd_NoNormal ft_NoNormal sx_NothingToUndo_NoNormal nx_NothingToUndo_NoNormal), (kit_ref hd_InLine ft_InLine sx_NothingToUndo_InLine nx_NothingToUndo_InLine), (kit_ref hd_Flat ft_Flat sx_NothingToUndo_Flat nx_NothingToUndo_Flat), (kit_ref hd_BadPolygon ft_BadPolygon sx_NothingToUndo_BadPolygon nx_NothingToUndo_BadPolygon), (kit_ref hd_Singular ft_Singular sx_NothingToUndo_Singular nx_NothingToUndo_Singular), (kit_ref hd_NoDirection ft_NoDirection sx_NothingToUndo_NoDirection nx_NothingToUndo_NoDirection), (kit_ref hd_BadPath ft_BadPath sx_NothingToUndo_BadPath nx_NothingToUndo_BadPath), (kit_ref hd_TooLarge ft_TooLarge sx_NothingToUndo_TooLarge nx_NothingToUndo_TooLarge), (kit_ref hd_BadOrder ft_BadOrder sx_NothingToUndo_BadOrder nx_NothingToUndo_BadOrder), (kit_ref hd_Unbounded ft_Unbounded sx_NothingToUndo_Unbounded nx_NothingToUndo_Unbounded), (kit_ref hd_NoParting ft_NoParting sx_NothingToUndo_NoParting nx_NothingToUndo_NoParting), kit_self, (kit_ref hd_SpaceError ft_SpaceError sx_NothingToUndo_SpaceError nx_NothingToUndo_SpaceError)⟩, ⟨⟨xg_SpaceError, xk_SpaceError, fb_SpaceError, hd_SpaceError, xa_SpaceError, xn, xt, xm_SpaceError⟩, (kit_b (by decide +kernel) vx_SpaceError), (kit_ref hd_TextFault ft_TextFault sx_SpaceError_TextFault nx_SpaceError_TextFault), (kit_ref hd_RunFault ft_RunFault sx_SpaceError_RunFault nx_SpaceError_RunFault), (kit_ref hd_BadRow ft_BadRow sx_SpaceError_BadRow nx_SpaceError_BadRow), (kit_ref hd_ZeroDenominator ft_ZeroDenominator sx_SpaceError_ZeroDenominator nx_SpaceError_ZeroDenominator), (kit_ref hd_NoNormal ft_NoNormal sx_SpaceError_NoNormal nx_SpaceError_NoNormal), (kit_ref hd_InLine ft_InLine sx_SpaceError_InLine nx_SpaceError_InLine), (kit_ref hd_Flat ft_Flat sx_SpaceError_Flat nx_SpaceError_Flat), (kit_ref hd_BadPolygon ft_BadPolygon sx_SpaceError_BadPolygon nx_SpaceError_BadPolygon), (kit_ref hd_Singular ft_Singular sx_SpaceError_Singular nx_SpaceError_Singular), (kit_ref hd_NoDirection ft_NoDirection sx_SpaceError_NoDirection nx_SpaceError_NoDirection), (kit_ref hd_BadPath ft_BadPath sx_SpaceError_BadPath nx_SpaceError_BadPath), (kit_ref hd_TooLarge ft_TooLarge sx_SpaceError_TooLarge nx_SpaceError_TooLarge), (kit_ref hd_BadOrder ft_BadOrder sx_SpaceError_BadOrder nx_SpaceError_BadOrder), (kit_ref hd_Unbounded ft_Unbounded sx_SpaceError_Unbounded nx_SpaceError_Unbounded), (kit_ref hd_NoParting ft_NoParting sx_SpaceError_NoParting nx_SpaceError_NoParting), (kit_ref hd_NothingToUndo ft_NothingToUndo sx_SpaceError_NothingToUndo nx_SpaceError_NothingToUndo), kit_self⟩, (PySem.W.mg_none_of X G z_ValueError)⟩
  have OF_TextFault : OxF K x_TextFault ["line", "place"] := ⟨oex_of ol_TextFault ob_TextFault os_TextFault fb_TextFault ft_TextFault ok_TextFault, ⟨xg_TextFault, xk_TextFault, fb_TextFault, hd_TextFault⟩, fun f h => by
    simp only [List.mem_cons, List.not_mem_nil, or_false] at h
    rcases h with rfl | rfl
    · exact on_TextFault_line
    · exact on_TextFault_place⟩
  have FI_TextFault : FnOk l.prog w K mg base CX0 1 fi_TextFault _ ["self", "line", "place"] (sp_ini x_TextFault ["line", "place"]) := oki_TextFault (funA_mk ow_TextFault oc_TextFault) OF_TextFault
  have OF_RunFault : OxF K x_RunFault ["line", "place", "why"] := ⟨oex_of ol_RunFault ob_RunFault os_RunFault fb_RunFault ft_RunFault ok_RunFault, ⟨xg_RunFault, xk_RunFault, fb_RunFault, hd_RunFault⟩, fun f h => by
    simp only [List.mem_cons, List.not_mem_nil, or_false] at h
    rcases h with rfl | rfl | rfl
    · exact on_RunFault_line
    · exact on_RunFault_place
    · exact on_RunFault_why⟩
  have FI_RunFault : FnOk l.prog w K mg base CX0 1 fi_RunFault _ ["self", "line", "place", "why"] (sp_ini x_RunFault ["line", "place", "why"]) := oki_RunFault (funA_mk ow_RunFault oc_RunFault) OF_RunFault
  have OF_BadRow : OxF K x_BadRow ["number"] := ⟨oex_of ol_BadRow ob_BadRow os_BadRow fb_BadRow ft_BadRow ok_BadRow, ⟨xg_BadRow, xk_BadRow, fb_BadRow, hd_BadRow⟩, fun f h => by
    simp only [List.mem_cons, List.not_mem_nil, or_false] at h
    rcases h with rfl
    · exact on_BadRow_number⟩
  have FI_BadRow : FnOk l.prog w K mg base CX0 1 fi_BadRow _ ["self", "number"] (sp_ini x_BadRow ["number"]) := oki_BadRow (funA_mk ow_BadRow oc_BadRow) OF_BadRow
  have OF_TooLarge : OxF K x_TooLarge ["what"] := ⟨oex_of ol_TooLarge ob_TooLarge os_TooLarge fb_TooLarge ft_TooLarge ok_TooLarge, ⟨xg_TooLarge, xk_TooLarge, fb_TooLarge, hd_TooLarge⟩, fun f h => by
    simp only [List.mem_cons, List.not_mem_nil, or_false] at h
    rcases h with rfl
    · exact on_TooLarge_what⟩
  have FI_TooLarge : FnOk l.prog w K mg base CX0 1 fi_TooLarge _ ["self", "what"] (sp_ini x_TooLarge ["what"]) := oki_TooLarge (funA_mk ow_TooLarge oc_TooLarge) OF_TooLarge
  have OF_NoParting : OxF K x_NoParting ["why"] := ⟨oex_of ol_NoParting ob_NoParting os_NoParting fb_NoParting ft_NoParting ok_NoParting, ⟨xg_NoParting, xk_NoParting, fb_NoParting, hd_NoParting⟩, fun f h => by
    simp only [List.mem_cons, List.not_mem_nil, or_false] at h
    rcases h with rfl
    · exact on_NoParting_why⟩
  have FI_NoParting : FnOk l.prog w K mg base CX0 1 fi_NoParting _ ["self", "why"] (sp_ini x_NoParting ["why"]) := oki_NoParting (funA_mk ow_NoParting oc_NoParting) OF_NoParting
  have O_TextFault : OCl l.prog w K mg base "TextFault" x_TextFault ["line", "place"] := ⟨OF_TextFault, PySem.W.mg_of X G gx_TextFault, fi_TextFault, _, oi_TextFault, ot_TextFault, FI_TextFault, .all fun us hl => match us, hl with | [_, _, _], _ => rfl⟩
  have O_RunFault : OCl l.prog w K mg base "RunFault" x_RunFault ["line", "place", "why"] := ⟨OF_RunFault, PySem.W.mg_of X G gx_RunFault, fi_RunFault, _, oi_RunFault, ot_RunFault, FI_RunFault, .all fun us hl => match us, hl with | [_, _, _, _], _ => rfl⟩
  have O_BadRow : OCl l.prog w K mg base "BadRow" x_BadRow ["number"] := ⟨OF_BadRow, PySem.W.mg_of X G gx_BadRow, fi_BadRow, _, oi_BadRow, ot_BadRow, FI_BadRow, .all fun us hl => match us, hl with | [_, _], _ => rfl⟩
  have O_TooLarge : OCl l.prog w K mg base "TooLarge" x_TooLarge ["what"] := ⟨OF_TooLarge, PySem.W.mg_of X G gx_TooLarge, fi_TooLarge, _, oi_TooLarge, ot_TooLarge, FI_TooLarge, .all fun us hl => match us, hl with | [_, _], _ => rfl⟩
  have O_NoParting : OCl l.prog w K mg base "NoParting" x_NoParting ["why"] := ⟨OF_NoParting, PySem.W.mg_of X G gx_NoParting, fi_NoParting, _, oi_NoParting, ot_NoParting, FI_NoParting, .all fun us hl => match us, hl with | [_, _], _ => rfl⟩
  have KO_TextFault_place_line : KOCl l.prog w K mg base "TextFault" x_TextFault ["line", "place"] ["place", "line"] [2, 1] := ⟨OF_TextFault, PySem.W.mg_of X G gx_TextFault, fi_TextFault, _, oi_TextFault, ot_TextFault, FI_TextFault, pkU [0, 2, 1] [], fun s us ws _ l1 l2 => match us, ws, l1, l2 with | [_], [_, _], _, _ => .of_eq rfl, fun r1 r2 => pk_rel .nil r1 r2 _⟩
  have KO_RunFault_why_place_line : KOCl l.prog w K mg base "RunFault" x_RunFault ["line", "place", "why"] ["why", "place", "line"] [3, 2, 1] := ⟨OF_RunFault, PySem.W.mg_of X G gx_RunFault, fi_RunFault, _, oi_RunFault, ot_RunFault, FI_RunFault, pkU [0, 3, 2, 1] [], fun s us ws _ l1 l2 => match us, ws, l1, l2 with | [_], [_, _, _], _, _ => .of_eq rfl, fun r1 r2 => pk_rel .nil r1 r2 _⟩
  have KO_BadRow_number : KOCl l.prog w K mg base "BadRow" x_BadRow ["number"] ["number"] [1] := ⟨OF_BadRow, PySem.W.mg_of X G gx_BadRow, fi_BadRow, _, oi_BadRow, ot_BadRow, FI_BadRow, pkU [0, 1] [], fun s us ws _ l1 l2 => match us, ws, l1, l2 with | [_], [_], _, _ => .of_eq rfl, fun r1 r2 => pk_rel .nil r1 r2 _⟩
  have KO_TooLarge_what : KOCl l.prog w K mg base "TooLarge" x_TooLarge ["what"] ["what"] [1] := ⟨OF_TooLarge, PySem.W.mg_of X G gx_TooLarge, fi_TooLarge, _, oi_TooLarge, ot_TooLarge, FI_TooLarge, pkU [0, 1] [], fun s us ws _ l1 l2 => match us, ws, l1, l2 with | [_], [_], _, _ => .of_eq rfl, fun r1 r2 => pk_rel .nil r1 r2 _⟩
  have KO_NoParting_why : KOCl l.prog w K mg base "NoParting" x_NoParting ["why"] ["why"] [1] := ⟨OF_NoParting, PySem.W.mg_of X G gx_NoParting, fi_NoParting, _, oi_NoParting, ot_NoParting, FI_NoParting, pkU [0, 1] [], fun s us ws _ l1 l2 => match us, ws, l1, l2 with | [_], [_], _, _ => .of_eq rfl, fun r1 r2 => pk_rel .nil r1 r2 _⟩
  have bd0 : Binds K (PySem.W.fnOf "ratio" "ratio" (defArgs s_ratio) (defBody s_ratio) (defScope s_ratio) (.ref T0) kV0 dc0 pm0 an0 cd0 ct0) ["top", "bottom"] [] := fun s us X hl => by
    rw [List.append_nil] at hl ⊢
    obtain ⟨il⟩ := its0
    cases vT0 with
    | cons r q =>
      cases q
      refine BindsTo.of_looks fun M => ?_
      match us, hl with
      | [_, _], _ => exact looks_items X lT0 dT0 (.of_pure rfl)
  have C_ratio : Cal l.prog w K mg base "ratio" 1 ["top", "bottom"] (sp_ratio K) := ⟨⟨f0, _, ok_ratio (funA_mk l0 c0) T, PySem.W.mg_of X G a0, k0, bd0⟩⟩
  have KC_ratio_1 : KCal l.prog w K mg base "ratio" 1 ["top", "bottom"] (sp_ratio K) 1 [] (pkV [0, 1] [.int 1]) := by
    obtain ⟨il⟩ := its0
    cases vT0 with
    | cons r q =>
      cases q
      exact ⟨⟨f0, _, ok_ratio (funA_mk l0 c0) T, PySem.W.mg_of X G a0, k0, pkU [0, 1] [_], fun s us ws X l1 l2 => match us, ws, l1, l2 with | [_], [], _, _ => BindsTo.of_looks fun M => looks_items X lT0 dT0 (.of_pure rfl), fun r1 r2 => pk_rel (.cons r .nil) r1 r2 _⟩⟩
  have KC_ratio_0_top : KCal l.prog w K mg base "ratio" 1 ["top", "bottom"] (sp_ratio K) 0 ["top"] (pkV [0, 1] [.int 1]) := by
    obtain ⟨il⟩ := its0
    cases vT0 with
    | cons r q =>
      cases q
      exact ⟨⟨f0, _, ok_ratio (funA_mk l0 c0) T, PySem.W.mg_of X G a0, k0, pkU [0, 1] [_], fun s us ws X l1 l2 => match us, ws, l1, l2 with | [], [_], _, _ => BindsTo.of_looks fun M => looks_items X lT0 dT0 (.of_pure rfl), fun r1 r2 => pk_rel (.cons r .nil) r1 r2 _⟩⟩
  have KC_ratio_0_bottom_top : KCal l.prog w K mg base "ratio" 1 ["top", "bottom"] (sp_ratio K) 0 ["bottom", "top"] (pkV [1, 0] [.int 1]) := by
    obtain ⟨il⟩ := its0
    cases vT0 with
    | cons r q =>
      cases q
      exact ⟨⟨f0, _, ok_ratio (funA_mk l0 c0) T, PySem.W.mg_of X G a0, k0, pkU [1, 0] [_], fun s us ws X l1 l2 => match us, ws, l1, l2 with | [], [_, _], _, _ => BindsTo.of_looks fun M => looks_items X lT0 dT0 (.of_pure rfl), fun r1 r2 => pk_rel (.cons r .nil) r1 r2 _⟩⟩
  have CX_ratio_X : CalX l.prog w K mg base "ratio" 1 ["top", "bottom"] (sp_ratio_X K ⟨x_SpaceError, x_TextFault, x_RunFault, x_BadRow, x_ZeroDenominator, x_NoNormal, x_InLine, x_Flat, x_BadPolygon, x_Singular, x_NoDirection, x_BadPath, x_TooLarge, x_BadOrder, x_Unbounded, x_NoParting, x_NothingToUndo⟩) := ⟨⟨f0, _, ok_ratio_X (funA_mk l0 c0) T EC, PySem.W.mg_of X G a0, k0, bd0⟩⟩
  have C_as_ratio : Cal l.prog w K mg base "as_ratio" 1 ["number"] (sp_as_ratio K) := ⟨⟨f1, _, ok_as_ratio (funA_mk l1 c1) T, PySem.W.mg_of X G a1, k1, .all fun us hl => match us, hl with | [_], _ => rfl⟩⟩
  have KC_as_ratio_0_number : KCal l.prog w K mg base "as_ratio" 1 ["number"] (sp_as_ratio K) 0 ["number"] (pkV [0] []) := ⟨⟨f1, _, ok_as_ratio (funA_mk l1 c1) T, PySem.W.mg_of X G a1, k1, pkU [0] [], fun s us ws _ l1 l2 => match us, ws, l1, l2 with | [], [_], _, _ => .of_eq rfl, fun r1 r2 => pk_rel .nil r1 r2 _⟩⟩
  have C__law_mix : Cal l.prog w K mg base "_law_mix" 1 ["one", "two"] (sp__law_mix K) := ⟨⟨f2, _, ok__law_mix (funA_mk l2 c2) T, PySem.W.mg_of X G a2, k2, .all fun us hl => match us, hl with | [_, _], _ => rfl⟩⟩
  have C__law_gcd : Cal l.prog w K mg base "_law_gcd" 1 ["one", "two"] (sp__law_gcd K) := ⟨⟨f9, _, ok__law_gcd (funA_mk l9 c9) T, PySem.W.mg_of X G a9, k9, .all fun us hl => match us, hl with | [_, _], _ => rfl⟩⟩
  have C__law_is_integer : Cal l.prog w K mg base "_law_is_integer" 1 ["value"] (sp__law_is_integer K) := ⟨⟨f11, _, ok__law_is_integer (funA_mk l11 c11) T, PySem.W.mg_of X G a11, k11, .all fun us hl => match us, hl with | [_], _ => rfl⟩⟩
  have CE__law_error_ZeroDenominator : CalE l.prog w K mg base x_ZeroDenominator "_law_error" 1 ["e"] (sp__law_error_E_ZeroDenominator K ⟨x_SpaceError, x_TextFault, x_RunFault, x_BadRow, x_ZeroDenominator, x_NoNormal, x_InLine, x_Flat, x_BadPolygon, x_Singular, x_NoDirection, x_BadPath, x_TooLarge, x_BadOrder, x_Unbounded, x_NoParting, x_NothingToUndo⟩) := ⟨⟨f12, _, ok__law_error_E_ZeroDenominator (funA_mk l12 c12) T EC, PySem.W.mg_of X G a12, k12, .all fun us hl => match us, hl with | [_], _ => rfl⟩⟩
  have C__law_error_V_E : Cal l.prog w K mg base "_law_error" 1 ["e"] (sp__law_error_V_E K ⟨x_SpaceError, x_TextFault, x_RunFault, x_BadRow, x_ZeroDenominator, x_NoNormal, x_InLine, x_Flat, x_BadPolygon, x_Singular, x_NoDirection, x_BadPath, x_TooLarge, x_BadOrder, x_Unbounded, x_NoParting, x_NothingToUndo⟩) := ⟨⟨f12, _, ok__law_error_V_E (funA_mk l12 c12) T EC, PySem.W.mg_of X G a12, k12, .all fun us hl => match us, hl with | [_], _ => rfl⟩⟩
  have C__law_store : Cal l.prog w K mg base "_law_store" 2 ["script"] (sp__law_store K) := ⟨⟨f3, _, ok__law_store (funA_mk l3 c3) T C__law_mix, PySem.W.mg_of X G a3, k3, .all fun us hl => match us, hl with | [_], _ => rfl⟩⟩
  have C__law_take : Cal l.prog w K mg base "_law_take" 2 ["store", "many"] (sp__law_take K) := ⟨⟨f4, _, ok__law_take (funA_mk l4 c4) T C__law_mix, PySem.W.mg_of X G a4, k4, .all fun us hl => match us, hl with | [_, _], _ => rfl⟩⟩
  have C__law_refused : Cal l.prog w K mg base "_law_refused" 2 ["n"] (sp__law_refused K) := ⟨⟨f15, _, ok__law_refused (funA_mk l15 c15) T EC CX_ratio_X CE__law_error_ZeroDenominator, PySem.W.mg_of X G a15, k15, .all fun us hl => match us, hl with | [_], _ => rfl⟩⟩
  have C__law_right : Cal l.prog w K mg base "_law_right" 2 ["actual", "n", "d"] (sp__law_right K) := ⟨⟨f17, _, ok__law_right (funA_mk l17 c17) T C__law_is_integer C__law_gcd, PySem.W.mg_of X G a17, k17, .all fun us hl => match us, hl with | [_, _, _], _ => rfl⟩⟩
  have C__law_pick : Cal l.prog w K mg base "_law_pick" 3 ["store", "items"] (sp__law_pick K) := ⟨⟨f5, _, ok__law_pick (funA_mk l5 c5) T C__law_take, PySem.W.mg_of X G a5, k5, .all fun us hl => match us, hl with | [_, _], _ => rfl⟩⟩
  have C__law_few : Cal l.prog w K mg base "_law_few" 3 ["store", "most"] (sp__law_few K) := ⟨⟨f6, _, ok__law_few (funA_mk l6 c6) T C__law_take, PySem.W.mg_of X G a6, k6, .all fun us hl => match us, hl with | [_, _], _ => rfl⟩⟩
  have C__law_wide : Cal l.prog w K mg base "_law_wide" 3 ["store", "many"] (sp__law_wide K) := ⟨⟨f7, _, ok__law_wide (funA_mk l7 c7) T C__law_take, PySem.W.mg_of X G a7, k7, .all fun us hl => match us, hl with | [_, _], _ => rfl⟩⟩
  have C__law_holds_what : Cal l.prog w K mg base "_law_holds_what" 3 ["numbers", "words"] (sp__law_holds_what K) := ⟨⟨f13, _, ok__law_holds_what (funA_mk l13 c13) T EC O_TextFault O_RunFault O_BadRow O_TooLarge O_NoParting KO_TextFault_place_line KO_RunFault_why_place_line KO_BadRow_number KO_TooLarge_what KO_NoParting_why, PySem.W.mg_of X G a13, k13, .all fun us hl => match us, hl with | [_, _], _ => rfl⟩⟩
  have C__law_classes : Cal l.prog w K mg base "_law_classes" 3 ["numbers", "words"] (sp__law_classes K) := ⟨⟨f14, _, ok__law_classes (funA_mk l14 c14) T EC C__law_error_V_E O_TextFault O_RunFault O_BadRow O_TooLarge O_NoParting, PySem.W.mg_of X G a14, k14, .all fun us hl => match us, hl with | [_, _], _ => rfl⟩⟩
  have C__law_alone : Cal l.prog w K mg base "_law_alone" 3 ["n"] (sp__law_alone K) := ⟨⟨f18, _, ok__law_alone (funA_mk l18 c18) T C__law_right C_ratio C_as_ratio KC_ratio_1 KC_ratio_0_top, PySem.W.mg_of X G a18, k18, .all fun us hl => match us, hl with | [_], _ => rfl⟩⟩
  have C__law_integer : Cal l.prog w K mg base "_law_integer" 4 ["store"] (sp__law_integer K) := ⟨⟨f8, _, ok__law_integer (funA_mk l8 c8) T C__law_take C__law_wide, PySem.W.mg_of X G a8, k8, .all fun us hl => match us, hl with | [_], _ => rfl⟩⟩
  have C__law_text : Cal l.prog w K mg base "_law_text" 4 ["store", "most"] (sp__law_text K) := ⟨⟨f10, _, ok__law_text (funA_mk l10 c10) T C__law_few C__law_take, PySem.W.mg_of X G a10, k10, .all fun us hl => match us, hl with | [_, _], _ => rfl⟩⟩
  have C__law_asked : Cal l.prog w K mg base "_law_asked" 4 ["n", "d"] (sp__law_asked K) := ⟨⟨f19, _, ok__law_asked (funA_mk l19 c19) T C_ratio C__law_right C__law_refused C__law_alone C_as_ratio KC_ratio_0_bottom_top KC_as_ratio_0_number, PySem.W.mg_of X G a19, k19, .all fun us hl => match us, hl with | [_, _], _ => rfl⟩⟩
  have C__law_pair : Cal l.prog w K mg base "_law_pair" 5 ["store"] (sp__law_pair K) := ⟨⟨f16, _, ok__law_pair (funA_mk l16 c16) T C__law_take C__law_integer C__law_pick C__law_wide, PySem.W.mg_of X G a16, k16, .all fun us hl => match us, hl with | [_], _ => rfl⟩⟩
  exact ok_law (funA_mk l20 c20) T C__law_store C__law_pair C__law_integer C__law_text C__law_pick C__law_holds_what C__law_classes C__law_take C__law_asked C__law_refused
theorem walk {l : PySem.W.OpenLaw} {q : Program} {loose : List Str} {XP : (Str → Option Value) → Heap → Prop} {YP : World → Heap → Prop} {d : DefRec} {K : Params → PySem.W.Frag} (hn : l.most = some 63) (hdf : d.params.defaults = [])
    (hY : ∀ (w : World) (h : Heap), YP w h → (K w.params).In h)
    (F : ∀ (w : World) (mg : Str → Option Value) (fa : Addr) (h : Heap), (K w.params).In h → h.Ns mainGlobals mg → mg d.name = some (.ref fa) →
      ∃ fd : FuncData, (∀ (s : Shared) (u : Value), BindsTo s fd ⟨[u], []⟩ [("script", u)]) ∧ ∀ base : Heap, (K w.params).In base → base.Ns mainGlobals mg → FnOk l.prog w (K w.params) mg base CX0 6 fa fd ["script"] (sp_law (K w.params))) :
    PySem.W.WalkO q loose XP YP l.row.toRowW d [] (fun f vs => PySem.call f vs) :=
  L2.walk_of (n := 63) (k := 6) (x := "script") (CX := fun _ => CX0) (sp := fun w => sp_law (K w.params)) hn (by decide) hdf ⟨rfl, by decide, by decide⟩ hY F (fun _ _ a ns hl _ hS => ⟨a, ns, rfl, hS, hl, fun _ => rfl⟩) fun _ _ _ _ _ z => z
end My
open PySem PySem.W PyProof.Rows in
set_option maxRecDepth 100000 in
set_option maxHeartbeats 0 in
theorem PySem.Challenge.cw_everypoint_k00_ratio_in_lowest_terms_holds : PySem.Challenge.rw_everypoint_k00_ratio_in_lowest_terms.Holds := by
  w_on; o_law; k_head; (case hw => w_witness2)
  k_fill
  refine My.walk (l := PySem.Challenge.rw_everypoint_k00_ratio_in_lowest_terms) rfl rfl (fun w h Y => PySem.W.kIn_of Y) ?F
  case F =>
    intro w mg fa h KX G hmg
    refine' My.all_mk KX G hmg ?a0 ?l0 ?c0 ?k0 ?lT0 ?dT0 ?vT0 ?a1 ?l1 ?c1 ?k1 ?a2 ?l2 ?c2 ?k2 ?a3 ?l3 ?c3 ?k3 ?a4 ?l4 ?c4 ?k4 ?a5 ?l5 ?c5 ?k5 ?a6 ?l6 ?c6 ?k6 ?a7 ?l7 ?c7 ?k7 ?a8 ?l8 ?c8 ?k8 ?a9 ?l9 ?c9 ?k9 ?a10 ?l10 ?c10 ?k10 ?a11 ?l11 ?c11 ?k11 ?a12 ?l12 ?c12 ?k12 ?a13 ?l13 ?c13 ?k13 ?a14 ?l14 ?c14 ?k14 ?a15 ?l15 ?c15 ?k15 ?a16 ?l16 ?c16 ?k16 ?a17 ?l17 ?c17 ?k17 ?a18 ?l18 ?c18 ?k18 ?a19 ?l19 ?c19 ?k19 ?a20 ?l20 ?c20 ?k20 ?z_len ?z_int ?z_abs ?z_max ?z_min ?z_range ?z_isinstance ?z_list ?z_tuple ?z_bool ?z_str ?z_zip ?z_enumerate ?z_sum ?g_gcd ?gx_SpaceError ?gx_TextFault ?gx_RunFault ?gx_BadRow ?gx_ZeroDenominator ?gx_NoNormal ?gx_InLine ?gx_Flat ?gx_BadPolygon ?gx_Singular ?gx_NoDirection ?gx_BadPath ?gx_TooLarge ?gx_BadOrder ?gx_Unbounded ?gx_NoParting ?gx_NothingToUndo ?fk_ZeroDenominator ?fe_ZeroDenominator ?fb_ZeroDenominator ?ft_ZeroDenominator ?xg_ZeroDenominator ?xk_ZeroDenominator ?hd_ZeroDenominator ?xa_ZeroDenominator ?xn ?xt ?xm_ZeroDenominator ?fb_SpaceError ?hd_SpaceError ?ft_SpaceError ?sx_ZeroDenominator_SpaceError ?nx_ZeroDenominator_SpaceError ?hd_TextFault ?ft_TextFault ?sx_ZeroDenominator_TextFault ?nx_ZeroDenominator_TextFault ?hd_RunFault ?ft_RunFault ?sx_ZeroDenominator_RunFault ?nx_ZeroDenominator_RunFault ?hd_BadRow ?ft_BadRow ?sx_ZeroDenominator_BadRow ?nx_ZeroDenominator_BadRow ?hd_NoNormal ?ft_NoNormal ?sx_ZeroDenominator_NoNormal ?nx_ZeroDenominator_NoNormal ?hd_InLine ?ft_InLine ?sx_ZeroDenominator_InLine ?nx_ZeroDenominator_InLine ?hd_Flat ?ft_Flat ?sx_ZeroDenominator_Flat ?nx_ZeroDenominator_Flat ?hd_BadPolygon ?ft_BadPolygon ?sx_ZeroDenominator_BadPolygon ?nx_ZeroDenominator_BadPolygon ?hd_Singular ?ft_Singular ?sx_ZeroDenominator_Singular ?nx_ZeroDenominator_Singular ?hd_NoDirection ?ft_NoDirection ?sx_ZeroDenominator_NoDirection ?nx_ZeroDenominator_NoDirection ?hd_BadPath ?ft_BadPath ?sx_ZeroDenominator_BadPath ?nx_ZeroDenominator_BadPath ?hd_TooLarge ?ft_TooLarge ?sx_ZeroDenominator_TooLarge ?nx_ZeroDenominator_TooLarge ?hd_BadOrder ?ft_BadOrder ?sx_ZeroDenominator_BadOrder ?nx_ZeroDenominator_BadOrder ?hd_Unbounded ?ft_Unbounded ?sx_ZeroDenominator_Unbounded ?nx_ZeroDenominator_Unbounded ?hd_NoParting ?ft_NoParting ?sx_ZeroDenominator_NoParting ?nx_ZeroDenominator_NoParting ?hd_NothingToUndo ?ft_NothingToUndo ?sx_ZeroDenominator_NothingToUndo ?nx_ZeroDenominator_NothingToUndo ?vx_ZeroDenominator ?fk_SpaceError ?fe_SpaceError ?fk_NoNormal ?fe_NoNormal ?fk_InLine ?fe_InLine ?fk_Flat ?fe_Flat ?fk_BadPolygon ?fe_BadPolygon ?fk_Singular ?fe_Singular ?fk_NoDirection ?fe_NoDirection ?fk_BadPath ?fe_BadPath ?fk_BadOrder ?fe_BadOrder ?fk_Unbounded ?fe_Unbounded ?fk_NothingToUndo ?fe_NothingToUndo ?xg_TextFault ?xk_TextFault ?fb_TextFault ?xa_TextFault ?xm_TextFault ?vx_TextFault ?sx_TextFault_RunFault ?nx_TextFault_RunFault ?sx_TextFault_BadRow ?nx_TextFault_BadRow ?sx_TextFault_ZeroDenominator ?nx_TextFault_ZeroDenominator ?sx_TextFault_NoNormal ?nx_TextFault_NoNormal ?sx_TextFault_InLine ?nx_TextFault_InLine ?sx_TextFault_Flat ?nx_TextFault_Flat ?sx_TextFault_BadPolygon ?nx_TextFault_BadPolygon ?sx_TextFault_Singular ?nx_TextFault_Singular ?sx_TextFault_NoDirection ?nx_TextFault_NoDirection ?sx_TextFault_BadPath ?nx_TextFault_BadPath ?sx_TextFault_TooLarge ?nx_TextFault_TooLarge ?sx_TextFault_BadOrder ?nx_TextFault_BadOrder ?sx_TextFault_Unbounded ?nx_TextFault_Unbounded ?sx_TextFault_NoParting ?nx_TextFault_NoParting ?sx_TextFault_NothingToUndo ?nx_TextFault_NothingToUndo ?sx_TextFault_SpaceError ?nx_TextFault_SpaceError ?xg_RunFault ?xk_RunFault ?fb_RunFault ?xa_RunFault ?xm_RunFault ?vx_RunFault ?sx_RunFault_TextFault ?nx_RunFault_TextFault ?sx_RunFault_BadRow ?nx_RunFault_BadRow ?sx_RunFault_ZeroDenominator ?nx_RunFault_ZeroDenominator ?sx_RunFault_NoNormal ?nx_RunFault_NoNormal ?sx_RunFault_InLine ?nx_RunFault_InLine ?sx_RunFault_Flat ?nx_RunFault_Flat ?sx_RunFault_BadPolygon ?nx_RunFault_BadPolygon ?sx_RunFault_Singular ?nx_RunFault_Singular ?sx_RunFault_NoDirection ?nx_RunFault_NoDirection ?sx_RunFault_BadPath ?nx_RunFault_BadPath ?sx_RunFault_TooLarge ?nx_RunFault_TooLarge ?sx_RunFault_BadOrder ?nx_RunFault_BadOrder ?sx_RunFault_Unbounded ?nx_RunFault_Unbounded ?sx_RunFault_NoParting ?nx_RunFault_NoParting ?sx_RunFault_NothingToUndo ?nx_RunFault_NothingToUndo ?sx_RunFault_SpaceError ?nx_RunFault_SpaceError ?xg_BadRow ?xk_BadRow ?fb_BadRow ?xa_BadRow ?xm_BadRow ?vx_BadRow ?sx_BadRow_TextFault ?nx_BadRow_TextFault ?sx_BadRow_RunFault ?nx_BadRow_RunFault ?sx_BadRow_ZeroDenominator ?nx_BadRow_ZeroDenominator ?sx_BadRow_NoNormal ?nx_BadRow_NoNormal ?sx_BadRow_InLine ?nx_BadRow_InLine ?sx_BadRow_Flat ?nx_BadRow_Flat ?sx_BadRow_BadPolygon ?nx_BadRow_BadPolygon ?sx_BadRow_Singular ?nx_BadRow_Singular ?sx_BadRow_NoDirection ?nx_BadRow_NoDirection ?sx_BadRow_BadPath ?nx_BadRow_BadPath ?sx_BadRow_TooLarge ?nx_BadRow_TooLarge ?sx_BadRow_BadOrder ?nx_BadRow_BadOrder ?sx_BadRow_Unbounded ?nx_BadRow_Unbounded ?sx_BadRow_NoParting ?nx_BadRow_NoParting ?sx_BadRow_NothingToUndo ?nx_BadRow_NothingToUndo ?sx_BadRow_SpaceError ?nx_BadRow_SpaceError ?xg_NoNormal ?xk_NoNormal ?fb_NoNormal ?xa_NoNormal ?xm_NoNormal ?vx_NoNormal ?sx_NoNormal_TextFault ?nx_NoNormal_TextFault ?sx_NoNormal_RunFault ?nx_NoNormal_RunFault ?sx_NoNormal_BadRow ?nx_NoNormal_BadRow ?sx_NoNormal_ZeroDenominator ?nx_NoNormal_ZeroDenominator ?sx_NoNormal_InLine ?nx_NoNormal_InLine ?sx_NoNormal_Flat ?nx_NoNormal_Flat ?sx_NoNormal_BadPolygon ?nx_NoNormal_BadPolygon ?sx_NoNormal_Singular ?nx_NoNormal_Singular ?sx_NoNormal_NoDirection ?nx_NoNormal_NoDirection ?sx_NoNormal_BadPath ?nx_NoNormal_BadPath ?sx_NoNormal_TooLarge ?nx_NoNormal_TooLarge ?sx_NoNormal_BadOrder ?nx_NoNormal_BadOrder ?sx_NoNormal_Unbounded ?nx_NoNormal_Unbounded ?sx_NoNormal_NoParting ?nx_NoNormal_NoParting ?sx_NoNormal_NothingToUndo ?nx_NoNormal_NothingToUndo ?sx_NoNormal_SpaceError ?nx_NoNormal_SpaceError ?xg_InLine ?xk_InLine ?fb_InLine ?xa_InLine ?xm_InLine ?vx_InLine ?sx_InLine_TextFault ?nx_InLine_TextFault ?sx_InLine_RunFault ?nx_InLine_RunFault ?sx_InLine_BadRow ?nx_InLine_BadRow ?sx_InLine_ZeroDenominator ?nx_InLine_ZeroDenominator ?sx_InLine_NoNormal ?nx_InLine_NoNormal ?sx_InLine_Flat ?nx_InLine_Flat ?sx_InLine_BadPolygon ?nx_InLine_BadPolygon ?sx_InLine_Singular ?nx_InLine_Singular ?sx_InLine_NoDirection ?nx_InLine_NoDirection ?sx_InLine_BadPath ?nx_InLine_BadPath ?sx_InLine_TooLarge ?nx_InLine_TooLarge ?sx_InLine_BadOrder ?nx_InLine_BadOrder ?sx_InLine_Unbounded ?nx_InLine_Unbounded ?sx_InLine_NoParting ?nx_InLine_NoParting ?sx_InLine_NothingToUndo ?nx_InLine_NothingToUndo ?sx_InLine_SpaceError ?nx_InLine_SpaceError ?xg_Flat ?xk_Flat ?fb_Flat ?xa_Flat ?xm_Flat ?vx_Flat ?sx_Flat_TextFault ?nx_Flat_TextFault ?sx_Flat_RunFault ?nx_Flat_RunFault ?sx_Flat_BadRow ?nx_Flat_BadRow ?sx_Flat_ZeroDenominator ?nx_Flat_ZeroDenominator ?sx_Flat_NoNormal ?nx_Flat_NoNormal ?sx_Flat_InLine ?nx_Flat_InLine ?sx_Flat_BadPolygon ?nx_Flat_BadPolygon ?sx_Flat_Singular ?nx_Flat_Singular ?sx_Flat_NoDirection ?nx_Flat_NoDirection ?sx_Flat_BadPath ?nx_Flat_BadPath ?sx_Flat_TooLarge ?nx_Flat_TooLarge ?sx_Flat_BadOrder ?nx_Flat_BadOrder ?sx_Flat_Unbounded ?nx_Flat_Unbounded ?sx_Flat_NoParting ?nx_Flat_NoParting ?sx_Flat_NothingToUndo ?nx_Flat_NothingToUndo ?sx_Flat_SpaceError ?nx_Flat_SpaceError ?xg_BadPolygon ?xk_BadPolygon ?fb_BadPolygon ?xa_BadPolygon ?xm_BadPolygon ?vx_BadPolygon ?sx_BadPolygon_TextFault ?nx_BadPolygon_TextFault ?sx_BadPolygon_RunFault ?nx_BadPolygon_RunFault ?sx_BadPolygon_BadRow ?nx_BadPolygon_BadRow ?sx_BadPolygon_ZeroDenominator ?nx_BadPolygon_ZeroDenominator ?sx_BadPolygon_NoNormal ?nx_BadPolygon_NoNormal ?sx_BadPolygon_InLine ?nx_BadPolygon_InLine ?sx_BadPolygon_Flat ?nx_BadPolygon_Flat ?sx_BadPolygon_Singular ?nx_BadPolygon_Singular ?sx_BadPolygon_NoDirection ?nx_BadPolygon_NoDirection ?sx_BadPolygon_BadPath ?nx_BadPolygon_BadPath ?sx_BadPolygon_TooLarge ?nx_BadPolygon_TooLarge ?sx_BadPolygon_BadOrder ?nx_BadPolygon_BadOrder ?sx_BadPolygon_Unbounded ?nx_BadPolygon_Unbounded ?sx_BadPolygon_NoParting ?nx_BadPolygon_NoParting ?sx_BadPolygon_NothingToUndo ?nx_BadPolygon_NothingToUndo ?sx_BadPolygon_SpaceError ?nx_BadPolygon_SpaceError ?xg_Singular ?xk_Singular ?fb_Singular ?xa_Singular ?xm_Singular ?vx_Singular ?sx_Singular_TextFault ?nx_Singular_TextFault ?sx_Singular_RunFault ?nx_Singular_RunFault ?sx_Singular_BadRow ?nx_Singular_BadRow ?sx_Singular_ZeroDenominator ?nx_Singular_ZeroDenominator ?sx_Singular_NoNormal ?nx_Singular_NoNormal ?sx_Singular_InLine ?nx_Singular_InLine ?sx_Singular_Flat ?nx_Singular_Flat ?sx_Singular_BadPolygon ?nx_Singular_BadPolygon ?sx_Singular_NoDirection ?nx_Singular_NoDirection ?sx_Singular_BadPath ?nx_Singular_BadPath ?sx_Singular_TooLarge ?nx_Singular_TooLarge ?sx_Singular_BadOrder ?nx_Singular_BadOrder ?sx_Singular_Unbounded ?nx_Singular_Unbounded ?sx_Singular_NoParting ?nx_Singular_NoParting ?sx_Singular_NothingToUndo ?nx_Singular_NothingToUndo ?sx_Singular_SpaceError ?nx_Singular_SpaceError ?xg_NoDirection ?xk_NoDirection ?fb_NoDirection ?xa_NoDirection ?xm_NoDirection ?vx_NoDirection ?sx_NoDirection_TextFault ?nx_NoDirection_TextFault ?sx_NoDirection_RunFault ?nx_NoDirection_RunFault ?sx_NoDirection_BadRow ?nx_NoDirection_BadRow ?sx_NoDirection_ZeroDenominator ?nx_NoDirection_ZeroDenominator ?sx_NoDirection_NoNormal ?nx_NoDirection_NoNormal ?sx_NoDirection_InLine ?nx_NoDirection_InLine ?sx_NoDirection_Flat ?nx_NoDirection_Flat ?sx_NoDirection_BadPolygon ?nx_NoDirection_BadPolygon ?sx_NoDirection_Singular ?nx_NoDirection_Singular ?sx_NoDirection_BadPath ?nx_NoDirection_BadPath ?sx_NoDirection_TooLarge ?nx_NoDirection_TooLarge ?sx_NoDirection_BadOrder ?nx_NoDirection_BadOrder ?sx_NoDirection_Unbounded ?nx_NoDirection_Unbounded ?sx_NoDirection_NoParting ?nx_NoDirection_NoParting ?sx_NoDirection_NothingToUndo ?nx_NoDirection_NothingToUndo ?sx_NoDirection_SpaceError ?nx_NoDirection_SpaceError ?xg_BadPath ?xk_BadPath ?fb_BadPath ?xa_BadPath ?xm_BadPath ?vx_BadPath ?sx_BadPath_TextFault ?nx_BadPath_TextFault ?sx_BadPath_RunFault ?nx_BadPath_RunFault ?sx_BadPath_BadRow ?nx_BadPath_BadRow ?sx_BadPath_ZeroDenominator ?nx_BadPath_ZeroDenominator ?sx_BadPath_NoNormal ?nx_BadPath_NoNormal ?sx_BadPath_InLine ?nx_BadPath_InLine ?sx_BadPath_Flat ?nx_BadPath_Flat ?sx_BadPath_BadPolygon ?nx_BadPath_BadPolygon ?sx_BadPath_Singular ?nx_BadPath_Singular ?sx_BadPath_NoDirection ?nx_BadPath_NoDirection ?sx_BadPath_TooLarge ?nx_BadPath_TooLarge ?sx_BadPath_BadOrder ?nx_BadPath_BadOrder ?sx_BadPath_Unbounded ?nx_BadPath_Unbounded ?sx_BadPath_NoParting ?nx_BadPath_NoParting ?sx_BadPath_NothingToUndo ?nx_BadPath_NothingToUndo ?sx_BadPath_SpaceError ?nx_BadPath_SpaceError ?xg_TooLarge ?xk_TooLarge ?fb_TooLarge ?xa_TooLarge ?xm_TooLarge ?vx_TooLarge ?sx_TooLarge_TextFault ?nx_TooLarge_TextFault ?sx_TooLarge_RunFault ?nx_TooLarge_RunFault ?sx_TooLarge_BadRow ?nx_TooLarge_BadRow ?sx_TooLarge_ZeroDenominator ?nx_TooLarge_ZeroDenominator ?sx_TooLarge_NoNormal ?nx_TooLarge_NoNormal ?sx_TooLarge_InLine ?nx_TooLarge_InLine ?sx_TooLarge_Flat ?nx_TooLarge_Flat ?sx_TooLarge_BadPolygon ?nx_TooLarge_BadPolygon ?sx_TooLarge_Singular ?nx_TooLarge_Singular ?sx_TooLarge_NoDirection ?nx_TooLarge_NoDirection ?sx_TooLarge_BadPath ?nx_TooLarge_BadPath ?sx_TooLarge_BadOrder ?nx_TooLarge_BadOrder ?sx_TooLarge_Unbounded ?nx_TooLarge_Unbounded ?sx_TooLarge_NoParting ?nx_TooLarge_NoParting ?sx_TooLarge_NothingToUndo ?nx_TooLarge_NothingToUndo ?sx_TooLarge_SpaceError ?nx_TooLarge_SpaceError ?xg_BadOrder ?xk_BadOrder ?fb_BadOrder ?xa_BadOrder ?xm_BadOrder ?vx_BadOrder ?sx_BadOrder_TextFault ?nx_BadOrder_TextFault ?sx_BadOrder_RunFault ?nx_BadOrder_RunFault ?sx_BadOrder_BadRow ?nx_BadOrder_BadRow ?sx_BadOrder_ZeroDenominator ?nx_BadOrder_ZeroDenominator ?sx_BadOrder_NoNormal ?nx_BadOrder_NoNormal ?sx_BadOrder_InLine ?nx_BadOrder_InLine ?sx_BadOrder_Flat ?nx_BadOrder_Flat ?sx_BadOrder_BadPolygon ?nx_BadOrder_BadPolygon ?sx_BadOrder_Singular ?nx_BadOrder_Singular ?sx_BadOrder_NoDirection ?nx_BadOrder_NoDirection ?sx_BadOrder_BadPath ?nx_BadOrder_BadPath ?sx_BadOrder_TooLarge ?nx_BadOrder_TooLarge ?sx_BadOrder_Unbounded ?nx_BadOrder_Unbounded ?sx_BadOrder_NoParting ?nx_BadOrder_NoParting ?sx_BadOrder_NothingToUndo ?nx_BadOrder_NothingToUndo ?sx_BadOrder_SpaceError ?nx_BadOrder_SpaceError ?xg_Unbounded ?xk_Unbounded ?fb_Unbounded ?xa_Unbounded ?xm_Unbounded ?vx_Unbounded ?sx_Unbounded_TextFault ?nx_Unbounded_TextFault ?sx_Unbounded_RunFault ?nx_Unbounded_RunFault ?sx_Unbounded_BadRow ?nx_Unbounded_BadRow ?sx_Unbounded_ZeroDenominator ?nx_Unbounded_ZeroDenominator ?sx_Unbounded_NoNormal ?nx_Unbounded_NoNormal ?sx_Unbounded_InLine ?nx_Unbounded_InLine ?sx_Unbounded_Flat ?nx_Unbounded_Flat ?sx_Unbounded_BadPolygon ?nx_Unbounded_BadPolygon ?sx_Unbounded_Singular ?nx_Unbounded_Singular ?sx_Unbounded_NoDirection ?nx_Unbounded_NoDirection ?sx_Unbounded_BadPath ?nx_Unbounded_BadPath ?sx_Unbounded_TooLarge ?nx_Unbounded_TooLarge ?sx_Unbounded_BadOrder ?nx_Unbounded_BadOrder ?sx_Unbounded_NoParting ?nx_Unbounded_NoParting ?sx_Unbounded_NothingToUndo ?nx_Unbounded_NothingToUndo ?sx_Unbounded_SpaceError ?nx_Unbounded_SpaceError ?xg_NoParting ?xk_NoParting ?fb_NoParting ?xa_NoParting ?xm_NoParting ?vx_NoParting ?sx_NoParting_TextFault ?nx_NoParting_TextFault ?sx_NoParting_RunFault ?nx_NoParting_RunFault ?sx_NoParting_BadRow ?nx_NoParting_BadRow ?sx_NoParting_ZeroDenominator ?nx_NoParting_ZeroDenominator ?sx_NoParting_NoNormal ?nx_NoParting_NoNormal ?sx_NoParting_InLine ?nx_NoParting_InLine ?sx_NoParting_Flat ?nx_NoParting_Flat ?sx_NoParting_BadPolygon ?nx_NoParting_BadPolygon ?sx_NoParting_Singular ?nx_NoParting_Singular ?sx_NoParting_NoDirection ?nx_NoParting_NoDirection ?sx_NoParting_BadPath ?nx_NoParting_BadPath ?sx_NoParting_TooLarge ?nx_NoParting_TooLarge ?sx_NoParting_BadOrder ?nx_NoParting_BadOrder ?sx_NoParting_Unbounded ?nx_NoParting_Unbounded ?sx_NoParting_NothingToUndo ?nx_NoParting_NothingToUndo ?sx_NoParting_SpaceError ?nx_NoParting_SpaceError ?xg_NothingToUndo ?xk_NothingToUndo ?fb_NothingToUndo ?xa_NothingToUndo ?xm_NothingToUndo ?vx_NothingToUndo ?sx_NothingToUndo_TextFault ?nx_NothingToUndo_TextFault ?sx_NothingToUndo_RunFault ?nx_NothingToUndo_RunFault ?sx_NothingToUndo_BadRow ?nx_NothingToUndo_BadRow ?sx_NothingToUndo_ZeroDenominator ?nx_NothingToUndo_ZeroDenominator ?sx_NothingToUndo_NoNormal ?nx_NothingToUndo_NoNormal ?sx_NothingToUndo_InLine ?nx_NothingToUndo_InLine ?sx_NothingToUndo_Flat ?nx_NothingToUndo_Flat ?sx_NothingToUndo_BadPolygon ?nx_NothingToUndo_BadPolygon ?sx_NothingToUndo_Singular ?nx_NothingToUndo_Singular ?sx_NothingToUndo_NoDirection ?nx_NothingToUndo_NoDirection ?sx_NothingToUndo_BadPath ?nx_NothingToUndo_BadPath ?sx_NothingToUndo_TooLarge ?nx_NothingToUndo_TooLarge ?sx_NothingToUndo_BadOrder ?nx_NothingToUndo_BadOrder ?sx_NothingToUndo_Unbounded ?nx_NothingToUndo_Unbounded ?sx_NothingToUndo_NoParting ?nx_NothingToUndo_NoParting ?sx_NothingToUndo_SpaceError ?nx_NothingToUndo_SpaceError ?xg_SpaceError ?xk_SpaceError ?xa_SpaceError ?xm_SpaceError ?vx_SpaceError ?sx_SpaceError_TextFault ?nx_SpaceError_TextFault ?sx_SpaceError_RunFault ?nx_SpaceError_RunFault ?sx_SpaceError_BadRow ?nx_SpaceError_BadRow ?sx_SpaceError_ZeroDenominator ?nx_SpaceError_ZeroDenominator ?sx_SpaceError_NoNormal ?nx_SpaceError_NoNormal ?sx_SpaceError_InLine ?nx_SpaceError_InLine ?sx_SpaceError_Flat ?nx_SpaceError_Flat ?sx_SpaceError_BadPolygon ?nx_SpaceError_BadPolygon ?sx_SpaceError_Singular ?nx_SpaceError_Singular ?sx_SpaceError_NoDirection ?nx_SpaceError_NoDirection ?sx_SpaceError_BadPath ?nx_SpaceError_BadPath ?sx_SpaceError_TooLarge ?nx_SpaceError_TooLarge ?sx_SpaceError_BadOrder ?nx_SpaceError_BadOrder ?sx_SpaceError_Unbounded ?nx_SpaceError_Unbounded ?sx_SpaceError_NoParting ?nx_SpaceError_NoParting ?sx_SpaceError_NothingToUndo ?nx_SpaceError_NothingToUndo ?z_ValueError ?ol_TextFault ?ob_TextFault ?os_TextFault ?ok_TextFault ?on_TextFault_line ?on_TextFault_place ?oi_TextFault ?ot_TextFault ?ow_TextFault ?oc_TextFault ?ol_RunFault ?ob_RunFault ?os_RunFault ?ok_RunFault ?on_RunFault_line ?on_RunFault_place ?on_RunFault_why ?oi_RunFault ?ot_RunFault ?ow_RunFault ?oc_RunFault ?ol_BadRow ?ob_BadRow ?os_BadRow ?ok_BadRow ?on_BadRow_number ?oi_BadRow ?ot_BadRow ?ow_BadRow ?oc_BadRow ?ol_TooLarge ?ob_TooLarge ?os_TooLarge ?ok_TooLarge ?on_TooLarge_what ?oi_TooLarge ?ot_TooLarge ?ow_TooLarge ?oc_TooLarge ?ol_NoParting ?ob_NoParting ?os_NoParting ?ok_NoParting ?on_NoParting_why ?oi_NoParting ?ot_NoParting ?ow_NoParting ?oc_NoParting
    (case a0 => k_is)
    (case l0 => k_is)
    (case c0 => k_is)
    (case k0 => k_is)
    (case lT0 => k_is)
    (case dT0 => rfl)
    (case vT0 => exact .cons ⟨_, rfl⟩ .nil)
    (case a1 => k_is)
    (case l1 => k_is)
    (case c1 => k_is)
    (case k1 => k_is)
    (case a2 => k_is)
    (case l2 => k_is)
    (case c2 => k_is)
    (case k2 => k_is)
    (case a3 => k_is)
    (case l3 => k_is)
    (case c3 => k_is)
    (case k3 => k_is)
    (case a4 => k_is)
    (case l4 => k_is)
    (case c4 => k_is)
    (case k4 => k_is)
    (case a5 => k_is)
    (case l5 => k_is)
    (case c5 => k_is)
    (case k5 => k_is)
    (case a6 => k_is)
    (case l6 => k_is)
    (case c6 => k_is)
    (case k6 => k_is)
    (case a7 => k_is)
    (case l7 => k_is)
    (case c7 => k_is)
    (case k7 => k_is)
    (case a8 => k_is)
    (case l8 => k_is)
    (case c8 => k_is)
    (case k8 => k_is)
    (case a9 => k_is)
    (case l9 => k_is)
    (case c9 => k_is)
    (case k9 => k_is)
    (case a10 => k_is)
    (case l10 => k_is)
    (case c10 => k_is)
    (case k10 => k_is)
    (case a11 => k_is)
    (case l11 => k_is)
    (case c11 => k_is)
    (case k11 => k_is)
    (case a12 => k_is)
    (case l12 => k_is)
    (case c12 => k_is)
    (case k12 => k_is)
    (case a13 => k_is)
    (case l13 => k_is)
    (case c13 => k_is)
    (case k13 => k_is)
    (case a14 => k_is)
    (case l14 => k_is)
    (case c14 => k_is)
    (case k14 => k_is)
    (case a15 => k_is)
    (case l15 => k_is)
    (case c15 => k_is)
    (case k15 => k_is)
    (case a16 => k_is)
    (case l16 => k_is)
    (case c16 => k_is)
    (case k16 => k_is)
    (case a17 => k_is)
    (case l17 => k_is)
    (case c17 => k_is)
    (case k17 => k_is)
    (case a18 => k_is)
    (case l18 => k_is)
    (case c18 => k_is)
    (case k18 => k_is)
    (case a19 => k_is)
    (case l19 => k_is)
    (case c19 => k_is)
    (case k19 => k_is)
    (case a20 => k_is)
    (case l20 => k_is)
    (case c20 => k_is)
    (case k20 => k_is)
    (case z_len => k_is)
    (case z_int => k_is)
    (case z_abs => k_is)
    (case z_max => k_is)
    (case z_min => k_is)
    (case z_range => k_is)
    (case z_isinstance => k_is)
    (case z_list => k_is)
    (case z_tuple => k_is)
    (case z_bool => k_is)
    (case z_str => k_is)
    (case z_zip => k_is)
    (case z_enumerate => k_is)
    (case z_sum => k_is)
    (case g_gcd => k_is)
    (case gx_SpaceError => k_is)
    (case gx_TextFault => k_is)
    (case gx_RunFault => k_is)
    (case gx_BadRow => k_is)
    (case gx_ZeroDenominator => k_is)
    (case gx_NoNormal => k_is)
    (case gx_InLine => k_is)
    (case gx_Flat => k_is)
    (case gx_BadPolygon => k_is)
    (case gx_Singular => k_is)
    (case gx_NoDirection => k_is)
    (case gx_BadPath => k_is)
    (case gx_TooLarge => k_is)
    (case gx_BadOrder => k_is)
    (case gx_Unbounded => k_is)
    (case gx_NoParting => k_is)
    (case gx_NothingToUndo => k_is)
    (case fk_ZeroDenominator => k_is)
    (case fe_ZeroDenominator => k_exc)
    (case fb_ZeroDenominator => k_is)
    (case ft_ZeroDenominator => k_is)
    (case xg_ZeroDenominator => k_is)
    (case xk_ZeroDenominator => k_is)
    (case hd_ZeroDenominator => k_is)
    (case xa_ZeroDenominator => k_is)
    (case xn => k_is)
    (case xt => k_is)
    (case xm_ZeroDenominator => k_is)
    (case fb_SpaceError => k_is)
    (case hd_SpaceError => k_is)
    (case ft_SpaceError => k_is)
    (case sx_ZeroDenominator_SpaceError => k_is)
    (case nx_ZeroDenominator_SpaceError => rfl)
    (case hd_TextFault => k_is)
    (case ft_TextFault => k_is)
    (case sx_ZeroDenominator_TextFault => k_is)
    (case nx_ZeroDenominator_TextFault => rfl)
    (case hd_RunFault => k_is)
    (case ft_RunFault => k_is)
    (case sx_ZeroDenominator_RunFault => k_is)
    (case nx_ZeroDenominator_RunFault => rfl)
    (case hd_BadRow => k_is)
    (case ft_BadRow => k_is)
    (case sx_ZeroDenominator_BadRow => k_is)
    (case nx_ZeroDenominator_BadRow => rfl)
    (case hd_NoNormal => k_is)
    (case ft_NoNormal => k_is)
    (case sx_ZeroDenominator_NoNormal => k_is)
    (case nx_ZeroDenominator_NoNormal => rfl)
    (case hd_InLine => k_is)
    (case ft_InLine => k_is)
    (case sx_ZeroDenominator_InLine => k_is)
    (case nx_ZeroDenominator_InLine => rfl)
    (case hd_Flat => k_is)
    (case ft_Flat => k_is)
    (case sx_ZeroDenominator_Flat => k_is)
    (case nx_ZeroDenominator_Flat => rfl)
    (case hd_BadPolygon => k_is)
    (case ft_BadPolygon => k_is)
    (case sx_ZeroDenominator_BadPolygon => k_is)
    (case nx_ZeroDenominator_BadPolygon => rfl)
    (case hd_Singular => k_is)
    (case ft_Singular => k_is)
    (case sx_ZeroDenominator_Singular => k_is)
    (case nx_ZeroDenominator_Singular => rfl)
    (case hd_NoDirection => k_is)
    (case ft_NoDirection => k_is)
    (case sx_ZeroDenominator_NoDirection => k_is)
    (case nx_ZeroDenominator_NoDirection => rfl)
    (case hd_BadPath => k_is)
    (case ft_BadPath => k_is)
    (case sx_ZeroDenominator_BadPath => k_is)
    (case nx_ZeroDenominator_BadPath => rfl)
    (case hd_TooLarge => k_is)
    (case ft_TooLarge => k_is)
    (case sx_ZeroDenominator_TooLarge => k_is)
    (case nx_ZeroDenominator_TooLarge => rfl)
    (case hd_BadOrder => k_is)
    (case ft_BadOrder => k_is)
    (case sx_ZeroDenominator_BadOrder => k_is)
    (case nx_ZeroDenominator_BadOrder => rfl)
    (case hd_Unbounded => k_is)
    (case ft_Unbounded => k_is)
    (case sx_ZeroDenominator_Unbounded => k_is)
    (case nx_ZeroDenominator_Unbounded => rfl)
    (case hd_NoParting => k_is)
    (case ft_NoParting => k_is)
    (case sx_ZeroDenominator_NoParting => k_is)
    (case nx_ZeroDenominator_NoParting => rfl)
    (case hd_NothingToUndo => k_is)
    (case ft_NothingToUndo => k_is)
    (case sx_ZeroDenominator_NothingToUndo => k_is)
    (case nx_ZeroDenominator_NothingToUndo => rfl)
    (case vx_ZeroDenominator => k_is)
    (case fk_SpaceError => k_is)
    (case fe_SpaceError => k_exc)
    (case fk_NoNormal => k_is)
    (case fe_NoNormal => k_exc)
    (case fk_InLine => k_is)
    (case fe_InLine => k_exc)
    (case fk_Flat => k_is)
    (case fe_Flat => k_exc)
    (case fk_BadPolygon => k_is)
    (case fe_BadPolygon => k_exc)
    (case fk_Singular => k_is)
    (case fe_Singular => k_exc)
    (case fk_NoDirection => k_is)
    (case fe_NoDirection => k_exc)
    (case fk_BadPath => k_is)
    (case fe_BadPath => k_exc)
    (case fk_BadOrder => k_is)
    (case fe_BadOrder => k_exc)
    (case fk_Unbounded => k_is)
    (case fe_Unbounded => k_exc)
    (case fk_NothingToUndo => k_is)
    (case fe_NothingToUndo => k_exc)
    (case xg_TextFault => k_is)
    (case xk_TextFault => k_is)
    (case fb_TextFault => k_is)
    (case xa_TextFault => k_is)
    (case xm_TextFault => k_is)
    (case vx_TextFault => k_is)
    (case sx_TextFault_RunFault => k_is)
    (case nx_TextFault_RunFault => rfl)
    (case sx_TextFault_BadRow => k_is)
    (case nx_TextFault_BadRow => rfl)
    (case sx_TextFault_ZeroDenominator => k_is)
    (case nx_TextFault_ZeroDenominator => rfl)
    (case sx_TextFault_NoNormal => k_is)
    (case nx_TextFault_NoNormal => rfl)
    (case sx_TextFault_InLine => k_is)
    (case nx_TextFault_InLine => rfl)
    (case sx_TextFault_Flat => k_is)
    (case nx_TextFault_Flat => rfl)
    (case sx_TextFault_BadPolygon => k_is)
    (case nx_TextFault_BadPolygon => rfl)
    (case sx_TextFault_Singular => k_is)
    (case nx_TextFault_Singular => rfl)
    (case sx_TextFault_NoDirection => k_is)
    (case nx_TextFault_NoDirection => rfl)
    (case sx_TextFault_BadPath => k_is)
    (case nx_TextFault_BadPath => rfl)
    (case sx_TextFault_TooLarge => k_is)
    (case nx_TextFault_TooLarge => rfl)
    (case sx_TextFault_BadOrder => k_is)
    (case nx_TextFault_BadOrder => rfl)
    (case sx_TextFault_Unbounded => k_is)
    (case nx_TextFault_Unbounded => rfl)
    (case sx_TextFault_NoParting => k_is)
    (case nx_TextFault_NoParting => rfl)
    (case sx_TextFault_NothingToUndo => k_is)
    (case nx_TextFault_NothingToUndo => rfl)
    (case sx_TextFault_SpaceError => k_is)
    (case nx_TextFault_SpaceError => rfl)
    (case xg_RunFault => k_is)
    (case xk_RunFault => k_is)
    (case fb_RunFault => k_is)
    (case xa_RunFault => k_is)
    (case xm_RunFault => k_is)
    (case vx_RunFault => k_is)
    (case sx_RunFault_TextFault => k_is)
    (case nx_RunFault_TextFault => rfl)
    (case sx_RunFault_BadRow => k_is)
    (case nx_RunFault_BadRow => rfl)
    (case sx_RunFault_ZeroDenominator => k_is)
    (case nx_RunFault_ZeroDenominator => rfl)
    (case sx_RunFault_NoNormal => k_is)
    (case nx_RunFault_NoNormal => rfl)
    (case sx_RunFault_InLine => k_is)
    (case nx_RunFault_InLine => rfl)
    (case sx_RunFault_Flat => k_is)
    (case nx_RunFault_Flat => rfl)
    (case sx_RunFault_BadPolygon => k_is)
    (case nx_RunFault_BadPolygon => rfl)
    (case sx_RunFault_Singular => k_is)
    (case nx_RunFault_Singular => rfl)
    (case sx_RunFault_NoDirection => k_is)
    (case nx_RunFault_NoDirection => rfl)
    (case sx_RunFault_BadPath => k_is)
    (case nx_RunFault_BadPath => rfl)
    (case sx_RunFault_TooLarge => k_is)
    (case nx_RunFault_TooLarge => rfl)
    (case sx_RunFault_BadOrder => k_is)
    (case nx_RunFault_BadOrder => rfl)
    (case sx_RunFault_Unbounded => k_is)
    (case nx_RunFault_Unbounded => rfl)
    (case sx_RunFault_NoParting => k_is)
    (case nx_RunFault_NoParting => rfl)
    (case sx_RunFault_NothingToUndo => k_is)
    (case nx_RunFault_NothingToUndo => rfl)
    (case sx_RunFault_SpaceError => k_is)
    (case nx_RunFault_SpaceError => rfl)
    (case xg_BadRow => k_is)
    (case xk_BadRow => k_is)
    (case fb_BadRow => k_is)
    (case xa_BadRow => k_is)
    (case xm_BadRow => k_is)
    (case vx_BadRow => k_is)
    (case sx_BadRow_TextFault => k_is)
    (case nx_BadRow_TextFault => rfl)
    (case sx_BadRow_RunFault => k_is)
    (case nx_BadRow_RunFault => rfl)
    (case sx_BadRow_ZeroDenominator => k_is)
    (case nx_BadRow_ZeroDenominator => rfl)
    (case sx_BadRow_NoNormal => k_is)
    (case nx_BadRow_NoNormal => rfl)
    (case sx_BadRow_InLine => k_is)
    (case nx_BadRow_InLine => rfl)
    (case sx_BadRow_Flat => k_is)
    (case nx_BadRow_Flat => rfl)
    (case sx_BadRow_BadPolygon => k_is)
    (case nx_BadRow_BadPolygon => rfl)
    (case sx_BadRow_Singular => k_is)
    (case nx_BadRow_Singular => rfl)
    (case sx_BadRow_NoDirection => k_is)
    (case nx_BadRow_NoDirection => rfl)
    (case sx_BadRow_BadPath => k_is)
    (case nx_BadRow_BadPath => rfl)
    (case sx_BadRow_TooLarge => k_is)
    (case nx_BadRow_TooLarge => rfl)
    (case sx_BadRow_BadOrder => k_is)
    (case nx_BadRow_BadOrder => rfl)
    (case sx_BadRow_Unbounded => k_is)
    (case nx_BadRow_Unbounded => rfl)
    (case sx_BadRow_NoParting => k_is)
    (case nx_BadRow_NoParting => rfl)
    (case sx_BadRow_NothingToUndo => k_is)
    (case nx_BadRow_NothingToUndo => rfl)
    (case sx_BadRow_SpaceError => k_is)
    (case nx_BadRow_SpaceError => rfl)
    (case xg_NoNormal => k_is)
    (case xk_NoNormal => k_is)
    (case fb_NoNormal => k_is)
    (case xa_NoNormal => k_is)
    (case xm_NoNormal => k_is)
    (case vx_NoNormal => k_is)
    (case sx_NoNormal_TextFault => k_is)
    (case nx_NoNormal_TextFault => rfl)
    (case sx_NoNormal_RunFault => k_is)
    (case nx_NoNormal_RunFault => rfl)
    (case sx_NoNormal_BadRow => k_is)
    (case nx_NoNormal_BadRow => rfl)
    (case sx_NoNormal_ZeroDenominator => k_is)
    (case nx_NoNormal_ZeroDenominator => rfl)
    (case sx_NoNormal_InLine => k_is)
    (case nx_NoNormal_InLine => rfl)
    (case sx_NoNormal_Flat => k_is)
    (case nx_NoNormal_Flat => rfl)
    (case sx_NoNormal_BadPolygon => k_is)
    (case nx_NoNormal_BadPolygon => rfl)
    (case sx_NoNormal_Singular => k_is)
    (case nx_NoNormal_Singular => rfl)
    (case sx_NoNormal_NoDirection => k_is)
    (case nx_NoNormal_NoDirection => rfl)
    (case sx_NoNormal_BadPath => k_is)
    (case nx_NoNormal_BadPath => rfl)
    (case sx_NoNormal_TooLarge => k_is)
    (case nx_NoNormal_TooLarge => rfl)
    (case sx_NoNormal_BadOrder => k_is)
    (case nx_NoNormal_BadOrder => rfl)
    (case sx_NoNormal_Unbounded => k_is)
    (case nx_NoNormal_Unbounded => rfl)
    (case sx_NoNormal_NoParting => k_is)
    (case nx_NoNormal_NoParting => rfl)
    (case sx_NoNormal_NothingToUndo => k_is)
    (case nx_NoNormal_NothingToUndo => rfl)
    (case sx_NoNormal_SpaceError => k_is)
    (case nx_NoNormal_SpaceError => rfl)
    (case xg_InLine => k_is)
    (case xk_InLine => k_is)
    (case fb_InLine => k_is)
    (case xa_InLine => k_is)
    (case xm_InLine => k_is)
    (case vx_InLine => k_is)
    (case sx_InLine_TextFault => k_is)
    (case nx_InLine_TextFault => rfl)
    (case sx_InLine_RunFault => k_is)
    (case nx_InLine_RunFault => rfl)
    (case sx_InLine_BadRow => k_is)
    (case nx_InLine_BadRow => rfl)
    (case sx_InLine_ZeroDenominator => k_is)
    (case nx_InLine_ZeroDenominator => rfl)
    (case sx_InLine_NoNormal => k_is)
    (case nx_InLine_NoNormal => rfl)
    (case sx_InLine_Flat => k_is)
    (case nx_InLine_Flat => rfl)
    (case sx_InLine_BadPolygon => k_is)
    (case nx_InLine_BadPolygon => rfl)
    (case sx_InLine_Singular => k_is)
    (case nx_InLine_Singular => rfl)
    (case sx_InLine_NoDirection => k_is)
    (case nx_InLine_NoDirection => rfl)
    (case sx_InLine_BadPath => k_is)
    (case nx_InLine_BadPath => rfl)
    (case sx_InLine_TooLarge => k_is)
    (case nx_InLine_TooLarge => rfl)
    (case sx_InLine_BadOrder => k_is)
    (case nx_InLine_BadOrder => rfl)
    (case sx_InLine_Unbounded => k_is)
    (case nx_InLine_Unbounded => rfl)
    (case sx_InLine_NoParting => k_is)
    (case nx_InLine_NoParting => rfl)
    (case sx_InLine_NothingToUndo => k_is)
    (case nx_InLine_NothingToUndo => rfl)
    (case sx_InLine_SpaceError => k_is)
    (case nx_InLine_SpaceError => rfl)
    (case xg_Flat => k_is)
    (case xk_Flat => k_is)
    (case fb_Flat => k_is)
    (case xa_Flat => k_is)
    (case xm_Flat => k_is)
    (case vx_Flat => k_is)
    (case sx_Flat_TextFault => k_is)
    (case nx_Flat_TextFault => rfl)
    (case sx_Flat_RunFault => k_is)
    (case nx_Flat_RunFault => rfl)
    (case sx_Flat_BadRow => k_is)
    (case nx_Flat_BadRow => rfl)
    (case sx_Flat_ZeroDenominator => k_is)
    (case nx_Flat_ZeroDenominator => rfl)
    (case sx_Flat_NoNormal => k_is)
    (case nx_Flat_NoNormal => rfl)
    (case sx_Flat_InLine => k_is)
    (case nx_Flat_InLine => rfl)
    (case sx_Flat_BadPolygon => k_is)
    (case nx_Flat_BadPolygon => rfl)
    (case sx_Flat_Singular => k_is)
    (case nx_Flat_Singular => rfl)
    (case sx_Flat_NoDirection => k_is)
    (case nx_Flat_NoDirection => rfl)
    (case sx_Flat_BadPath => k_is)
    (case nx_Flat_BadPath => rfl)
    (case sx_Flat_TooLarge => k_is)
    (case nx_Flat_TooLarge => rfl)
    (case sx_Flat_BadOrder => k_is)
    (case nx_Flat_BadOrder => rfl)
    (case sx_Flat_Unbounded => k_is)
    (case nx_Flat_Unbounded => rfl)
    (case sx_Flat_NoParting => k_is)
    (case nx_Flat_NoParting => rfl)
    (case sx_Flat_NothingToUndo => k_is)
    (case nx_Flat_NothingToUndo => rfl)
    (case sx_Flat_SpaceError => k_is)
    (case nx_Flat_SpaceError => rfl)
    (case xg_BadPolygon => k_is)
    (case xk_BadPolygon => k_is)
    (case fb_BadPolygon => k_is)
    (case xa_BadPolygon => k_is)
    (case xm_BadPolygon => k_is)
    (case vx_BadPolygon => k_is)
    (case sx_BadPolygon_TextFault => k_is)
    (case nx_BadPolygon_TextFault => rfl)
    (case sx_BadPolygon_RunFault => k_is)
    (case nx_BadPolygon_RunFault => rfl)
    (case sx_BadPolygon_BadRow => k_is)
    (case nx_BadPolygon_BadRow => rfl)
    (case sx_BadPolygon_ZeroDenominator => k_is)
    (case nx_BadPolygon_ZeroDenominator => rfl)
    (case sx_BadPolygon_NoNormal => k_is)
    (case nx_BadPolygon_NoNormal => rfl)
    (case sx_BadPolygon_InLine => k_is)
    (case nx_BadPolygon_InLine => rfl)
    (case sx_BadPolygon_Flat => k_is)
    (case nx_BadPolygon_Flat => rfl)
    (case sx_BadPolygon_Singular => k_is)
    (case nx_BadPolygon_Singular => rfl)
    (case sx_BadPolygon_NoDirection => k_is)
    (case nx_BadPolygon_NoDirection => rfl)
    (case sx_BadPolygon_BadPath => k_is)
    (case nx_BadPolygon_BadPath => rfl)
    (case sx_BadPolygon_TooLarge => k_is)
    (case nx_BadPolygon_TooLarge => rfl)
    (case sx_BadPolygon_BadOrder => k_is)
    (case nx_BadPolygon_BadOrder => rfl)
    (case sx_BadPolygon_Unbounded => k_is)
    (case nx_BadPolygon_Unbounded => rfl)
    (case sx_BadPolygon_NoParting => k_is)
    (case nx_BadPolygon_NoParting => rfl)
    (case sx_BadPolygon_NothingToUndo => k_is)
    (case nx_BadPolygon_NothingToUndo => rfl)
    (case sx_BadPolygon_SpaceError => k_is)
    (case nx_BadPolygon_SpaceError => rfl)
    (case xg_Singular => k_is)
    (case xk_Singular => k_is)
    (case fb_Singular => k_is)
    (case xa_Singular => k_is)
    (case xm_Singular => k_is)
    (case vx_Singular => k_is)
    (case sx_Singular_TextFault => k_is)
    (case nx_Singular_TextFault => rfl)
    (case sx_Singular_RunFault => k_is)
    (case nx_Singular_RunFault => rfl)
    (case sx_Singular_BadRow => k_is)
    (case nx_Singular_BadRow => rfl)
    (case sx_Singular_ZeroDenominator => k_is)
    (case nx_Singular_ZeroDenominator => rfl)
    (case sx_Singular_NoNormal => k_is)
    (case nx_Singular_NoNormal => rfl)
    (case sx_Singular_InLine => k_is)
    (case nx_Singular_InLine => rfl)
    (case sx_Singular_Flat => k_is)
    (case nx_Singular_Flat => rfl)
    (case sx_Singular_BadPolygon => k_is)
    (case nx_Singular_BadPolygon => rfl)
    (case sx_Singular_NoDirection => k_is)
    (case nx_Singular_NoDirection => rfl)
    (case sx_Singular_BadPath => k_is)
    (case nx_Singular_BadPath => rfl)
    (case sx_Singular_TooLarge => k_is)
    (case nx_Singular_TooLarge => rfl)
    (case sx_Singular_BadOrder => k_is)
    (case nx_Singular_BadOrder => rfl)
    (case sx_Singular_Unbounded => k_is)
    (case nx_Singular_Unbounded => rfl)
    (case sx_Singular_NoParting => k_is)
    (case nx_Singular_NoParting => rfl)
    (case sx_Singular_NothingToUndo => k_is)
    (case nx_Singular_NothingToUndo => rfl)
    (case sx_Singular_SpaceError => k_is)
    (case nx_Singular_SpaceError => rfl)
    (case xg_NoDirection => k_is)
    (case xk_NoDirection => k_is)
    (case fb_NoDirection => k_is)
    (case xa_NoDirection => k_is)
    (case xm_NoDirection => k_is)
    (case vx_NoDirection => k_is)
    (case sx_NoDirection_TextFault => k_is)
    (case nx_NoDirection_TextFault => rfl)
    (case sx_NoDirection_RunFault => k_is)
    (case nx_NoDirection_RunFault => rfl)
    (case sx_NoDirection_BadRow => k_is)
    (case nx_NoDirection_BadRow => rfl)
    (case sx_NoDirection_ZeroDenominator => k_is)
    (case nx_NoDirection_ZeroDenominator => rfl)
    (case sx_NoDirection_NoNormal => k_is)
    (case nx_NoDirection_NoNormal => rfl)
    (case sx_NoDirection_InLine => k_is)
    (case nx_NoDirection_InLine => rfl)
    (case sx_NoDirection_Flat => k_is)
    (case nx_NoDirection_Flat => rfl)
    (case sx_NoDirection_BadPolygon => k_is)
    (case nx_NoDirection_BadPolygon => rfl)
    (case sx_NoDirection_Singular => k_is)
    (case nx_NoDirection_Singular => rfl)
    (case sx_NoDirection_BadPath => k_is)
    (case nx_NoDirection_BadPath => rfl)
    (case sx_NoDirection_TooLarge => k_is)
    (case nx_NoDirection_TooLarge => rfl)
    (case sx_NoDirection_BadOrder => k_is)
    (case nx_NoDirection_BadOrder => rfl)
    (case sx_NoDirection_Unbounded => k_is)
    (case nx_NoDirection_Unbounded => rfl)
    (case sx_NoDirection_NoParting => k_is)
    (case nx_NoDirection_NoParting => rfl)
    (case sx_NoDirection_NothingToUndo => k_is)
    (case nx_NoDirection_NothingToUndo => rfl)
    (case sx_NoDirection_SpaceError => k_is)
    (case nx_NoDirection_SpaceError => rfl)
    (case xg_BadPath => k_is)
    (case xk_BadPath => k_is)
    (case fb_BadPath => k_is)
    (case xa_BadPath => k_is)
    (case xm_BadPath => k_is)
    (case vx_BadPath => k_is)
    (case sx_BadPath_TextFault => k_is)
    (case nx_BadPath_TextFault => rfl)
    (case sx_BadPath_RunFault => k_is)
    (case nx_BadPath_RunFault => rfl)
    (case sx_BadPath_BadRow => k_is)
    (case nx_BadPath_BadRow => rfl)
    (case sx_BadPath_ZeroDenominator => k_is)
    (case nx_BadPath_ZeroDenominator => rfl)
    (case sx_BadPath_NoNormal => k_is)
    (case nx_BadPath_NoNormal => rfl)
    (case sx_BadPath_InLine => k_is)
    (case nx_BadPath_InLine => rfl)
    (case sx_BadPath_Flat => k_is)
    (case nx_BadPath_Flat => rfl)
    (case sx_BadPath_BadPolygon => k_is)
    (case nx_BadPath_BadPolygon => rfl)
    (case sx_BadPath_Singular => k_is)
    (case nx_BadPath_Singular => rfl)
    (case sx_BadPath_NoDirection => k_is)
    (case nx_BadPath_NoDirection => rfl)
    (case sx_BadPath_TooLarge => k_is)
    (case nx_BadPath_TooLarge => rfl)
    (case sx_BadPath_BadOrder => k_is)
    (case nx_BadPath_BadOrder => rfl)
    (case sx_BadPath_Unbounded => k_is)
    (case nx_BadPath_Unbounded => rfl)
    (case sx_BadPath_NoParting => k_is)
    (case nx_BadPath_NoParting => rfl)
    (case sx_BadPath_NothingToUndo => k_is)
    (case nx_BadPath_NothingToUndo => rfl)
    (case sx_BadPath_SpaceError => k_is)
    (case nx_BadPath_SpaceError => rfl)
    (case xg_TooLarge => k_is)
    (case xk_TooLarge => k_is)
    (case fb_TooLarge => k_is)
    (case xa_TooLarge => k_is)
    (case xm_TooLarge => k_is)
    (case vx_TooLarge => k_is)
    (case sx_TooLarge_TextFault => k_is)
    (case nx_TooLarge_TextFault => rfl)
    (case sx_TooLarge_RunFault => k_is)
    (case nx_TooLarge_RunFault => rfl)
    (case sx_TooLarge_BadRow => k_is)
    (case nx_TooLarge_BadRow => rfl)
    (case sx_TooLarge_ZeroDenominator => k_is)
    (case nx_TooLarge_ZeroDenominator => rfl)
    (case sx_TooLarge_NoNormal => k_is)
    (case nx_TooLarge_NoNormal => rfl)
    (case sx_TooLarge_InLine => k_is)
    (case nx_TooLarge_InLine => rfl)
    (case sx_TooLarge_Flat => k_is)
    (case nx_TooLarge_Flat => rfl)
    (case sx_TooLarge_BadPolygon => k_is)
    (case nx_TooLarge_BadPolygon => rfl)
    (case sx_TooLarge_Singular => k_is)
    (case nx_TooLarge_Singular => rfl)
    (case sx_TooLarge_NoDirection => k_is)
    (case nx_TooLarge_NoDirection => rfl)
    (case sx_TooLarge_BadPath => k_is)
    (case nx_TooLarge_BadPath => rfl)
    (case sx_TooLarge_BadOrder => k_is)
    (case nx_TooLarge_BadOrder => rfl)
    (case sx_TooLarge_Unbounded => k_is)
    (case nx_TooLarge_Unbounded => rfl)
    (case sx_TooLarge_NoParting => k_is)
    (case nx_TooLarge_NoParting => rfl)
    (case sx_TooLarge_NothingToUndo => k_is)
    (case nx_TooLarge_NothingToUndo => rfl)
    (case sx_TooLarge_SpaceError => k_is)
    (case nx_TooLarge_SpaceError => rfl)
    (case xg_BadOrder => k_is)
    (case xk_BadOrder => k_is)
    (case fb_BadOrder => k_is)
    (case xa_BadOrder => k_is)
    (case xm_BadOrder => k_is)
    (case vx_BadOrder => k_is)
    (case sx_BadOrder_TextFault => k_is)
    (case nx_BadOrder_TextFault => rfl)
    (case sx_BadOrder_RunFault => k_is)
    (case nx_BadOrder_RunFault => rfl)
    (case sx_BadOrder_BadRow => k_is)
    (case nx_BadOrder_BadRow => rfl)
    (case sx_BadOrder_ZeroDenominator => k_is)
    (case nx_BadOrder_ZeroDenominator => rfl)
    (case sx_BadOrder_NoNormal => k_is)
    (case nx_BadOrder_NoNormal => rfl)
    (case sx_BadOrder_InLine => k_is)
    (case nx_BadOrder_InLine => rfl)
    (case sx_BadOrder_Flat => k_is)
    (case nx_BadOrder_Flat => rfl)
    (case sx_BadOrder_BadPolygon => k_is)
    (case nx_BadOrder_BadPolygon => rfl)
    (case sx_BadOrder_Singular => k_is)
    (case nx_BadOrder_Singular => rfl)
    (case sx_BadOrder_NoDirection => k_is)
    (case nx_BadOrder_NoDirection => rfl)
    (case sx_BadOrder_BadPath => k_is)
    (case nx_BadOrder_BadPath => rfl)
    (case sx_BadOrder_TooLarge => k_is)
    (case nx_BadOrder_TooLarge => rfl)
    (case sx_BadOrder_Unbounded => k_is)
    (case nx_BadOrder_Unbounded => rfl)
    (case sx_BadOrder_NoParting => k_is)
    (case nx_BadOrder_NoParting => rfl)
    (case sx_BadOrder_NothingToUndo => k_is)
    (case nx_BadOrder_NothingToUndo => rfl)
    (case sx_BadOrder_SpaceError => k_is)
    (case nx_BadOrder_SpaceError => rfl)
    (case xg_Unbounded => k_is)
    (case xk_Unbounded => k_is)
    (case fb_Unbounded => k_is)
    (case xa_Unbounded => k_is)
    (case xm_Unbounded => k_is)
    (case vx_Unbounded => k_is)
    (case sx_Unbounded_TextFault => k_is)
    (case nx_Unbounded_TextFault => rfl)
    (case sx_Unbounded_RunFault => k_is)
    (case nx_Unbounded_RunFault => rfl)
    (case sx_Unbounded_BadRow => k_is)
    (case nx_Unbounded_BadRow => rfl)
    (case sx_Unbounded_ZeroDenominator => k_is)
    (case nx_Unbounded_ZeroDenominator => rfl)
    (case sx_Unbounded_NoNormal => k_is)
    (case nx_Unbounded_NoNormal => rfl)
    (case sx_Unbounded_InLine => k_is)
    (case nx_Unbounded_InLine => rfl)
    (case sx_Unbounded_Flat => k_is)
    (case nx_Unbounded_Flat => rfl)
    (case sx_Unbounded_BadPolygon => k_is)
    (case nx_Unbounded_BadPolygon => rfl)
    (case sx_Unbounded_Singular => k_is)
    (case nx_Unbounded_Singular => rfl)
    (case sx_Unbounded_NoDirection => k_is)
    (case nx_Unbounded_NoDirection => rfl)
    (case sx_Unbounded_BadPath => k_is)
    (case nx_Unbounded_BadPath => rfl)
    (case sx_Unbounded_TooLarge => k_is)
    (case nx_Unbounded_TooLarge => rfl)
    (case sx_Unbounded_BadOrder => k_is)
    (case nx_Unbounded_BadOrder => rfl)
    (case sx_Unbounded_NoParting => k_is)
    (case nx_Unbounded_NoParting => rfl)
    (case sx_Unbounded_NothingToUndo => k_is)
    (case nx_Unbounded_NothingToUndo => rfl)
    (case sx_Unbounded_SpaceError => k_is)
    (case nx_Unbounded_SpaceError => rfl)
    (case xg_NoParting => k_is)
    (case xk_NoParting => k_is)
    (case fb_NoParting => k_is)
    (case xa_NoParting => k_is)
    (case xm_NoParting => k_is)
    (case vx_NoParting => k_is)
    (case sx_NoParting_TextFault => k_is)
    (case nx_NoParting_TextFault => rfl)
    (case sx_NoParting_RunFault => k_is)
    (case nx_NoParting_RunFault => rfl)
    (case sx_NoParting_BadRow => k_is)
    (case nx_NoParting_BadRow => rfl)
    (case sx_NoParting_ZeroDenominator => k_is)
    (case nx_NoParting_ZeroDenominator => rfl)
    (case sx_NoParting_NoNormal => k_is)
    (case nx_NoParting_NoNormal => rfl)
    (case sx_NoParting_InLine => k_is)
    (case nx_NoParting_InLine => rfl)
    (case sx_NoParting_Flat => k_is)
    (case nx_NoParting_Flat => rfl)
    (case sx_NoParting_BadPolygon => k_is)
    (case nx_NoParting_BadPolygon => rfl)
    (case sx_NoParting_Singular => k_is)
    (case nx_NoParting_Singular => rfl)
    (case sx_NoParting_NoDirection => k_is)
    (case nx_NoParting_NoDirection => rfl)
    (case sx_NoParting_BadPath => k_is)
    (case nx_NoParting_BadPath => rfl)
    (case sx_NoParting_TooLarge => k_is)
    (case nx_NoParting_TooLarge => rfl)
    (case sx_NoParting_BadOrder => k_is)
    (case nx_NoParting_BadOrder => rfl)
    (case sx_NoParting_Unbounded => k_is)
    (case nx_NoParting_Unbounded => rfl)
    (case sx_NoParting_NothingToUndo => k_is)
    (case nx_NoParting_NothingToUndo => rfl)
    (case sx_NoParting_SpaceError => k_is)
    (case nx_NoParting_SpaceError => rfl)
    (case xg_NothingToUndo => k_is)
    (case xk_NothingToUndo => k_is)
    (case fb_NothingToUndo => k_is)
    (case xa_NothingToUndo => k_is)
    (case xm_NothingToUndo => k_is)
    (case vx_NothingToUndo => k_is)
    (case sx_NothingToUndo_TextFault => k_is)
    (case nx_NothingToUndo_TextFault => rfl)
    (case sx_NothingToUndo_RunFault => k_is)
    (case nx_NothingToUndo_RunFault => rfl)
    (case sx_NothingToUndo_BadRow => k_is)
    (case nx_NothingToUndo_BadRow => rfl)
    (case sx_NothingToUndo_ZeroDenominator => k_is)
    (case nx_NothingToUndo_ZeroDenominator => rfl)
    (case sx_NothingToUndo_NoNormal => k_is)
    (case nx_NothingToUndo_NoNormal => rfl)
    (case sx_NothingToUndo_InLine => k_is)
    (case nx_NothingToUndo_InLine => rfl)
    (case sx_NothingToUndo_Flat => k_is)
    (case nx_NothingToUndo_Flat => rfl)
    (case sx_NothingToUndo_BadPolygon => k_is)
    (case nx_NothingToUndo_BadPolygon => rfl)
    (case sx_NothingToUndo_Singular => k_is)
    (case nx_NothingToUndo_Singular => rfl)
    (case sx_NothingToUndo_NoDirection => k_is)
    (case nx_NothingToUndo_NoDirection => rfl)
    (case sx_NothingToUndo_BadPath => k_is)
    (case nx_NothingToUndo_BadPath => rfl)
    (case sx_NothingToUndo_TooLarge => k_is)
    (case nx_NothingToUndo_TooLarge => rfl)
    (case sx_NothingToUndo_BadOrder => k_is)
    (case nx_NothingToUndo_BadOrder => rfl)
    (case sx_NothingToUndo_Unbounded => k_is)
    (case nx_NothingToUndo_Unbounded => rfl)
    (case sx_NothingToUndo_NoParting => k_is)
    (case nx_NothingToUndo_NoParting => rfl)
    (case sx_NothingToUndo_SpaceError => k_is)
    (case nx_NothingToUndo_SpaceError => rfl)
    (case xg_SpaceError => k_is)
    (case xk_SpaceError => k_is)
    (case xa_SpaceError => k_is)
    (case xm_SpaceError => k_is)
    (case vx_SpaceError => k_is)
    (case sx_SpaceError_TextFault => k_is)
    (case nx_SpaceError_TextFault => rfl)
    (case sx_SpaceError_RunFault => k_is)
    (case nx_SpaceError_RunFault => rfl)
    (case sx_SpaceError_BadRow => k_is)
    (case nx_SpaceError_BadRow => rfl)
    (case sx_SpaceError_ZeroDenominator => k_is)
    (case nx_SpaceError_ZeroDenominator => rfl)
    (case sx_SpaceError_NoNormal => k_is)
    (case nx_SpaceError_NoNormal => rfl)
    (case sx_SpaceError_InLine => k_is)
    (case nx_SpaceError_InLine => rfl)
    (case sx_SpaceError_Flat => k_is)
    (case nx_SpaceError_Flat => rfl)
    (case sx_SpaceError_BadPolygon => k_is)
    (case nx_SpaceError_BadPolygon => rfl)
    (case sx_SpaceError_Singular => k_is)
    (case nx_SpaceError_Singular => rfl)
    (case sx_SpaceError_NoDirection => k_is)
    (case nx_SpaceError_NoDirection => rfl)
    (case sx_SpaceError_BadPath => k_is)
    (case nx_SpaceError_BadPath => rfl)
    (case sx_SpaceError_TooLarge => k_is)
    (case nx_SpaceError_TooLarge => rfl)
    (case sx_SpaceError_BadOrder => k_is)
    (case nx_SpaceError_BadOrder => rfl)
    (case sx_SpaceError_Unbounded => k_is)
    (case nx_SpaceError_Unbounded => rfl)
    (case sx_SpaceError_NoParting => k_is)
    (case nx_SpaceError_NoParting => rfl)
    (case sx_SpaceError_NothingToUndo => k_is)
    (case nx_SpaceError_NothingToUndo => rfl)
    (case z_ValueError => k_is)
    (case ol_TextFault => k_is)
    (case ob_TextFault => first | rfl | decide +kernel)
    (case os_TextFault => k_is)
    (case ok_TextFault => k_is)
    (case on_TextFault_line => k_is)
    (case on_TextFault_place => k_is)
    (case oi_TextFault => k_is)
    (case ot_TextFault => k_is)
    (case ow_TextFault => k_is)
    (case oc_TextFault => k_is)
    (case ol_RunFault => k_is)
    (case ob_RunFault => first | rfl | decide +kernel)
    (case os_RunFault => k_is)
    (case ok_RunFault => k_is)
    (case on_RunFault_line => k_is)
    (case on_RunFault_place => k_is)
    (case on_RunFault_why => k_is)
    (case oi_RunFault => k_is)
    (case ot_RunFault => k_is)
    (case ow_RunFault => k_is)
    (case oc_RunFault => k_is)
    (case ol_BadRow => k_is)
    (case ob_BadRow => first | rfl | decide +kernel)
    (case os_BadRow => k_is)
    (case ok_BadRow => k_is)
    (case on_BadRow_number => k_is)
    (case oi_BadRow => k_is)
    (case ot_BadRow => k_is)
    (case ow_BadRow => k_is)
    (case oc_BadRow => k_is)
    (case ol_TooLarge => k_is)
    (case ob_TooLarge => first | rfl | decide +kernel)
    (case os_TooLarge => k_is)
    (case ok_TooLarge => k_is)
    (case on_TooLarge_what => k_is)
    (case oi_TooLarge => k_is)
    (case ot_TooLarge => k_is)
    (case ow_TooLarge => k_is)
    (case oc_TooLarge => k_is)
    (case ol_NoParting => k_is)
    (case ob_NoParting => first | rfl | decide +kernel)
    (case os_NoParting => k_is)
    (case ok_NoParting => k_is)
    (case on_NoParting_why => k_is)
    (case oi_NoParting => k_is)
    (case ot_NoParting => k_is)
    (case ow_NoParting => k_is)
    (case oc_NoParting => k_is)
