import PyProof.Rows.All
import Wide.All
import OpenK.AllK
import Wide.FinOn
import HandS.Base
import HandS.Call
import HandS.List
import HandS.Comp
import HandS.Ends
import HandS.Words
import HandS.WordsList
import HandS.Wide
import HandS.Zip
import HandS.Iter
import HandS.Gcd
import HandS.IsInst
import HandS.Evl
import HandS.TryOnly
import HandS.Defaults
import KE.KRevSl
import KE.GoesZip
import KE.GoesMore
import HandS.TupAny
import HandS.Flow
import HandS.More
import HandS.ExcIs
import HandS.HotCalls
import HandS.ExcCtx
import HandS.Text
import HandS.Deep
import HandS.Star
import HandS.Lambda
import PyProof.ReprRoads
import KE.KeyNested
import KE.KDictKeyed
import HandS.Nested
import HandS.EndTab
import HandS.SortKw
import KE.SortKeyHeap
import KE.DataMinMax
import HandS.Walk
import HandS.WideBits
import PySem.Challenge.RW_everypoint_k06_points_in_order
set_option Elab.async false
set_option maxRecDepth 100000
namespace My
open PySem L2

/-! bits -/
structure B (k : Nat) (i : Int) : Prop where
  lt : i.natAbs < 2 ^ k
theorem B.le {a b : Nat} {x : Int} (h : B a x) (ab : a ≤ b) : B b x := ⟨Nat.lt_of_lt_of_le h.lt (Nat.pow_le_pow_right (by decide) ab)⟩
theorem B.add {a b : Nat} {x y : Int} (ha : B a x) (hb : B b y) : B (max a b + 1) (x + y) := by
  have h1 : B (max a b) x := ha.le (Nat.le_max_left _ _)
  have h2 : B (max a b) y := hb.le (Nat.le_max_right _ _)
  have h3 := h1.lt
  have h4 := h2.lt
  refine ⟨?_⟩
  rw [Nat.pow_succ]
  omega
theorem B.neg {a : Nat} {x : Int} (ha : B a x) : B a (-x) := ⟨by
  have := ha.lt
  omega⟩
theorem B.sub {a b : Nat} {x y : Int} (ha : B a x) (hb : B b y) : B (max a b + 1) (x - y) := by
  have := B.add ha hb.neg
  rw [Int.sub_eq_add_neg]
  exact this
theorem B.mul {a b : Nat} {x y : Int} (ha : B a x) (hb : B b y) : B (a + b) (x * y) := ⟨wide_lt ha.lt hb.lt⟩
theorem B.lit {x : Int} {k : Nat} (h : decide (x.natAbs < 2 ^ k) = true) : B k x := ⟨of_decide_eq_true (p := x.natAbs < 2 ^ k) h⟩
theorem B.of_le {k : Nat} {x y : Int} (h : x.natAbs ≤ y.natAbs) (hb : B k y) : B k x := ⟨Nat.lt_of_le_of_lt h hb.lt⟩
theorem B.rng {k : Nat} {x : Int} (lo : -(2 ^ k) < x) (hi : x < 2 ^ k) : B k x := ⟨by
  have e : ((2 ^ k : Nat) : Int) = 2 ^ k := by simp
  omega⟩
theorem B.cmul {a b : Nat} {x y : Int} (ha : B a x) (hb : B b y) (h : a + b + 2 ≤ 1000000) : CMulW x y :=
  wide_mul (a := a + 1) (b := b + 1) (ha.le (Nat.le_succ a)).lt (hb.le (Nat.le_succ b)).lt (Nat.succ_pos _) (Nat.succ_pos _) (by omega)
/-- // by a divisor of any sign -/
def CDivZ (_ j : Int) : Prop := j ≠ 0 ∧ j.natAbs.log2 < 9000
theorem op_fdivZ {X : Cx} : OpR X (binaryOp .FloorDiv) (rI CDivZ fun i j => .int (i.fdiv j)) := opI fun _ _ _ _ _ _ _ hc q =>
  PyProof.Rows.floordiv_int hc.1 q (.inl (PyProof.noPylong_of_log2 hc.2))
theorem B.cdiv {b : Nat} {x y : Int} (h0 : y ≠ 0) (hb : B b y) (h : b + 1 ≤ 9000) : CDivZ x y :=
  ⟨h0, PySem.Flt.log2_lt_of (k := b + 1) (Nat.succ_pos _) (hb.le (Nat.le_succ b)).lt |> fun q => Nat.lt_of_lt_of_le q h⟩

/-! heaps -/
theorem Same.rd {H H' : Hp} {a : Addr} {u : HO} (e : Same H H') (h : Rd H a u) : Rd H' a u := by
  rcases h with h | ⟨o, h⟩
  · exact .inl (e a _ h)
  · exact .inr ⟨o, e a _ h⟩
theorem Same.tup {K : PySem.W.Frag} {H H' : Hp} {a : Addr} {xs : List V} (e : Same H H') (h : SqT K H a xs) : SqT K H' a xs := by
  rcases h with h | h
  · exact .inl (Same.rd e h)
  · exact .inr h
theorem Same.new {H : Hp} {p : Addr} {o : HO} (h : H p = none) : Same H (upd H p o) := fun a u e => by
  rw [upd_ne (ne_of_none e h)]
  exact e
theorem Same.mut {H H' : Hp} {p : Addr} {o : HO} (e : Same H H') (h : H p = none) : Same H (upd H' p o) := fun a u ha => by
  rw [upd_ne (ne_of_none ha h)]
  exact e a u ha
/-- all but what stands at s is as it was; the list at s begins as it began -/
structure Fr (s : Addr) (H H' : Hp) : Prop where
  keep : ∀ b o, b ≠ s → H b = some o → H' b = some o
  hd : ∀ xs, H s = some (.lst xs) → ∃ ys, H' s = some (.lst ys) ∧ ys.head? = xs.head?
theorem Fr.refl (s : Addr) (H : Hp) : Fr s H H := ⟨fun _ _ _ h => h, fun xs h => ⟨xs, h, rfl⟩⟩
theorem Fr.trans {s : Addr} {H H1 H2 : Hp} (a : Fr s H H1) (b : Fr s H1 H2) : Fr s H H2 := ⟨fun c o n h => b.keep c o n (a.keep c o n h), fun xs h => by
  obtain ⟨ys, h1, e1⟩ := a.hd xs h
  obtain ⟨zs, h2, e2⟩ := b.hd ys h1
  exact ⟨zs, h2, e2.trans e1⟩⟩
theorem Same.fr {s : Addr} {H H' : Hp} (e : Same H H') : Fr s H H' := ⟨fun b o _ h => e b o h, fun xs h => ⟨xs, e _ _ h, rfl⟩⟩
theorem Fr.upd {s : Addr} {H : Hp} {xs ys : List V} (h : H s = some (.lst xs)) (e : ys.head? = xs.head?) : Fr s H (upd H s (.lst ys)) := ⟨fun b u n h => by
  rw [upd_ne n]
  exact h, fun zs hz => by
  rw [h] at hz
  cases hz
  exact ⟨ys, upd_same, e⟩⟩
theorem Fr.mut {s : Addr} {H H' : Hp} {p : Addr} {o : HO} (e : Fr s H H') (h : H p = none) (hs : H s ≠ none) : Fr s H (L2.upd H' p o) := ⟨fun b u n hb => by
  rw [upd_ne (ne_of_none hb h)]
  exact e.keep b u n hb, fun xs hx => by
  rw [upd_ne (ne_of_none hx h)]
  exact e.hd xs hx⟩
theorem Fr.new {s : Addr} {H : Hp} {p : Addr} {o : HO} (h : H p = none) : Fr s H (L2.upd H p o) := Same.fr (Same.new h)
/-- the store of a law's draws -/
structure StD (K : PySem.W.Frag) (H : Hp) (s l : Addr) (ns : List Int) (i1 i2 i3 i4 i5 i6 : Int) : Prop where
  at_ : H s = some (.lst [.ref l, .int i1, .int i2, .int i3, .int i4, .int i5, .int i6])
  ne : l ≠ s
  lst : H l = some (.lst (ns.map V.int))
  nn : 0 ≤ i1
def St (K : PySem.W.Frag) (H : Hp) (s : Addr) : Prop := ∃ l ns i1 i2 i3 i4 i5 i6, StD K H s l ns i1 i2 i3 i4 i5 i6
theorem St.same {K : PySem.W.Frag} {H H' : Hp} {s : Addr} (e : Same H H') (h : St K H s) : St K H' s := by
  obtain ⟨l, ns, i1, i2, i3, i4, i5, i6, h⟩ := h
  exact ⟨l, ns, i1, i2, i3, i4, i5, i6, e _ _ h.at_, h.ne, e _ _ h.lst, h.nn⟩
theorem Fr.tup {K : PySem.W.Frag} {H H' : Hp} {s a : Addr} {xs : List V} (e : Fr s H H') (st : St K H s) (h : SqT K H a xs) : SqT K H' a xs := by
  obtain ⟨l, ns, i1, i2, i3, i4, i5, i6, st⟩ := st
  rcases h with (h | ⟨o, h⟩) | h
  · refine .inl (.inl (e.keep _ _ (fun q => ?_) h))
    rw [q, st.at_] at h
    cases h
  · refine .inl (.inr ⟨o, e.keep _ _ (fun q => ?_) h⟩)
    rw [q, st.at_] at h
    cases h
  · exact .inr h

theorem St.some {K : PySem.W.Frag} {H : Hp} {s : Addr} (h : St K H s) : H s ≠ none := by
  obtain ⟨l, ns, i1, i2, i3, i4, i5, i6, h⟩ := h
  rw [h.at_]
  intro q
  cases q
set_option Elab.async true in
/-- an object that was not there at the beginning may change -/
theorem St.mut {K : PySem.W.Frag} {H H1 : Hp} {s p : Addr} {o : HO} (h : St K H s) (e : Fr s H H1) (h1 : St K H1 s) (hp : H p = none) : St K (upd H1 p o) s := by
  obtain ⟨l, ns, i1, i2, i3, i4, i5, i6, h⟩ := h
  obtain ⟨l', ns', j1, j2, j3, j4, j5, j6, h1⟩ := h1
  obtain ⟨ys, hy, e2⟩ := e.hd _ h.at_
  rw [h1.at_] at hy
  cases hy
  have el : l' = l := by simpa using e2
  subst el
  exact ⟨l', ns', j1, j2, j3, j4, j5, j6, (upd_ne (ne_of_none h.at_ hp)).trans h1.at_, h1.ne, (upd_ne (ne_of_none h.lst hp)).trans h1.lst, h1.nn⟩
in #guard_msgs in universe u_z
/-! rules in short -/
section
variable {X : Cx}
structure Cal (P : Program) (w : World) (K : PySem.W.Frag) (mg : Str → Option Value) (base : Heap) (x : Str) (k : Nat) (ps : List Str) (sp : Sp) : Prop where
  ex : ∃ (f : Addr) (fd : FuncData), FnOk P w K mg base CX0 k f fd ps sp ∧ mg x = some (.ref f) ∧ PySem.W.keepIn K (.ref f) = true ∧ Binds K fd ps []
variable {x : Str} {p pos : Pos} {e : Expr} {es : List Expr} {t : TA} {k : Nat} {ps : List Str} {sp : Sp}
theorem pc (C : Cal X.prog X.w X.K X.mg X.base x k ps sp) (hr : Room k X.A) (hg : Gl X x) (ha : PA X (e :: es) t) (hdb : (x == ("__debug__" : Str)) = false := by decide)
    (he : starEach (e :: es) X.env = (false, eval e X.env) :: starEach es X.env := by rfl) (hpl : (backTo pos (starEach es X.env)).any (·.1) = false := by rfl) :
    PE X (.Call (.Name x p) (e :: es) [] pos) (tCall sp [] E0 t) := by
  obtain ⟨f, fd, F, hm, hk, hb⟩ := C.ex
  exact pe_call F hr hg hm hk hb .nil pass0 ha hdb he hpl
theorem pc0 (C : Cal X.prog X.w X.K X.mg X.base x k ps sp) (hr : Room k X.A) (hg : Gl X x) (hdb : (x == ("__debug__" : Str)) = false := by decide) :
    PE X (.Call (.Name x p) [] [] pos) (tCall sp [] E0 tNil) := by
  obtain ⟨f, fd, F, hm, hk, hb⟩ := C.ex
  exact pe_call0 F hr hg hm hk hb .nil pass0 hdb
end
/-- a new tuple -/
theorem mk_tup {K : PySem.W.Frag} {H : Hp} {xs : List V} {Q : VK} (hl : xs.length ≤ 100000) (h : ∀ (p : Addr) (H1 : Hp), H p = none → Same H H1 → SqT K H1 p xs → Q (.ref p) H1) :
    xs.length ≤ sizeLine ∧ ∀ p, H p = none → Q (.ref p) (upd H p (.tup xs)) :=
  ⟨Nat.le_trans hl (by decide), fun p np => h p _ np (Same.new np) (SqT.of upd_same)⟩
theorem mk_lst {H : Hp} {xs : List V} {Q : VK} (hl : xs.length ≤ 100000) (h : ∀ (p : Addr) (H1 : Hp), H p = none → Same H H1 → H1 p = some (.lst xs) → Q (.ref p) H1) :
    xs.length ≤ sizeLine ∧ ∀ p, H p = none → Q (.ref p) (upd H p (.lst xs)) :=
  ⟨Nat.le_trans hl (by decide), fun p np => h p _ np (Same.new np) upd_same⟩
structure Blt (mg : Str → Option Value) : Prop where
  len : mg "len" = none
  int : mg "int" = none
  abs : mg "abs" = none
  max : mg "max" = none
  min : mg "min" = none
  range : mg "range" = none
  isinstance : mg "isinstance" = none
  list : mg "list" = none
  tuple : mg "tuple" = none
  bool : mg "bool" = none
  str : mg "str" = none
  zip : mg "zip" = none
  enumerate : mg "enumerate" = none
  sum : mg "sum" = none
  gcd : mg "gcd" = some (.builtin "math.gcd")
theorem if_eqI {a b : Int} {A B : Prop} (h1 : a = b → A) (h2 : a ≠ b → B) : if decide (V.int a = V.int b) = true then A else B := by
  by_cases h : a = b
  · rw [if_pos (decide_eq_true (congrArg V.int h))]; exact h1 h
  · rw [if_neg (fun q => h (V.int.inj (of_decide_eq_true q)))]; exact h2 h
theorem if_neI {a b : Int} {A B : Prop} (h1 : a ≠ b → A) (h2 : a = b → B) : if (!decide (V.int a = V.int b)) = true then A else B := by
  by_cases h : a = b
  · rw [if_neg (by rw [decide_eq_true (congrArg V.int h)]; decide)]; exact h2 h
  · rw [if_pos (by rw [decide_eq_false (fun q => h (V.int.inj q))]; rfl)]; exact h1 h
theorem if_dec {p : Prop} [Decidable p] {A B : Prop} (h1 : p → A) (h2 : ¬ p → B) : if decide p = true then A else B := by
  by_cases h : p
  · rw [if_pos (decide_eq_true h)]; exact h1 h
  · rw [if_neg (by rw [decide_eq_false h]; decide)]; exact h2 h
theorem if_ndec {p : Prop} [Decidable p] {A B : Prop} (h1 : ¬ p → A) (h2 : p → B) : if (!decide p) = true then A else B := by
  by_cases h : p
  · rw [if_neg (by rw [decide_eq_true h]; decide)]; exact h2 h
  · rw [if_pos (by rw [decide_eq_false h]; rfl)]; exact h1 h
theorem if_b {b : Bool} {A B : Prop} (h1 : b = true → A) (h2 : b = false → B) : if b = true then A else B := by
  cases b
  · rw [if_neg (by decide)]; exact h2 rfl
  · rw [if_pos rfl]; exact h1 rfl
theorem if_nb {b : Bool} {A B : Prop} (h1 : b = false → A) (h2 : b = true → B) : if (!b) = true then A else B := by
  cases b
  · exact (if_pos (c := (!false) = true) rfl).mpr (h1 rfl)
  · exact (if_neg (c := (!true) = true) (by decide)).mpr (h2 rfl)
end My
/-! the readings, one step each -/
namespace My
open PySem L2
section
variable {K : PySem.W.Frag} {σ : L2.St} {H : Hp} {D : Ends} {te ta tb to ti : TE} {tt t2 : TT} {t u w : TS} {Q : VK} {i : Nat} {v x y : V} {r : R2}
theorem w_seqA (h : te σ H fun x H1 => u D (σ.set i (some x)) H1) : tSeq (tAsg te (gName i)) u D σ H := h
theorem w_asg (h : te σ H fun x H1 => D.nx (σ.set i (some x)) H1) : tAsg te (gName i) D σ H := h
theorem w_seqG {g : TG} (h : te σ H fun x H1 => g x σ H1 (u D)) : tSeq (tAsg te g) u D σ H := h
theorem w_asgG {g : TG} (h : te σ H fun x H1 => g x σ H1 D.nx) : tAsg te g D σ H := h
theorem w_seqI (h : tt σ H fun b H1 => if b = true then t { D with nx := w D } σ H1 else u { D with nx := w D } σ H1) : tSeq (tIfS tt t u) w D σ H := h
theorem w_ifS (h : tt σ H fun b H1 => if b = true then t D σ H1 else u D σ H1) : tIfS tt t u D σ H := h
theorem w_seqD (h : te σ H fun _ H1 => u D σ H1) : tSeq (tDrop te) u D σ H := h
theorem w_drop (h : te σ H fun _ H1 => D.nx σ H1) : tDrop te D σ H := h
theorem w_seqN {n : L2.St → Hp → Prop} (h : u D σ H) : tSeq tNext u D σ H := h
theorem w_next (h : D.nx σ H) : tNext D σ H := h
theorem w_ret (h : te σ H D.rt) : tRet te D σ H := h
theorem w_nx {n : L2.St → Hp → Prop} {rt : VK} {bk ct : L2.St → Hp → Prop} (h : n σ H) : Ends.nx { nx := n, rt := rt, bk := bk, ct := ct } σ H := h
theorem w_rt {n : L2.St → Hp → Prop} {rt : VK} {bk ct : L2.St → Hp → Prop} (h : rt v H) : Ends.rt { nx := n, rt := rt, bk := bk, ct := ct } v H := h
theorem w_never (h : False) : tNever D σ H := h
theorem w_var (e : σ[i]? = some (some v)) (h : Q v H) : tVar i σ H Q := ⟨v, e, h⟩
theorem w_c (h : Q v H) : tC v σ H Q := h
theorem w_op (h : ta σ H fun x H1 => tb σ H1 fun y H2 => r x y H2 Q) : tOp r ta tb σ H Q := h
theorem w_un {r : V → Hp → VK → Prop} (h : ta σ H fun x H1 => r x H1 Q) : tUn r ta σ H Q := h
theorem w_test {Q : Bool → Hp → Prop} (h : te σ H fun x H' => ∃ k, x = .bl k ∧ Q k H') : tTest te σ H Q := h
theorem w_tB {Q : Bool → Hp → Prop} (h : te σ H fun x H' => ∃ k, x = .bl k ∧ Q k H') : tB te σ H Q := h
theorem w_ex {b : Bool} {Q : Bool → Prop} (h : Q b) : ∃ k, V.bl b = .bl k ∧ Q k := ⟨b, rfl, h⟩
theorem w_and {Q : Bool → Hp → Prop} (h : tt σ H fun c H1 => if c = true then t2 σ H1 Q else Q false H1) : tAnd tt t2 σ H Q := h
theorem w_or {Q : Bool → Hp → Prop} (h : tt σ H fun c H1 => if c = true then Q true H1 else t2 σ H1 Q) : tOr tt t2 σ H Q := h
theorem w_not {Q : Bool → Hp → Prop} (h : tt σ H fun c H1 => Q (!c) H1) : tNot tt σ H Q := h
theorem w_andV (h : ta σ H fun x H1 => ∃ c, x = .bl c ∧ if c = true then tb σ H1 Q else Q (.bl false) H1) : tAndV ta tb σ H Q := h
theorem w_orV (h : ta σ H fun x H1 => ∃ c, x = .bl c ∧ if c = true then Q (.bl true) H1 else tb σ H1 Q) : tOrV ta tb σ H Q := h
theorem w_notV (h : ta σ H fun x H1 => ∃ c, x = .bl c ∧ Q (.bl (!c)) H1) : tNotV ta σ H Q := h
theorem w_ifE (h : tt σ H fun c H1 => if c = true then ta σ H1 Q else tb σ H1 Q) : tIf tt ta tb σ H Q := h
theorem w_nil {Q : List V → Hp → Prop} (h : Q [] H) : tNil σ H Q := h
theorem w_cons {tr : TA} {Q : List V → Hp → Prop} (h : ta σ H fun x H1 => tr σ H1 fun xs H2 => Q (x :: xs) H2) : tCons ta tr σ H Q := h
theorem w_cb {r : List V → Hp → VK → Prop} {t : TA} (h : t σ H fun vs H1 => r vs H1 Q) : tCB r t σ H Q := h
theorem w_call {sp : Sp} {E : XK} {t : TA} (h : t σ H fun vs H1 => sp vs H1 Q E) : tCall sp [] E t σ H Q := by
  have e : (fun (vs : List V) H1 => sp (vs ++ []) H1 Q E) = fun vs H1 => sp vs H1 Q E := by
    funext vs H1
    rw [List.append_nil]
  show t σ H fun vs H1 => sp (vs ++ []) H1 Q E
  rw [e]
  exact h
/-- what a new tuple, a new list wants -/
def mkT (xs : List V) (H : Hp) (Q : VK) : Prop := xs.length ≤ sizeLine ∧ ∀ p, H p = none → Q (.ref p) (upd H p (.tup xs))
def mkL (xs : List V) (H : Hp) (Q : VK) : Prop := xs.length ≤ sizeLine ∧ ∀ p, H p = none → Q (.ref p) (upd H p (.lst xs))
theorem w_tup {t : TA} (h : t σ H fun xs H1 => mkT xs H1 Q) : tTup t σ H Q := h
theorem w_lst {t : TA} (h : t σ H fun xs H1 => mkL xs H1 Q) : tLst t σ H Q := h
theorem a_tup {xs : List V} (hl : decide (xs.length ≤ 100000) = true) (h : ∀ (p : Addr) (H1 : Hp), H p = none → Same H H1 → H1 p = some (.tup xs) → Q (.ref p) H1) : mkT xs H Q :=
  ⟨Nat.le_trans (of_decide_eq_true hl) (by decide), fun p np => h p _ np (Same.new np) upd_same⟩
theorem a_lst {xs : List V} (hl : decide (xs.length ≤ 100000) = true) (h : ∀ (p : Addr) (H1 : Hp), H p = none → Same H H1 → H1 p = some (.lst xs) → Q (.ref p) H1) : mkL xs H Q := mk_lst (of_decide_eq_true hl) h
theorem r_I0 {g : Int → Int → V} {i j : Int} (h : Q (g i j) H) : rI0 g (.int i) (.int j) H Q := ⟨i, j, rfl, rfl, h⟩
theorem r_I {C : Int → Int → Prop} {g : Int → Int → V} {i j : Int} (c : C i j) (h : Q (g i j) H) : rI C g (.int i) (.int j) H Q := ⟨i, j, rfl, rfl, c, h⟩
theorem r_U {g : Int → V} {i : Int} (h : Q (g i) H) : rU g (.int i) H Q := ⟨i, rfl, h⟩
theorem r_eq (c : scal x y = true) (h : Q (.bl (decide (x = y))) H) : rEq x y H Q := ⟨c, h⟩
theorem r_ne (c : scal x y = true) (h : Q (.bl (!decide (x = y))) H) : rNe x y H Q := ⟨c, h⟩
theorem r_ixT {p : Addr} {xs : List V} {i : Int} (q : SqT K H p xs) (a : atI xs i = some v) (h : Q v H) : rIxT K (.ref p) (.int i) H Q := ⟨p, xs, i, v, rfl, rfl, q, a, h⟩
theorem r_ixL {p : Addr} {xs : List V} {i : Int} (q : SqL K H p xs) (a : atI xs i = some v) (h : Q v H) : rIxL K (.ref p) (.int i) H Q := ⟨p, xs, i, v, rfl, rfl, q, a, h⟩
theorem r_gcd {a b : Int} (h : Q (.int ((Nat.gcd a.natAbs b.natAbs : Nat) : Int)) H) : rGcd [.int a, .int b] H Q := ⟨a, b, rfl, h⟩
end
end My
namespace My
open PySem L2
set_option Elab.async true in
theorem gcd_parts (t b : Int) (hb : b ≠ 0) : ∃ (g : Nat) (t' b' : Int), g = Nat.gcd t.natAbs b.natAbs ∧ 0 < g ∧ t = (g : Int) * t' ∧ b = (g : Int) * b' ∧ Nat.gcd t'.natAbs b'.natAbs = 1 := by
  have h1 : ((Nat.gcd t.natAbs b.natAbs : Nat) : Int) ∣ t := Int.ofNat_dvd_left.2 (Nat.gcd_dvd_left _ _)
  have h2 : ((Nat.gcd t.natAbs b.natAbs : Nat) : Int) ∣ b := Int.ofNat_dvd_left.2 (Nat.gcd_dvd_right _ _)
  have hg : 0 < Nat.gcd t.natAbs b.natAbs := Nat.gcd_pos_of_pos_right _ (by omega)
  obtain ⟨t', e1⟩ := h1
  obtain ⟨b', e2⟩ := h2
  refine ⟨_, t', b', rfl, hg, e1, e2, ?_⟩
  have e3 : t.natAbs = Nat.gcd t.natAbs b.natAbs * t'.natAbs := by
    have := congrArg Int.natAbs e1
    rw [Int.natAbs_mul] at this
    simpa using this
  have e4 : b.natAbs = Nat.gcd t.natAbs b.natAbs * b'.natAbs := by
    have := congrArg Int.natAbs e2
    rw [Int.natAbs_mul] at this
    simpa using this
  have e5 : Nat.gcd t.natAbs b.natAbs = Nat.gcd t.natAbs b.natAbs * Nat.gcd t'.natAbs b'.natAbs := by
    rw [← Nat.gcd_mul_left, ← e3, ← e4]
  generalize Nat.gcd t.natAbs b.natAbs = g at *
  have : g * 1 = g * Nat.gcd t'.natAbs b'.natAbs := by omega
  exact (Nat.eq_of_mul_eq_mul_left hg this).symm
in #guard_msgs in universe u_z
/-- the parts of a reduced fraction -/
structure Red (t b n d : Int) : Prop where
  eq : n * b = t * d
  pos : 0 < d
  cop : Nat.gcd n.natAbs d.natAbs = 1
  ln : n.natAbs ≤ t.natAbs
  ld : d.natAbs ≤ b.natAbs
set_option Elab.async true in
theorem red_of {t b s : Int} (hb : b ≠ 0) (h1 : 0 < b → s = (Nat.gcd t.natAbs b.natAbs : Nat)) (h2 : b < 0 → s = -((Nat.gcd t.natAbs b.natAbs : Nat) : Int)) :
    Red t b (t.fdiv s) (b.fdiv s) := by
  obtain ⟨g, t', b', hg, h0, e1, e2, hc⟩ := gcd_parts t b hb
  rw [← hg] at h1 h2
  have gi : (g : Int) ≠ 0 := by omega
  have hle : ∀ z : Int, z.natAbs ≤ ((g : Int) * z).natAbs := fun z => by
    rw [Int.natAbs_mul]
    exact Nat.le_mul_of_pos_left _ (by simpa using h0)
  rcases Int.lt_or_gt_of_ne hb with hn | hp
  · have es := h2 hn
    have d1 : t.fdiv s = -t' := by
      rw [es, e1, show (g : Int) * t' = (-(g : Int)) * (-t') by rw [Int.neg_mul_neg]]
      exact Int.mul_fdiv_cancel_left _ (by omega)
    have d2 : b.fdiv s = -b' := by
      rw [es, e2, show (g : Int) * b' = (-(g : Int)) * (-b') by rw [Int.neg_mul_neg]]
      exact Int.mul_fdiv_cancel_left _ (by omega)
    rw [d1, d2]
    refine ⟨?_, ?_, by simpa using hc, ?_, ?_⟩
    · rw [e1, e2]; grind
    · have : (g : Int) * b' < 0 := e2 ▸ hn
      have := Int.neg_of_mul_neg_right (a := (g:Int)) (b := b') this (by omega)
      omega
    · rw [e1, Int.natAbs_neg]; exact hle t'
    · rw [e2, Int.natAbs_neg]; exact hle b'
  · have es := h1 hp
    have d1 : t.fdiv s = t' := by
      rw [es, e1]
      exact Int.mul_fdiv_cancel_left _ gi
    have d2 : b.fdiv s = b' := by
      rw [es, e2]
      exact Int.mul_fdiv_cancel_left _ gi
    rw [d1, d2]
    refine ⟨?_, ?_, hc, ?_, ?_⟩
    · rw [e1, e2]; grind
    · have : 0 < (g : Int) * b' := e2 ▸ hp
      exact Int.pos_of_mul_pos_right (a := (g:Int)) this (by omega)
    · rw [e1]; exact hle t'
    · rw [e2]; exact hle b'
in #guard_msgs in universe u_z
theorem dvd_cop {d n m : Int} (c : Nat.gcd d.natAbs n.natAbs = 1) (h : d ∣ n * m) : d ∣ m := by
  have h2 : d.natAbs ∣ n.natAbs * m.natAbs := by
    rw [← Int.natAbs_mul]
    exact Int.natAbs_dvd_natAbs.2 h
  exact Int.natAbs_dvd_natAbs.1 (Nat.Coprime.dvd_of_dvd_mul_left (k := d.natAbs) (m := n.natAbs) c h2)
set_option Elab.async true in
/-- two reduced fractions of one value are one -/
theorem red_uniq {n d n' d' : Int} (p : 0 < d) (p' : 0 < d') (c : Nat.gcd n.natAbs d.natAbs = 1) (c' : Nat.gcd n'.natAbs d'.natAbs = 1) (e : n * d' = n' * d) : n = n' ∧ d = d' := by
  have hd : d ∣ d' := by
    have : d ∣ n * d' := ⟨n', by rw [e, Int.mul_comm]⟩
    exact dvd_cop (by rw [Nat.gcd_comm]; exact c) this
  have hd' : d' ∣ d := by
    have : d' ∣ n' * d := ⟨n, by rw [← e, Int.mul_comm]⟩
    exact dvd_cop (by rw [Nat.gcd_comm]; exact c') this
  have e2 : d = d' := Int.dvd_antisymm (by omega) (by omega) hd hd'
  subst e2
  exact ⟨Int.eq_of_mul_eq_mul_right (by omega) e, rfl⟩
in #guard_msgs in universe u_z
end My
namespace My
open PySem L2
theorem B.redn {t b n d : Int} {k : Nat} (r : Red t b n d) (h : B k t) : B k n := B.of_le r.ln h
theorem B.redd {t b n d : Int} {k : Nat} (r : Red t b n d) (h : B k b) : B k d := B.of_le r.ld h
/-! loops -/
/-- what is left of a for once its walk is known -/
def forT (J : It) (g : TG) (tb : TS) (D : Ends) (σ : L2.St) (H : Hp) : Prop := ∃ W : Nat → Nat → L2.St → Hp → Prop, (∃ m, W 0 m σ H) ∧ ∀ i m σ H, W i m σ H →
  (J.stop i H ∧ D.nx σ H) ∨ (J.go i H ∧ ∃ N : L2.St → Hp → Prop, (∀ σ' H', N σ' H' → ∃ m', m' < m ∧ W (i + 1) m' σ' H') ∧ ∀ x H', J.yld i H x H' → g x σ H' fun σ2 H2 => tb { D with nx := N, ct := N, bk := D.nx } σ2 H2)
section
variable {K : PySem.W.Frag} {σ : L2.St} {H : Hp} {D : Ends} {te ta tb to ti : TE} {tt t2 : TT} {t u w : TS} {Q : VK} {i : Nat} {v x y : V} {r : R2} {g : TG} {wi : TI}
theorem w_seqF (h : wi σ H fun J H1 => forT J g t { D with nx := u D } σ H1) : tSeq (tFor wi g t) u D σ H := h
theorem w_for (h : wi σ H fun J H1 => forT J g t D σ H1) : tFor wi g t D σ H := h
def iL (K : PySem.W.Frag) (x : V) (H : Hp) (R : It → Hp → Prop) : Prop := ∃ a, x = .ref a ∧ (∃ xs, SqL K H a xs) ∧ R (Itl K a) H
def iT (K : PySem.W.Frag) (x : V) (H : Hp) (R : It → Hp → Prop) : Prop := ∃ a, x = .ref a ∧ (∃ xs, SqT K H a xs) ∧ R (Itt K a) H
theorem w_iL {R : It → Hp → Prop} (h : te σ H fun x H1 => iL K x H1 R) : iList K te σ H R := h
theorem w_iT {R : It → Hp → Prop} (h : te σ H fun x H1 => iT K x H1 R) : iTup K te σ H R := h
theorem r_iL {R : It → Hp → Prop} {a : Addr} {xs : List V} (q : SqL K H a xs) (h : R (Itl K a) H) : iL K (.ref a) H R := ⟨a, rfl, ⟨xs, q⟩, h⟩
theorem r_iT {R : It → Hp → Prop} {a : Addr} {xs : List V} (q : SqT K H a xs) (h : R (Itt K a) H) : iT K (.ref a) H R := ⟨a, rfl, ⟨xs, q⟩, h⟩
def iR1 (vs : List V) (H : Hp) (R : It → Hp → Prop) : Prop := ∃ j : Int, vs = [.int j] ∧ -(2 ^ 62) ≤ j ∧ j < 2 ^ 62 ∧ R (Itr 0 j.toNat) H
theorem w_iR1 {R : It → Hp → Prop} {t : TA} (h : t σ H fun vs H1 => iR1 vs H1 R) : iRng1 t σ H R := h
theorem r_iR1 {R : It → Hp → Prop} {j : Int} (h1 : -1000000 ≤ j ∧ j ≤ 1000000) (h : R (Itr 0 j.toNat) H) : iR1 [.int j] H R := ⟨j, rfl, by omega, by omega, h⟩
theorem f_list {a : Addr} {xs : List V} (Pv : Nat → L2.St → Hp → Prop) (h0 : Pv 0 σ H) (hl : ∀ i σ H, i ≤ xs.length → Pv i σ H → SqL K H a xs)
    (hs : ∀ i x σ H, xs[i]? = some x → Pv i σ H → g x σ H fun σ2 H2 => t { D with nx := Pv (i + 1), ct := Pv (i + 1), bk := D.nx } σ2 H2) (hd : ∀ σ H, Pv xs.length σ H → D.nx σ H) : forT (Itl K a) g t D σ H := for_list Pv h0 hl hs hd
theorem f_tup {a : Addr} {xs : List V} (Pv : Nat → L2.St → Hp → Prop) (h0 : Pv 0 σ H) (hl : ∀ i σ H, i ≤ xs.length → Pv i σ H → SqT K H a xs)
    (hs : ∀ i x σ H, xs[i]? = some x → Pv i σ H → g x σ H fun σ2 H2 => t { D with nx := Pv (i + 1), ct := Pv (i + 1), bk := D.nx } σ2 H2) (hd : ∀ σ H, Pv xs.length σ H → D.nx σ H) : forT (Itt K a) g t D σ H := for_tup Pv h0 hl hs hd
theorem f_range {lo : Int} {n : Nat} (Pv : Nat → L2.St → Hp → Prop) (h0 : Pv 0 σ H)
    (hs : ∀ i σ H, i < n → Pv i σ H → g (.int (lo + i)) σ H fun σ2 H2 => t { D with nx := Pv (i + 1), ct := Pv (i + 1), bk := D.nx } σ2 H2) (hd : ∀ σ H, Pv n σ H → D.nx σ H) : forT (Itr lo n) g t D σ H := for_range Pv h0 hs hd
theorem w_gName (h : D.nx (σ.set i (some v)) H) : gName i v σ H D.nx := h
theorem w_gN {Q : L2.St → Hp → Prop} (h : Q (σ.set i (some v)) H) : gName i v σ H Q := h
theorem w_gTup {Q : L2.St → Hp → Prop} {n : Nat} {gs : TGs} {a : Addr} {xs : List V} (q : SqT K H a xs) (hn : xs.length = n) (h : gs xs σ H Q) : gTup K n gs (.ref a) σ H Q := ⟨a, xs, rfl, q, hn, h⟩
theorem w_gCons {Q : L2.St → Hp → Prop} {gs : TGs} {vs : List V} (h : g v σ H fun σ' H' => gs vs σ' H' Q) : gCons g gs (v :: vs) σ H Q := ⟨v, vs, rfl, h⟩
theorem w_gNil {Q : L2.St → Hp → Prop} (h : Q σ H) : gNil [] σ H Q := ⟨rfl, h⟩
def whP (W : Nat → L2.St → Hp → Prop) (m : Nat) (t u : TS) (D : Ends) (σ : L2.St) (b : Bool) (H1 : Hp) : Prop :=
  if b = true then ∃ N : L2.St → Hp → Prop, (∀ σ' H', N σ' H' → ∃ m', m' < m ∧ W m' σ' H') ∧ t { D with nx := N, ct := N, bk := u D } σ H1 else u D σ H1
theorem w_seqW (W : Nat → L2.St → Hp → Prop) (m0 : Nat) (h0 : W m0 σ H) (hs : ∀ m σ H, W m σ H → tt σ H fun b H1 => whP W m t u D σ b H1) : tSeq (tWhile tt t) u D σ H := ⟨W, ⟨m0, h0⟩, hs⟩
theorem r_whP {W : Nat → L2.St → Hp → Prop} {m : Nat} {b : Bool} (h1 : b = true → t { D with nx := fun σ2 H2 => ∃ m', m' < m ∧ W m' σ2 H2, ct := fun σ2 H2 => ∃ m', m' < m ∧ W m' σ2 H2, bk := u D } σ H) (h2 : b = false → u D σ H) : whP W m t u D σ b H := by
  cases b with
  | true => exact ⟨_, fun _ _ z => z, h1 rfl⟩
  | false => exact h2 rfl
/-! comprehensions -/
def lcT (J : It) (g : TG) (tt : TT) (te : TE) (vs : List Nat) (σ : L2.St) (H1 : Hp) (D : Addr) (Qd : Hp → Prop) : Prop := ∃ W : Nat → Nat → Hp → Prop, (∃ m, W 0 m (upd H1 D (.lst []))) ∧ ∀ i m H, W i m H →
  (J.stop i H ∧ Qd H) ∨ (J.go i H ∧ ∃ Nx : Hp → Prop, (∀ H', Nx H' → ∃ m', m' < m ∧ W (i + 1) m' H') ∧ ∀ x H', J.yld i H x H' → g x (wipe σ vs) H' fun σ2 H2 => wipe σ2 vs = wipe σ vs ∧ tt σ2 H2 fun b H3 =>
    if b = true then te σ2 H3 fun y H4 => ∃ acc, H4 D = some (.lst acc) ∧ acc.length < sizeLine ∧ Nx (upd H4 D (.lst (acc ++ [y]))) else Nx H3)
theorem w_lc {vs : List Nat} (h : wi σ H fun J H1 => ∀ D, H1 D = none → lcT J g tt te vs σ H1 D (Q (.ref D))) : tLc wi g tt te vs σ H Q := h
/-- what an item of a comprehension must bring -/
def lcP (Da : Addr) (i : Nat) (I : Nat → List V → Hp → Prop) (y : V) (H : Hp) : Prop :=
  ∃ acc, H Da = some (.lst acc) ∧ acc.length < sizeLine ∧ ∃ acc2, acc2.length = i + 1 ∧ (upd H Da (.lst (acc ++ [y]))) Da = some (.lst acc2) ∧ I (i + 1) acc2 (upd H Da (.lst (acc ++ [y])))
theorem r_lcP {Da : Addr} {I : Nat → List V → Hp → Prop} {acc : List V} (hD : H Da = some (.lst acc)) (hi : acc.length = i) (hn : i < 100000) (h : I (i + 1) (acc ++ [y]) (upd H Da (.lst (acc ++ [y])))) : lcP Da i I y H :=
  ⟨acc, hD, Nat.lt_of_lt_of_le (m := 100000) (by omega) (by decide), acc ++ [y], by simp [hi], upd_same, h⟩
set_option Elab.async true in
theorem lc_rng {lo : Int} {n : Nat} {j : Nat} {vs : List Nat} {Da : Addr} {Qd : Hp → Prop} (I : Nat → List V → Hp → Prop) (h0 : I 0 [] (upd H Da (.lst [])))
    (hw : ∀ x, wipe ((wipe σ vs).set j (some x)) vs = wipe σ vs)
    (hs : ∀ i acc H1, i < n → acc.length = i → H1 Da = some (.lst acc) → I i acc H1 → te ((wipe σ vs).set j (some (.int (lo + i)))) H1 fun y H2 => lcP Da i I y H2)
    (hd : ∀ acc H1, acc.length = n → H1 Da = some (.lst acc) → I n acc H1 → Qd H1) : lcT (Itr lo n) (gName j) tYes te vs σ H Da Qd := by
  have z := lc_range (lo := lo) (n := n) (g := gName j) (tt := tYes) (te := te) (vs := vs) (σ := σ) (H1 := H) (D := Da) (Qd := Qd) (fun i H1 => ∃ acc, acc.length = i ∧ H1 Da = some (.lst acc) ∧ I i acc H1) ⟨[], rfl, upd_same, h0⟩ (by
    rintro i H1 hi ⟨acc, ha, hD, p⟩
    exact ⟨hw _, hs i acc H1 hi ha hD p⟩) (by
    rintro H1 ⟨acc, ha, hD, p⟩
    exact hd acc H1 ha hD p)
  exact z
in #guard_msgs in universe u_z
set_option Elab.async true in
theorem lc_lst {a : Addr} {xs : List V} {j : Nat} {vs : List Nat} {Da : Addr} {Qd : Hp → Prop} (I : Nat → List V → Hp → Prop) (h0 : I 0 [] (upd H Da (.lst [])))
    (hw : ∀ x, wipe ((wipe σ vs).set j (some x)) vs = wipe σ vs) (hl : ∀ i acc H1, i ≤ xs.length → H1 Da = some (.lst acc) → I i acc H1 → SqL K H1 a xs)
    (hs : ∀ i x acc H1, xs[i]? = some x → acc.length = i → H1 Da = some (.lst acc) → I i acc H1 → te ((wipe σ vs).set j (some x)) H1 fun y H2 => lcP Da i I y H2)
    (hd : ∀ acc H1, acc.length = xs.length → H1 Da = some (.lst acc) → I xs.length acc H1 → Qd H1) : lcT (Itl K a) (gName j) tYes te vs σ H Da Qd := by
  have z := lc_list (K := K) (a := a) (xs := xs) (g := gName j) (tt := tYes) (te := te) (vs := vs) (σ := σ) (H1 := H) (D := Da) (Qd := Qd) (fun i H1 => ∃ acc, acc.length = i ∧ H1 Da = some (.lst acc) ∧ I i acc H1) ⟨[], rfl, upd_same, h0⟩ (by
    rintro i H1 hi ⟨acc, ha, hD, p⟩
    exact hl i acc H1 hi hD p) (by
    rintro i x H1 hi ⟨acc, ha, hD, p⟩
    exact ⟨hw _, hs i x acc H1 hi ha hD p⟩) (by
    rintro H1 ⟨acc, ha, hD, p⟩
    exact hd acc H1 ha hD p)
  exact z
in #guard_msgs in universe u_z
/-! isinstance -/
theorem SqT.tyx {a : Addr} {xs : List V} (h : SqT K H a xs) : TyX K H (.ref a) (.type "tuple") := by
  rcases h with (h | ⟨o, h⟩) | ⟨o, its, n, h1, h2, _⟩
  · exact .base (.tup h)
  · exact .fTuple h
  · exact .kTuple h1 h2
theorem SqL.tyx {a : Addr} {xs : List V} (h : SqL K H a xs) : TyX K H (.ref a) (.type "list") := by
  rcases h with (h | ⟨o, h⟩) | ⟨o, its, n, h1, h2, _⟩
  · exact .base (.lst h)
  · exact .base (.frz h)
  · exact .kList h1 h2
theorem r_isi {x c : V} {t u : Value} {b : Bool} (hc : ClsV c u) (ht : TyX K H x t) (e : PySem.W.kitOne K t u = some b) (h : Q (.bl b) H) : rIsi K [x, c] H Q := ⟨x, c, t, u, b, rfl, hc, ht, e, h⟩
end
end My
namespace My
open PySem L2
section
variable {K : PySem.W.Frag} {σ : L2.St} {H : Hp} {Q : VK} {x y : V}
theorem r_eqD {d e : PyData} (hd : Dp K H x d) (he : Dp K H y e) (sd : SeqAt.shaped d = true) (se : SeqAt.shaped e = true) (h : Q (.bl (PyData.eqv d e)) H) : rEqD K x y H Q := ⟨d, e, hd, he, sd, se, h⟩
theorem r_neD {d e : PyData} (hd : Dp K H x d) (he : Dp K H y e) (sd : SeqAt.shaped d = true) (se : SeqAt.shaped e = true) (h : Q (.bl (!PyData.eqv d e)) H) : rNeD K x y H Q := ⟨d, e, hd, he, sd, se, h⟩
theorem eqv_I (a b : Int) : PyData.eqv (.int a) (.int b) = decide (a = b) := by
  simp only [PyData.eqv]
  rw [Bool.beq_eq_decide_eq]
theorem eqv_T (xs ys : List PyData) : PyData.eqv (.tuple xs) (.tuple ys) = PyData.eqvAll xs ys := by simp only [PyData.eqv]
theorem eqv_C (x y : PyData) (xs ys : List PyData) : PyData.eqvAll (x :: xs) (y :: ys) = (PyData.eqv x y && PyData.eqvAll xs ys) := by rw [PyData.eqvAll]
theorem eqv_N : PyData.eqvAll [] [] = true := by simp only [PyData.eqvAll]
end
end My
theorem My.hu_of64 {A : PySem.Around} {k : Nat} (hr : L2.Room k A) : A.units + 64 < PySem.cLine := by
  have := hr.un
  omega
/-! the rules that hang on the written part, with K told -/
namespace My
open PySem L2
section
variable {X : Cx} {K : PySem.W.Frag} {e o i : Expr} {es : List Expr} {te to ti : TE} {t : TA} {pos p : Pos} {tg : Expr}
theorem kx_tup (h : X.K = K) : IxR X (rIxT K) := h ▸ ix_tup
theorem kx_list (h : X.K = K) : IxR X (rIxL K) := h ▸ ix_list
theorem ko_eqD (h : X.K = K) (hu : X.A.units + 64 < cLine) : OpR X (compareOp .Eq) (rEqD K) := h ▸ op_eqD hu
theorem ko_neD (h : X.K = K) (hu : X.A.units + 64 < cLine) : OpR X (compareOp .NotEq) (rNeD K) := h ▸ op_neD hu
theorem ko_catT (h : X.K = K) : OpR X (binaryOp .Add) (rCatT K) := h ▸ op_catT
def rLen (K : PySem.W.Frag) : List V → Hp → VK → Prop := fun xs H Q => ∃ p ys, xs = [.ref p] ∧ (SqL K H p ys ∨ SqT K H p ys) ∧ Q (.int ys.length) H
theorem kc_len (h : X.K = K) : CallR X (.builtin "len") (rLen K) := h ▸ call_len_seq
def rLst (K : PySem.W.Frag) : List V → Hp → VK → Prop := fun xs H Q => ∃ p ys, xs = [.ref p] ∧ (SqL K H p ys ∨ SqT K H p ys) ∧ ∀ l, H l = none → Q (.ref l) (upd H l (.lst ys))
theorem kc_list (h : X.K = K) : CallR X (.type "list") (rLst K) := h ▸ call_list_of
def rTpl (K : PySem.W.Frag) : List V → Hp → VK → Prop := fun xs H Q => ∃ p ys, xs = [.ref p] ∧ ((SqL K H p ys ∧ ∀ l, H l = none → Q (.ref l) (upd H l (.tup ys))) ∨ (SqT K H p ys ∧ Q (.ref p) H))
theorem kc_tuple (h : X.K = K) : CallR X (.type "tuple") (rTpl K) := h ▸ call_tuple_of
theorem kc_isi (h : X.K = K) : CallR X (.builtin "isinstance") (rIsi K) := h ▸ call_isi
theorem kp_list (h : X.K = K) (he : PE X e te) : PI X tg e (iList K te) := h ▸ pi_list he
theorem kp_tup (h : X.K = K) (he : PE X e te) : PI X tg e (iTup K te) := h ▸ pi_tup he
theorem kg_tup (h : X.K = K) {k n : Nat} {t : TGs} (hc : X.calm = true) (hp : PGs X es t) (hn : (assignEach es X.env).length = n := by rfl) (hst : (assignEach es X.env).findIdx? (·.1) = none := by rfl) : PG X (.Tuple es k pos) (gTup K n t) := h ▸ pg_tup hc hp hn hst
theorem ks_list (h : X.K = K) : SlR X (rSlL K) := h ▸ sl_list
theorem ks_tup (h : X.K = K) : SlR X (rSlT K) := h ▸ sl_tup
section
variable {T name id : String} {apos cpos : Pos} {r : V → List V → Hp → VK → Prop}
set_option Elab.async true in
theorem k_bm (h : X.K = K) {T : String} {name : Str} {id : String} (pa : PlainAttrs T) (slot : Slot T name id) (hty : typeOf (.builtin id) = pure (.type "method_descriptor")) (hm : MtR X id r) (ho : PE X o to) (ha : PA X (e :: es) t)
    (hbase : attributeBase o name X.env (eval o X.env) = eval o X.env := by rfl)
    (hfew : ((backTo cpos (starEach (e :: es) X.env)).all (fun x => !x.1) && (backToKw cpos (keywordEach [] X.env)).all (fun x => x.1.isSome)
      && decide ((e :: es).length + ([] : List Keyword).length + (if ([] : List Keyword).isEmpty then 0 else 1) < 30)) = true := by rfl)
    (hline : (apos.endLine == cpos.line) = true := by rfl) (hs : starEach (e :: es) X.env = (false, eval e X.env) :: starEach es X.env := by rfl) (hplain : (backTo cpos (starEach es X.env)).any (·.1) = false := by rfl) :
    PE X (.Call (.Attribute o name apos) (e :: es) [] cpos) (tBM K T r to t) := h ▸ pe_bm pa slot hty hm ho ha hbase hfew hline hs hplain
in #guard_msgs in universe u_z
end
end
section
variable {K : PySem.W.Frag} {σ : L2.St} {H : Hp} {Q : VK} {x y : V}
theorem r_lenT {p : Addr} {xs : List V} (q : SqT K H p xs) (h : Q (.int (xs.length : Int)) H) : rLen K [.ref p] H Q := ⟨p, xs, rfl, .inr q, h⟩
theorem r_lenL' {p : Addr} {xs : List V} (q : SqL K H p xs) (h : Q (.int (xs.length : Int)) H) : rLen K [.ref p] H Q := ⟨p, xs, rfl, .inl q, h⟩
theorem r_lstL {p : Addr} {xs : List V} (q : SqL K H p xs) (h : ∀ (l : Addr) (H1 : Hp), H l = none → Same H H1 → H1 l = some (.lst xs) → Q (.ref l) H1) : rLst K [.ref p] H Q := ⟨p, xs, rfl, .inl q, fun l hl => h l _ hl (Same.new hl) upd_same⟩
theorem r_lstT {p : Addr} {xs : List V} (q : SqT K H p xs) (h : ∀ (l : Addr) (H1 : Hp), H l = none → Same H H1 → H1 l = some (.lst xs) → Q (.ref l) H1) : rLst K [.ref p] H Q := ⟨p, xs, rfl, .inr q, fun l hl => h l _ hl (Same.new hl) upd_same⟩
theorem r_tplL {p : Addr} {xs : List V} (q : SqL K H p xs) (h : ∀ (l : Addr) (H1 : Hp), H l = none → Same H H1 → H1 l = some (.tup xs) → Q (.ref l) H1) : rTpl K [.ref p] H Q := ⟨p, xs, rfl, .inl ⟨q, fun l hl => h l _ hl (Same.new hl) upd_same⟩⟩
end
end My
/-! comprehensions and loops that make values -/
namespace My
open PySem L2
/-- every tuple stays -/
def TK (K : PySem.W.Frag) (H H' : Hp) : Prop := ∀ a xs, SqT K H a xs → SqT K H' a xs
theorem TK.refl (K : PySem.W.Frag) (H : Hp) : TK K H H := fun _ _ h => h
theorem TK.trans {K : PySem.W.Frag} {H H1 H2 : Hp} (a : TK K H H1) (b : TK K H1 H2) : TK K H H2 := fun p xs h => b p xs (a p xs h)
theorem TK.same {K : PySem.W.Frag} {H H' : Hp} (e : Same H H') : TK K H H' := fun _ _ h => Same.tup e h
theorem TK.upd {K : PySem.W.Frag} {H : Hp} {l : Addr} {xs : List V} {o : HO} (h : H l = some (.lst xs)) : TK K H (upd H l o) := fun a ys t => by
  rcases t with (t | ⟨z, t⟩) | t
  · refine .inl (.inl ((upd_ne fun q => ?_).trans t))
    rw [q, h] at t
    cases t
  · refine .inl (.inr ⟨z, (upd_ne fun q => ?_).trans t⟩)
    rw [q, h] at t
    cases t
  · exact .inr t
theorem TK.fr {K : PySem.W.Frag} {H H' : Hp} {s : Addr} (e : Fr s H H') (st : St K H s) : TK K H H' := fun _ _ h => Fr.tup e st h
section
variable {K : PySem.W.Frag} {σ : L2.St} {H : Hp} {te : TE}
/-- the state of a comprehension that makes the list at Da: G is what stays, J what is told of the items -/
def lcPv (Da : Addr) (G : Hp → Prop) (J : Nat → List V → Hp → Prop) (i : Nat) (H1 : Hp) : Prop := ∃ acc, acc.length = i ∧ H1 Da = some (.lst acc) ∧ G H1 ∧ J i acc H1
def lcQ (Da : Addr) (G : Hp → Prop) (J : Nat → List V → Hp → Prop) (i : Nat) (y : V) (H2 : Hp) : Prop := ∃ acc, H2 Da = some (.lst acc) ∧ acc.length < sizeLine ∧ lcPv Da G J (i + 1) (upd H2 Da (.lst (acc ++ [y])))
structure LcG (K : PySem.W.Frag) (Da : Addr) (G : Hp → Prop) (J : Nat → List V → Hp → Prop) : Prop where
  g : ∀ H1 acc o, H1 Da = some (.lst acc) → G H1 → G (upd H1 Da o)
  j : ∀ i acc H1 H2, TK K H1 H2 → J i acc H1 → J i acc H2
theorem r_lcQ {Da : Addr} {G : Hp → Prop} {J : Nat → List V → Hp → Prop} {i : Nat} {y : V} {H2 : Hp} {acc : List V} (L : LcG K Da G J) (hi : i < 100000) (ha : acc.length = i) (hDa : H2 Da = some (.lst acc)) (g : G H2) (q : J (i + 1) (acc ++ [y]) H2) : lcQ Da G J i y H2 :=
  ⟨acc, hDa, Nat.lt_of_lt_of_le (m := 100000) (by omega) (by decide), acc ++ [y], by simp [ha], upd_same, L.g _ _ _ hDa g, L.j _ _ _ _ (TK.upd hDa) q⟩
set_option Elab.async true in
theorem lc_rngG {lo : Int} {n : Nat} {j : Nat} {vs : List Nat} {Da : Addr} {Qd : Hp → Prop} {G : Hp → Prop} {J : Nat → List V → Hp → Prop} (L : LcG K Da G J) (h0 : G (upd H Da (.lst []))) (hj : J 0 [] (upd H Da (.lst [])))
    (hw : ∀ x, wipe ((wipe σ vs).set j (some x)) vs = wipe σ vs)
    (hs : ∀ i acc H1, i < n → acc.length = i → H1 Da = some (.lst acc) → G H1 → J i acc H1 → te ((wipe σ vs).set j (some (.int (lo + i)))) H1 fun y H2 => lcQ Da G J i y H2)
    (hd : ∀ acc H1, acc.length = n → H1 Da = some (.lst acc) → G H1 → J n acc H1 → Qd H1) : lcT (Itr lo n) (gName j) tYes te vs σ H Da Qd := by
  have z := lc_range (lo := lo) (n := n) (g := gName j) (tt := tYes) (te := te) (vs := vs) (σ := σ) (H1 := H) (D := Da) (Qd := Qd) (lcPv Da G J)
    ⟨[], rfl, upd_same, h0, hj⟩ (by
    rintro i H1 hi ⟨acc, ha, hDa, s1, p⟩
    exact ⟨hw _, hs i acc H1 hi ha hDa s1 p⟩) (by
    rintro H1 ⟨acc, ha, hDa, s1, p⟩
    exact hd acc H1 ha hDa s1 p)
  exact z
in #guard_msgs in universe u_z
set_option Elab.async true in
theorem lc_lstG {a : Addr} {xs : List V} {j : Nat} {vs : List Nat} {Da : Addr} {Qd : Hp → Prop} {G : Hp → Prop} {J : Nat → List V → Hp → Prop} (L : LcG K Da G J) (h0 : G (upd H Da (.lst []))) (hj : J 0 [] (upd H Da (.lst [])))
    (hl : ∀ H1 acc, H1 Da = some (.lst acc) → G H1 → SqL K H1 a xs) (hw : ∀ x, wipe ((wipe σ vs).set j (some x)) vs = wipe σ vs)
    (hs : ∀ i x acc H1, xs[i]? = some x → acc.length = i → H1 Da = some (.lst acc) → G H1 → J i acc H1 → te ((wipe σ vs).set j (some x)) H1 fun y H2 => lcQ Da G J i y H2)
    (hd : ∀ acc H1, acc.length = xs.length → H1 Da = some (.lst acc) → G H1 → J xs.length acc H1 → Qd H1) : lcT (Itl K a) (gName j) tYes te vs σ H Da Qd := by
  have z := lc_list (K := K) (a := a) (xs := xs) (g := gName j) (tt := tYes) (te := te) (vs := vs) (σ := σ) (H1 := H) (D := Da) (Qd := Qd) (lcPv Da G J)
    ⟨[], rfl, upd_same, h0, hj⟩ (by
    rintro i H1 hi ⟨acc, ha, hDa, s1, p⟩
    exact hl H1 acc hDa s1) (by
    rintro i x H1 hi ⟨acc, ha, hDa, s1, p⟩
    exact ⟨hw _, hs i x acc H1 hi ha hDa s1 p⟩) (by
    rintro H1 ⟨acc, ha, hDa, s1, p⟩
    exact hd acc H1 ha hDa s1 p)
  exact z
in #guard_msgs in universe u_z
/-- G of a pure comprehension, of one that draws -/
theorem lcG_same {Da : Addr} {J : Nat → List V → Hp → Prop} (hD : H Da = none) (j : ∀ i acc H1 H2, TK K H1 H2 → J i acc H1 → J i acc H2) : LcG K Da (Same H) J := ⟨fun _ _ _ _ g => Same.mut g hD, j⟩
def Go (K : PySem.W.Frag) (s : Addr) (H H1 : Hp) : Prop := Fr s H H1 ∧ St K H1 s
theorem lcG_go {Da s : Addr} {J : Nat → List V → Hp → Prop} (hD : H Da = none) (st : St K H s) (j : ∀ i acc H1 H2, TK K H1 H2 → J i acc H1 → J i acc H2) : LcG K Da (Go K s H) J :=
  ⟨fun _ _ _ _ g => ⟨Fr.mut g.1 hD st.some, St.mut st g.1 g.2 hD⟩, j⟩
theorem go_new {Da s : Addr} {o : HO} (hD : H Da = none) (st : St K H s) : Go K s H (upd H Da o) := ⟨Fr.new hD, St.same (Same.new hD) st⟩
end
end My
namespace My
open PySem L2
section
variable {X : Cx}
def rInt1 : List V → Hp → VK → Prop := fun xs H Q => (∃ i, xs = [.int i] ∧ Q (.int i) H) ∨ ∃ k, xs = [.bl k] ∧ Q (.int (if k then 1 else 0)) H
theorem kc_int : CallR X (.type "int") rInt1 := call_int1
def rAbs1 : List V → Hp → VK → Prop := fun xs H Q => ∃ i : Int, xs = [.int i] ∧ Q (.int (i.natAbs : Int)) H
theorem kc_abs : CallR X (.builtin "abs") rAbs1 := by
  intro pins s σ H xs us Q I r h
  obtain ⟨i, e, q⟩ := h
  refine call_abs pins s σ H xs us Q I r ⟨i, e, ?_⟩
  have e2 : (if i < 0 then -i else i) = (i.natAbs : Int) := by split <;> omega
  rw [e2]
  exact q
def rMax2 : List V → Hp → VK → Prop := fun xs H Q => ∃ i j : Int, xs = [.int i, .int j] ∧ Q (.int (max i j)) H
theorem kc_max (hc : X.calm = true) : CallR X (.builtin "max") rMax2 := by
  intro pins s σ H xs us Q I r h
  obtain ⟨i, j, e, q⟩ := h
  refine call_max2 hc pins s σ H xs us Q I r ⟨i, j, e, ?_⟩
  have e2 : (if j > i then j else i) = max i j := by split <;> omega
  rw [e2]
  exact q
def rMin2 : List V → Hp → VK → Prop := fun xs H Q => ∃ i j : Int, xs = [.int i, .int j] ∧ Q (.int (min i j)) H
theorem kc_min (hc : X.calm = true) : CallR X (.builtin "min") rMin2 := by
  intro pins s σ H xs us Q I r h
  obtain ⟨i, j, e, q⟩ := h
  refine call_min2 hc pins s σ H xs us Q I r ⟨i, j, e, ?_⟩
  have e2 : (if j < i then j else i) = min i j := by split <;> omega
  rw [e2]
  exact q
end
section
variable {K : PySem.W.Frag} {σ : L2.St} {H : Hp} {Q : VK} {x y v : V}
theorem r_int1 {i : Int} (h : Q (.int i) H) : rInt1 [.int i] H Q := .inl ⟨i, rfl, h⟩
theorem r_int1b {k : Bool} (h : Q (.int (if k then 1 else 0)) H) : rInt1 [.bl k] H Q := .inr ⟨k, rfl, h⟩
theorem r_abs1 {i : Int} (h : Q (.int (i.natAbs : Int)) H) : rAbs1 [.int i] H Q := ⟨i, rfl, h⟩
theorem r_max2 {i j : Int} (h : Q (.int (max i j)) H) : rMax2 [.int i, .int j] H Q := ⟨i, j, rfl, h⟩
theorem r_min2 {i j : Int} (h : Q (.int (min i j)) H) : rMin2 [.int i, .int j] H Q := ⟨i, j, rfl, h⟩
theorem w_gSub {Q : L2.St → Hp → Prop} {to ti : TE} {t : TSet} (h : to σ H fun o H1 => ti σ H1 fun i H2 => t o i v H2 fun H3 => Q σ H3) : gSub to ti t v σ H Q := h
theorem r_setL {Q : Hp → Prop} {p : Addr} {xs ys : List V} {k : Int} {j : Nat} (h : H p = some (.lst xs)) (e : ixN xs.length k = some j) (ey : xs.set j v = ys) (q : Q (upd H p (.lst ys))) : rSetL (.ref p) (.int k) v H Q := ⟨p, xs, k, j, rfl, rfl, h, e, ey ▸ q⟩
variable {s l : Addr} {ns : List Int} {i1 i2 i3 i4 i5 i6 j1 j2 j3 j4 j5 j6 : Int}
theorem StD.st (h : StD K H s l ns i1 i2 i3 i4 i5 i6) : St K H s := ⟨l, ns, i1, i2, i3, i4, i5, i6, h⟩
theorem r_setS {Q : Hp → Prop} {k : Int} {j : Nat} (h : StD K H s l ns i1 i2 i3 i4 i5 i6) (e : ixN 7 k = some j) (ey : ([.ref l, .int i1, .int i2, .int i3, .int i4, .int i5, .int i6] : List V).set j v = [.ref l, .int j1, .int j2, .int j3, .int j4, .int j5, .int j6]) (hj : 0 ≤ j1)
    (q : ∀ H1, Fr s H H1 → 0 ≤ j1 → StD K H1 s l ns j1 j2 j3 j4 j5 j6 → Q H1) : rSetL (.ref s) (.int k) v H Q :=
  r_setL h.at_ e ey (q _ (Fr.upd h.at_ rfl) hj ⟨upd_same, h.ne, (upd_ne h.ne).trans h.lst, hj⟩)
theorem r_ixS {i : Int} (h : StD K H s l ns i1 i2 i3 i4 i5 i6) (e : atI ([.ref l, .int i1, .int i2, .int i3, .int i4, .int i5, .int i6] : List V) i = some v) (q : Q v H) : rIxL K (.ref s) (.int i) H Q := r_ixL (SqL.of h.at_) e q
theorem atI_in {α : Type} {xs : List α} {i : Int} (h0 : 0 ≤ i) (h1 : i < (xs.length : Int)) : ∃ v, atI xs i = some v ∧ v ∈ xs ∧ xs[i.toNat]? = some v := by
  obtain ⟨n, rfl⟩ := Int.eq_ofNat_of_zero_le h0
  have hn : n < xs.length := by omega
  exact ⟨xs[n], atI_nat (List.getElem?_eq_getElem hn), List.getElem_mem hn, by simp [hn]⟩
theorem r_ixC (h : StD K H s l ns i1 i2 i3 i4 i5 i6) (hl : i1 < ((ns.map V.int).length : Int)) (q : ∀ z, Q (.int z) H) : rIxL K (.ref l) (.int i1) H Q := by
  obtain ⟨v, e, hv, _⟩ := atI_in (xs := ns.map V.int) h.nn hl
  obtain ⟨z, _, rfl⟩ := List.mem_map.mp hv
  exact r_ixL (SqL.of h.lst) e (q z)
end
end My
theorem My.w_cut {t u : L2.TS} {D : L2.Ends} {σ : L2.St} {H : L2.Hp} (M : L2.St → L2.Hp → Prop) (h : t { D with nx := M } σ H) (k : ∀ σ' H', M σ' H' → u D σ' H') : Evl.tCut t u D σ H := ⟨M, h, k⟩
theorem My.StD.same {K : PySem.W.Frag} {H H' : L2.Hp} {s l : PySem.Addr} {ns : List Int} {i1 i2 i3 i4 i5 i6 : Int} (e : L2.Same H H') (h : My.StD K H s l ns i1 i2 i3 i4 i5 i6) : My.StD K H' s l ns i1 i2 i3 i4 i5 i6 := ⟨e _ _ h.at_, h.ne, e _ _ h.lst, h.nn⟩
namespace My
open PySem L2
section
variable {X : Cx}
def rIsNo : R2 := fun x y H Q => y = .non ∧ Q (.bl (decide (x = .non))) H
def rNotNo : R2 := fun x y H Q => y = .non ∧ Q (.bl (!decide (x = .non))) H
theorem ko_isN : OpR X (compareOp .Is) rIsNo := op_isN
theorem ko_notN : OpR X (compareOp .IsNot) rNotNo := op_notN
section
variable {H : Hp} {Q : VK}
theorem r_isN0 (h : Q (.bl true) H) : rIsNo .non .non H Q := ⟨rfl, h⟩
theorem r_isNr {a : Addr} (h : Q (.bl false) H) : rIsNo (.ref a) .non H Q := ⟨rfl, h⟩
theorem r_notN0 (h : Q (.bl false) H) : rNotNo .non .non H Q := ⟨rfl, h⟩
theorem r_notNr {a : Addr} (h : Q (.bl true) H) : rNotNo (.ref a) .non H Q := ⟨rfl, h⟩
end
/-! unpacking a list -/
def gUnL (K : PySem.W.Frag) (n : Nat) (t : TGs) : TG := fun v σ H Q => ∃ a xs, v = .ref a ∧ SqL K H a xs ∧ xs.length = n ∧ t xs σ H Q
theorem kg_lst {K : PySem.W.Frag} (hK : X.K = K) {es : List Expr} {k n : Nat} {t : TGs} {pos : Pos} (hc : X.calm = true) (h : PGs X es t)
    (hn : (assignEach es X.env).length = n := by rfl) (hst : (assignEach es X.env).findIdx? (·.1) = none := by rfl) : PG X (.Tuple es k pos) (gUnL K n t) := hK ▸ pg_lst hc h hn hst
theorem w_gUnL {K : PySem.W.Frag} {σ : L2.St} {H : Hp} {Q : L2.St → Hp → Prop} {n : Nat} {gs : TGs} {a : Addr} {xs : List V} (q : SqL K H a xs) (hn : xs.length = n) (h : gs xs σ H Q) : gUnL K n gs (.ref a) σ H Q := ⟨a, xs, rfl, q, hn, h⟩
/-! calls by keywords -/
def pkV (idx : List Nat) (dvs vs zs : List V) : List V := idx.map fun i => (vs ++ zs ++ dvs).getD i .non
def pkU (idx : List Nat) (ds us ws : List Value) : List Value := idx.map fun i => (us ++ ws ++ ds).getD i .none
theorem vals_getD {xs : List V} {us : List Value} (r : Vals xs us) (i : Nat) : RelV (xs.getD i .non) (us.getD i .none) := by
  rw [List.getD_eq_getElem?_getD, List.getD_eq_getElem?_getD]
  cases h : xs[i]? with
  | none =>
    rw [Vals.none_of r h]
    rfl
  | some x =>
    obtain ⟨u, h1, h2⟩ := Vals.get r h
    rw [h1]
    exact h2
theorem pk_rel {dvs vs zs : List V} {ds us ws : List Value} (rd : Vals dvs ds) (r1 : Vals vs us) (r2 : Vals zs ws) : ∀ idx, Vals (pkV idx dvs vs zs) (pkU idx ds us ws)
  | [] => .nil
  | i :: r => .cons (vals_getD (Vals.append (Vals.append r1 r2) rd) i) (pk_rel rd r1 r2 r)
structure KCal (P : Program) (w : World) (K : PySem.W.Frag) (mg : Str → Option Value) (base : Heap) (x : Str) (k : Nat) (ps : List Str) (sp : Sp) (n : Nat) (ks : List Str) (gV : List V → List V → List V) : Prop where
  ex : ∃ (f : Addr) (fd : FuncData), FnOk P w K mg base CX0 k f fd ps sp ∧ mg x = some (.ref f) ∧ PySem.W.keepIn K (.ref f) = true ∧ ∃ g, KBn K fd ps n ks g gV
variable {x : Str} {p pos : Pos} {e : Expr} {es : List Expr} {t tk : TA} {k n : Nat} {ps ks : List Str} {sp : Sp} {kws : List Keyword} {gV : List V → List V → List V}
set_option Elab.async true in
theorem pcK (C : KCal X.prog X.w X.K X.mg X.base x k ps sp n ks gV) (hr : Room k X.A) (hg : Gl X x) (ha : PA X (e :: es) t) (hkw : PK X kws tk) (hall : (backToKw pos (keywordEach kws X.env)).all (·.1.isSome) = true := by rfl) (hks : (backToKw pos (keywordEach kws X.env)).filterMap (·.1) = ks := by rfl)
    (hdb : (x == ("__debug__" : Str)) = false := by decide) (he : starEach (e :: es) X.env = (false, eval e X.env) :: starEach es X.env := by rfl)
    (hpl : ((backTo pos (starEach (e :: es) X.env)).any (·.1) || (backToKw pos (keywordEach kws X.env)).any (·.1.isNone)) = false := by rfl) :
    PE X (.Call (.Name x p) (e :: es) kws pos) (tCallN n ks.length sp gV E0 t tk) := by
  obtain ⟨f, fd, F, hm, hk, g, hb⟩ := C.ex
  exact pe_callN F hr hg hm hk hb pass0 ha hkw hall hks hdb he hpl
in #guard_msgs in universe u_z
set_option Elab.async true in
theorem pcK0 (C : KCal X.prog X.w X.K X.mg X.base x k ps sp 0 ks gV) (hr : Room k X.A) (hg : Gl X x) (hkw : PK X kws tk) (hall : (backToKw pos (keywordEach kws X.env)).all (·.1.isSome) = true := by rfl) (hks : (backToKw pos (keywordEach kws X.env)).filterMap (·.1) = ks := by rfl)
    (hdb : (x == ("__debug__" : Str)) = false := by decide)
    (hpl : ((backTo pos (starEach [] X.env)).any (·.1) || (backToKw pos (keywordEach kws X.env)).any (·.1.isNone)) = false := by rfl) :
    PE X (.Call (.Name x p) [] kws pos) (tCallN 0 ks.length sp gV E0 tNil tk) := by
  obtain ⟨f, fd, F, hm, hk, g, hb⟩ := C.ex
  refine ⟨fun pins s σ H Q I h => ?_⟩
  refine wpAny_Call_Name_kw (ld_glob I hg hm ?_ hdb)
  refine PySem.W.callWith_KW0 (h₀ := X.base) I.ok.mod.kin hk hall ?_ hpl
  refine thn (hkw.run pos pins s σ H _ I h) fun ws s2 ⟨zs, H2, I2, rz, l1, l2, q2⟩ => ⟨I2.kIn, ?_⟩
  rw [hks]
  exact run_fnN F hr hb pass0 I2 .nil rz l1 l2 q2
in #guard_msgs in universe u_z
def cN (n m : Nat) (sp : Sp) (gV : List V → List V → List V) (vs zs : List V) (H : Hp) (Q : VK) : Prop := vs.length = n ∧ zs.length = m ∧ sp (gV vs zs) H Q E0
theorem w_callN {m : Nat} {σ : L2.St} {H : Hp} {Q : VK} (h : t σ H fun vs H1 => tk σ H1 fun zs H2 => cN n m sp gV vs zs H2 Q) : tCallN n m sp gV E0 t tk σ H Q := h
theorem r_cN {m : Nat} {vs zs us : List V} {H : Hp} {Q : VK} (l1 : vs.length = n) (l2 : zs.length = m) (e : gV vs zs = us) (h : sp us H Q E0) : cN n m sp gV vs zs H Q := ⟨l1, l2, e ▸ h⟩
end
/-- rational numbers in lowest terms, of k bits -/
structure Rt (k : Nat) (n d : Int) : Prop where
  pos : 0 < d
  cop : Nat.gcd n.natAbs d.natAbs = 1
  bn : B k n
  bd : B k d
theorem Red.rt {t b n d : Int} {k : Nat} (r : Red t b n d) (h1 : B k t) (h2 : B k b) : Rt k n d := ⟨r.pos, r.cop, B.redn r h1, B.redd r h2⟩
theorem map_get {ns : List Int} {i : Nat} {x : V} (h : (ns.map V.int)[i]? = some x) : ∃ z, x = .int z ∧ ns[i]? = some z := by
  rw [List.getElem?_map] at h
  cases e : ns[i]? with
  | none =>
    rw [e] at h
    cases h
  | some u =>
    rw [e] at h
    exact ⟨u, (Option.some.inj h).symm, rfl⟩
end My
theorem My.p10 {i n : Nat} (h : i ≤ n) : (10 : Int) ^ i ≤ 10 ^ n := by
  have q := Nat.pow_le_pow_right (n := 10) (by decide) h
  exact_mod_cast q
namespace My
open PySem L2
section
variable {A B : Prop} {a b : Int}
theorem if_nT (h : B) : if (!true) = true then A else B := h
theorem if_nF (h : A) : if (!false) = true then A else B := h
theorem if_eqT (e : (a == b) = true) (h : A) : if decide (V.int a = V.int b) = true then A else B := if_eqI (fun _ => h) (fun q => absurd (by simpa using e) q)
theorem if_eqF (e : (a == b) = false) (h : B) : if decide (V.int a = V.int b) = true then A else B := if_eqI (fun q => absurd q (by simpa using e)) (fun _ => h)
theorem if_neT (e : (a == b) = true) (h : B) : if (!decide (V.int a = V.int b)) = true then A else B := if_neI (fun q => absurd (by simpa using e) q) (fun _ => h)
theorem if_neF (e : (a == b) = false) (h : A) : if (!decide (V.int a = V.int b)) = true then A else B := if_neI (fun _ => h) (fun q => absurd q (by simpa using e))
theorem if_decT {p : Prop} [Decidable p] (e : p) (h : A) : if decide p = true then A else B := if_dec (fun _ => h) (fun q => absurd e q)
theorem if_decF {p : Prop} [Decidable p] (e : ¬ p) (h : B) : if decide p = true then A else B := if_dec (fun q => absurd q e) (fun _ => h)
theorem if_ndecT {p : Prop} [Decidable p] (e : p) (h : B) : if (!decide p) = true then A else B := if_ndec (fun q => absurd e q) (fun _ => h)
theorem if_ndecF {p : Prop} [Decidable p] (e : ¬ p) (h : A) : if (!decide p) = true then A else B := if_ndec (fun _ => h) (fun q => absurd q e)
variable {K : PySem.W.Frag} {H : Hp} {Q : VK} {p : Addr} {x y z u : V}
theorem r_lenT2 (q : SqT K H p [x, y]) (h : Q (.int 2) H) : rLen K [.ref p] H Q := r_lenT q h
theorem r_lenT3 (q : SqT K H p [x, y, z]) (h : Q (.int 3) H) : rLen K [.ref p] H Q := r_lenT q h
theorem r_lenT4 (q : SqT K H p [x, y, z, u]) (h : Q (.int 4) H) : rLen K [.ref p] H Q := r_lenT q h
end
end My
namespace My
open PySem L2
theorem fdiv_ex {a s : Int} (h : s ∣ a) : a = a.fdiv s * s := (Int.fdiv_mul_cancel h).symm
theorem nat_le_mul {a p s : Int} (hs : s ≠ 0) (e : a = p * s) : p.natAbs ≤ a.natAbs := by
  rw [e, Int.natAbs_mul]
  exact Nat.le_mul_of_pos_right _ (by omega)
/-- four numbers are those of a plane times s -/
structure Scl (a b c d p0 p1 p2 p3 s : Int) : Prop where
  e0 : a = p0 * s
  e1 : b = p1 * s
  e2 : c = p2 * s
  e3 : d = p3 * s
  nz : s ≠ 0
theorem B.scl0 {k : Nat} {a b c d p0 p1 p2 p3 s : Int} (h : Scl a b c d p0 p1 p2 p3 s) (q : B k a) : B k p0 := B.of_le (nat_le_mul h.nz h.e0) q
theorem B.scl1 {k : Nat} {a b c d p0 p1 p2 p3 s : Int} (h : Scl a b c d p0 p1 p2 p3 s) (q : B k b) : B k p1 := B.of_le (nat_le_mul h.nz h.e1) q
theorem B.scl2 {k : Nat} {a b c d p0 p1 p2 p3 s : Int} (h : Scl a b c d p0 p1 p2 p3 s) (q : B k c) : B k p2 := B.of_le (nat_le_mul h.nz h.e2) q
theorem B.scl3 {k : Nat} {a b c d p0 p1 p2 p3 s : Int} (h : Scl a b c d p0 p1 p2 p3 s) (q : B k d) : B k p3 := B.of_le (nat_le_mul h.nz h.e3) q
end My
namespace My
open PySem L2
theorem Fr.seq {K : PySem.W.Frag} {H H' : Hp} {s a : Addr} {xs : List V} (e : Fr s H H') (st : St K H s) (h : SqL K H a xs) (hx : (xs.length == 7) = false) : SqL K H' a xs := by
  obtain ⟨l, ns, i1, i2, i3, i4, i5, i6, st⟩ := st
  rcases h with (h | ⟨o, h⟩) | h
  · refine .inl (.inl (e.keep _ _ (fun q => ?_) h))
    rw [q, st.at_] at h
    cases h
    cases hx
  · refine .inl (.inr ⟨o, e.keep _ _ (fun q => ?_) h⟩)
    rw [q, st.at_] at h
    cases h
  · exact .inr h
end My
namespace My
open PySem L2
set_option Elab.async true in
theorem lcm_step {C x : Int} (hC : 0 < C) (hx : 0 < x) : C ∣ C * (x.fdiv ((Nat.gcd C.natAbs x.natAbs : Nat) : Int)) ∧ x ∣ C * (x.fdiv ((Nat.gcd C.natAbs x.natAbs : Nat) : Int)) ∧ 0 < C * (x.fdiv ((Nat.gcd C.natAbs x.natAbs : Nat) : Int)) := by
  obtain ⟨g, c', x', hg, h0, e1, e2, _⟩ := gcd_parts C x (by omega)
  rw [← hg]
  have e3 : x.fdiv (g : Int) = x' := by
    rw [e2]
    exact Int.mul_fdiv_cancel_left _ (by omega)
  rw [e3]
  refine ⟨Int.dvd_mul_right _ _, ?_, ?_⟩
  · rw [e1, e2]
    exact ⟨c', by grind⟩
  · refine Int.mul_pos hC ?_
    have : 0 < (g : Int) * x' := e2 ▸ hx
    exact Int.pos_of_mul_pos_right (a := (g : Int)) this (by omega)
in #guard_msgs in universe u_z
theorem B.fdiv {k : Nat} {a b : Int} (hb : 0 < b) (h : B k a) (ha : 0 ≤ a) : B k (a.fdiv b) := B.of_le (y := a) (by
  rw [Int.fdiv_eq_ediv_of_nonneg _ (by omega)]
  have h1 := Int.ediv_nonneg ha (by omega : 0 ≤ b)
  have h2 := Int.ediv_le_self b ha
  omega) h
theorem mul_fdiv {C d : Int} (hd : 0 < d) (h : d ∣ C) : C.fdiv d * d = C := Int.fdiv_mul_cancel h
end My
namespace My
open PySem L2
theorem Scl.nzp {a b c d p0 p1 p2 p3 s : Int} (h : Scl a b c d p0 p1 p2 p3 s) (n : ¬ (a = 0 ∧ b = 0 ∧ c = 0)) : ¬ (p0 = 0 ∧ p1 = 0 ∧ p2 = 0) := by
  rintro ⟨e0, e1, e2⟩
  exact n ⟨by rw [h.e0, e0]; simp, by rw [h.e1, e1]; simp, by rw [h.e2, e2]; simp⟩
section
variable {K : PySem.W.Frag} {σ : L2.St} {H : Hp} {Q : VK} {to : TE} {t : TA}
def bmP (K : PySem.W.Frag) (T : String) (x : V) (H : Hp) (P : Prop) : Prop := tyV K T x H ∧ P
theorem w_bm {T : String} {r : V → List V → Hp → VK → Prop} (h : to σ H fun x H1 => bmP K T x H1 (t σ H1 fun xs H2 => r x xs H2 Q)) : tBM K T r to t σ H Q := h
theorem r_bmL {l : Addr} {xs : List V} {P : Prop} (h : SqL K H l xs) (p : P) : bmP K "list" (.ref l) H P := ⟨.inl ⟨rfl, _, h⟩, p⟩
theorem r_app {l : Addr} {xs : List V} {y : V} (h : H l = some (.lst xs)) (hz : xs.length < 100000) (q : Q .non (upd H l (.lst (xs ++ [y])))) : rAppend (.ref l) [y] H Q := ⟨l, xs, y, rfl, rfl, h, Nat.lt_of_lt_of_le hz (by decide), q⟩
set_option Elab.async true in
theorem r_popAt {l : Addr} {xs : List V} {i : Int} (h : H l = some (.lst xs)) (h0 : 0 ≤ i) (h1 : i < (xs.length : Int)) (hz : xs.length ≤ 1000) (q : ∀ (k : Nat) (y : V), xs[k]? = some y → i = (k : Int) → Q y (upd H l (.lst (xs.eraseIdx k)))) : rPopAt (.ref l) [.int i] H Q := by
  obtain ⟨n, rfl⟩ := Int.eq_ofNat_of_zero_le h0
  have hn : n < xs.length := by omega
  have e := List.getElem?_eq_getElem hn
  exact ⟨l, xs, n, n, xs[n], rfl, rfl, h, by omega, by omega, (ixN_seq (n := xs.length) (i := (n : Int)) (j := n) (by unfold ixN; rw [if_pos h0, if_pos h1]; rfl)).1, e, q n _ e rfl⟩
in #guard_msgs in universe u_z
end
end My
namespace My
set_option Elab.async true in
theorem plane_at_zero {a b c n d p0 p1 p2 p3 s C n0 n1 n2 d0 d1 d2 : Int} (r : Red (a * n0 * d1 * d2 + b * n1 * d0 * d2 + c * n2 * d0 * d1 + 0 * (d0 * d1 * d2)) (d0 * d1 * d2) n d) (e0 : a * C = p0 * s * 1) (e1 : b * C = p1 * s * 1) (e2 : c * C = p2 * s * 1) (e3 : -n * C = p3 * s * d) (hs : s ≠ 0) : p0 * n0 * d1 * d2 + p1 * n1 * d0 * d2 + p2 * n2 * d0 * d1 + p3 * (d0 * d1 * d2) = 0 := by
  have h := r.eq
  have h1 : s * d * (p0 * n0 * d1 * d2 + p1 * n1 * d0 * d2 + p2 * n2 * d0 * d1 + p3 * (d0 * d1 * d2)) = 0 := by grind
  rcases Int.mul_eq_zero.1 h1 with h2 | h2
  · rcases Int.mul_eq_zero.1 h2 with h3 | h3
    · exact absurd h3 hs
    · have := r.pos
      omega
  · exact h2
in #guard_msgs in universe u_z
theorem plane_at_nz {a b c p0 p1 p2 s C : Int} (nz : ¬ (a = 0 ∧ b = 0 ∧ c = 0)) (e0 : a * C = p0 * s * 1) (e1 : b * C = p1 * s * 1) (e2 : c * C = p2 * s * 1) (hC : C ≠ 0) : ¬ (p0 = 0 ∧ p1 = 0 ∧ p2 = 0) := by
  rintro ⟨z0, z1, z2⟩
  have w : ∀ x p : Int, x * C = p * s * 1 → p = 0 → x = 0 := fun x p e z => by
    rw [z] at e
    have e2 : x * C = 0 := by omega
    rcases Int.mul_eq_zero.1 e2 with h | h
    · exact h
    · exact absurd h hC
  exact nz ⟨w _ _ e0 z0, w _ _ e1 z1, w _ _ e2 z2⟩
set_option Elab.async true in
/-- two rows' sums: the rule of Cramer -/
theorem cramer {a0 a1 a2 a3 b0 b1 b2 b3 c0 c1 c2 c3 X Y Z W : Int} (ha : a0 * X + a1 * Y + a2 * Z + a3 * W = 0) (hb : b0 * X + b1 * Y + b2 * Z + b3 * W = 0) (hc : c0 * X + c1 * Y + c2 * Z + c3 * W = 0) :
    (a0 * (b1 * c2 - b2 * c1) + a1 * (b2 * c0 - b0 * c2) + a2 * (b0 * c1 - b1 * c0)) * X = (-(a3 * (b1 * c2 - b2 * c1) + b3 * (c1 * a2 - c2 * a1) + c3 * (a1 * b2 - a2 * b1))) * W ∧
    (a0 * (b1 * c2 - b2 * c1) + a1 * (b2 * c0 - b0 * c2) + a2 * (b0 * c1 - b1 * c0)) * Y = (-(a3 * (b2 * c0 - b0 * c2) + b3 * (c2 * a0 - c0 * a2) + c3 * (a2 * b0 - a0 * b2))) * W ∧
    (a0 * (b1 * c2 - b2 * c1) + a1 * (b2 * c0 - b0 * c2) + a2 * (b0 * c1 - b1 * c0)) * Z = (-(a3 * (b0 * c1 - b1 * c0) + b3 * (c0 * a1 - c1 * a0) + c3 * (a0 * b1 - a1 * b0))) * W := by
  refine ⟨?_, ?_, ?_⟩ <;> grind
in #guard_msgs in universe u_z
end My
namespace My
open PySem L2
theorem Fr.lst {K : PySem.W.Frag} {H H' : Hp} {s a : Addr} {xs : List V} (e : Fr s H H') (st : St K H s) (h : H a = some (.lst xs)) (hx : (xs.length == 7) = false) : H' a = some (.lst xs) := by
  obtain ⟨l, ns, i1, i2, i3, i4, i5, i6, st⟩ := st
  refine e.keep _ _ (fun q => ?_) h
  rw [q, st.at_] at h
  cases h
  cases hx
theorem Same.lst {H H' : Hp} {a : Addr} {xs : List V} (e : Same H H') (h : H a = some (.lst xs)) : H' a = some (.lst xs) := e _ _ h
section
variable {K : PySem.W.Frag} {H H0 : Hp} {s l : Addr} {xs ys : List V} {y v : V}
/-- a list of the def's own changes: H0 is the heap ahead of its making -/
theorem r_setM {Q : Hp → Prop} {k : Int} {j : Nat} (nl : H0 l = none) (st0 : St K H0 s) (e : Fr s H0 H) (st : St K H s) (h : H l = some (.lst xs)) (ix : ixN xs.length k = some j) (ey : xs.set j v = ys)
    (q : ∀ H1, Fr s H0 H1 → St K H1 s → H1 l = some (.lst ys) → Q H1) : rSetL (.ref l) (.int k) v H Q :=
  r_setL h ix ey (q _ (Fr.mut e nl st0.some) (St.mut st0 e st nl) upd_same)
theorem r_setP {Q : Hp → Prop} {k : Int} {j : Nat} (nl : H0 l = none) (e : Same H0 H) (h : H l = some (.lst xs)) (ix : ixN xs.length k = some j) (ey : xs.set j v = ys)
    (q : ∀ H1, Same H0 H1 → H1 l = some (.lst ys) → Q H1) : rSetL (.ref l) (.int k) v H Q :=
  r_setL h ix ey (q _ (Same.mut e nl) upd_same)
theorem r_appM {Q : VK} (nl : H0 l = none) (st0 : St K H0 s) (e : Fr s H0 H) (st : St K H s) (h : H l = some (.lst xs)) (hz : xs.length < 100000)
    (q : ∀ H1, Fr s H0 H1 → St K H1 s → H1 l = some (.lst (xs ++ [y])) → Q .non H1) : rAppend (.ref l) [y] H Q :=
  r_app h hz (q _ (Fr.mut e nl st0.some) (St.mut st0 e st nl) upd_same)
theorem r_appP {Q : VK} (nl : H0 l = none) (e : Same H0 H) (h : H l = some (.lst xs)) (hz : xs.length < 100000)
    (q : ∀ H1, Same H0 H1 → H1 l = some (.lst (xs ++ [y])) → Q .non H1) : rAppend (.ref l) [y] H Q := r_app h hz (q _ (Same.mut e nl) upd_same)
end
end My
theorem My.perm_erase {α : Type} : ∀ {L : List α} {k : Nat} {y : α}, L[k]? = some y → (y :: L.eraseIdx k).Perm L
  | [], k, y, h => by simp at h
  | a :: r, 0, y, h => by
    have e : a = y := by simpa using h
    subst e
    exact List.Perm.refl _
  | a :: r, k + 1, y, h => by
    have ih := My.perm_erase (L := r) (k := k) (y := y) (by simpa using h)
    exact (List.Perm.swap a y _).trans (List.Perm.cons a ih)
namespace My
open PySem L2
/-- a plane's tuple; one whose value is zero at a point -/
def PlV (K : PySem.W.Frag) (H : Hp) (x : V) : Prop := ∃ a p0 p1 p2 p3, x = .ref a ∧ SqT K H a [.int p0, .int p1, .int p2, .int p3] ∧ B 1300 p0 ∧ B 1300 p1 ∧ B 1300 p2 ∧ B 1300 p3
def PlZ (K : PySem.W.Frag) (n0 d0 n1 d1 n2 d2 : Int) (H : Hp) (x : V) : Prop := ∃ a p0 p1 p2 p3, x = .ref a ∧ SqT K H a [.int p0, .int p1, .int p2, .int p3] ∧ B 1300 p0 ∧ B 1300 p1 ∧ B 1300 p2 ∧ B 1300 p3 ∧
  p0 * n0 * d1 * d2 + p1 * n1 * d0 * d2 + p2 * n2 * d0 * d1 + p3 * (d0 * d1 * d2) = 0
theorem PlV.tk {K : PySem.W.Frag} {H H' : Hp} {x : V} (e : TK K H H') (h : PlV K H x) : PlV K H' x := by
  obtain ⟨a, p0, p1, p2, p3, rfl, h, r⟩ := h
  exact ⟨a, p0, p1, p2, p3, rfl, e _ _ h, r⟩
theorem PlZ.tk {K : PySem.W.Frag} {H H' : Hp} {x : V} {n0 d0 n1 d1 n2 d2 : Int} (e : TK K H H') (h : PlZ K n0 d0 n1 d1 n2 d2 H x) : PlZ K n0 d0 n1 d1 n2 d2 H' x := by
  obtain ⟨a, p0, p1, p2, p3, rfl, h, r⟩ := h
  exact ⟨a, p0, p1, p2, p3, rfl, e _ _ h, r⟩
theorem PlZ.v {K : PySem.W.Frag} {H : Hp} {x : V} {n0 d0 n1 d1 n2 d2 : Int} (h : PlZ K n0 d0 n1 d1 n2 d2 H x) : PlV K H x := by
  obtain ⟨a, p0, p1, p2, p3, rfl, h, b0, b1, b2, b3, _⟩ := h
  exact ⟨a, p0, p1, p2, p3, rfl, h, b0, b1, b2, b3⟩
/-- all items of a list -/
def AllV (P : Hp → V → Prop) (acc : List V) (H : Hp) : Prop := ∀ x ∈ acc, P H x
theorem AllV.nil {P : Hp → V → Prop} {H : Hp} : AllV P [] H := fun _ h => by cases h
theorem AllV.snoc {P : Hp → V → Prop} {H : Hp} {acc : List V} {y : V} (h : AllV P acc H) (p : P H y) : AllV P (acc ++ [y]) H := fun x hx => by
  rcases List.mem_append.mp hx with q | q
  · exact h x q
  · rw [List.mem_singleton.mp q]
    exact p
theorem AllV.tk {K : PySem.W.Frag} {P : Hp → V → Prop} (hP : ∀ H H' x, TK K H H' → P H x → P H' x) {H H' : Hp} {acc : List V} (e : TK K H H') (h : AllV P acc H) : AllV P acc H' := fun x hx => hP _ _ _ e (h x hx)
theorem AllV.perm {P : Hp → V → Prop} {H : Hp} {xs ys : List V} (p : ys.Perm xs) (h : AllV P xs H) : AllV P ys H := fun x hx => h x (p.subset hx)
/-- a chain of heaps leaves the tuples -/
theorem red_same {t b t' b' n d n' d' : Int} (r : Red t b n d) (r' : Red t' b' n' d') (hb : b ≠ 0) (hb' : b' ≠ 0) (e : t * b' = t' * b) : n = n' ∧ d = d' := by
  refine red_uniq r.pos r'.pos r.cop r'.cop ?_
  have h1 := r.eq
  have h2 := r'.eq
  have h3 : (b * b') * (n * d' - n' * d) = 0 := by grind
  rcases Int.mul_eq_zero.1 h3 with h | h
  · rcases Int.mul_eq_zero.1 h with q | q
    · exact absurd q hb
    · exact absurd q hb'
  · omega
end My
namespace My
set_option Elab.async true in
theorem met_on {D t0 t1 t2 a0 a1 a2 a3 n0 d0 n1 d1 n2 d2 : Int} (h : a0 * t0 + a1 * t1 + a2 * t2 + a3 * D = 0) (hD : D ≠ 0) (r0 : Red t0 D n0 d0) (r1 : Red t1 D n1 d1) (r2 : Red t2 D n2 d2) :
    a0 * n0 * d1 * d2 + a1 * n1 * d0 * d2 + a2 * n2 * d0 * d1 + a3 * (d0 * d1 * d2) = 0 := by
  have e0 := r0.eq
  have e1 := r1.eq
  have e2 := r2.eq
  have q : D * (a0 * n0 * d1 * d2 + a1 * n1 * d0 * d2 + a2 * n2 * d0 * d1 + a3 * (d0 * d1 * d2)) = 0 := by grind
  rcases Int.mul_eq_zero.1 q with z | z
  · exact absurd z hD
  · exact z
in #guard_msgs in universe u_z
set_option Elab.async true in
theorem met_pt {D t n d m e u : Int} (hc : D * (m * u) = t * (e * u)) (hu : 0 < u) (hD : D ≠ 0) (r : Red t D n d) (he : 0 < e) (c : Nat.gcd m.natAbs e.natAbs = 1) : n = m ∧ d = e := by
  have e0 := r.eq
  have h1 : u * (D * m - t * e) = 0 := by grind
  have h2 : D * m - t * e = 0 := by
    rcases Int.mul_eq_zero.1 h1 with z | z
    · omega
    · exact z
  refine red_uniq r.pos he r.cop c ?_
  have h3 : D * (n * e - m * d) = 0 := by grind
  rcases Int.mul_eq_zero.1 h3 with z | z
  · exact absurd z hD
  · omega
in #guard_msgs in universe u_z
set_option Elab.async true in
theorem met_all {a0 a1 a2 a3 b0 b1 b2 b3 c0 c1 c2 c3 n0 d0 n1 d1 n2 d2 m0 e0 m1 e1 m2 e2 : Int}
    (za : a0 * m0 * e1 * e2 + a1 * m1 * e0 * e2 + a2 * m2 * e0 * e1 + a3 * (e0 * e1 * e2) = 0) (zb : b0 * m0 * e1 * e2 + b1 * m1 * e0 * e2 + b2 * m2 * e0 * e1 + b3 * (e0 * e1 * e2) = 0) (zc : c0 * m0 * e1 * e2 + c1 * m1 * e0 * e2 + c2 * m2 * e0 * e1 + c3 * (e0 * e1 * e2) = 0)
    (hD : (a0 * (b1 * c2 - b2 * c1) + a1 * (b2 * c0 - b0 * c2) + a2 * (b0 * c1 - b1 * c0)) ≠ 0)
    (r0 : Red (-(a3 * (b1 * c2 - b2 * c1) + b3 * (c1 * a2 - c2 * a1) + c3 * (a1 * b2 - a2 * b1))) (a0 * (b1 * c2 - b2 * c1) + a1 * (b2 * c0 - b0 * c2) + a2 * (b0 * c1 - b1 * c0)) n0 d0)
    (r1 : Red (-(a3 * (b2 * c0 - b0 * c2) + b3 * (c2 * a0 - c0 * a2) + c3 * (a2 * b0 - a0 * b2))) (a0 * (b1 * c2 - b2 * c1) + a1 * (b2 * c0 - b0 * c2) + a2 * (b0 * c1 - b1 * c0)) n1 d1)
    (r2 : Red (-(a3 * (b0 * c1 - b1 * c0) + b3 * (c0 * a1 - c1 * a0) + c3 * (a0 * b1 - a1 * b0))) (a0 * (b1 * c2 - b2 * c1) + a1 * (b2 * c0 - b0 * c2) + a2 * (b0 * c1 - b1 * c0)) n2 d2)
    (q0 : Rt 6 m0 e0) (q1 : Rt 6 m1 e1) (q2 : Rt 6 m2 e2) : n0 = m0 ∧ d0 = e0 ∧ n1 = m1 ∧ d1 = e1 ∧ n2 = m2 ∧ d2 = e2 := by
  obtain ⟨h0, h1, h2⟩ := cramer (X := m0 * (e1 * e2)) (Y := m1 * (e0 * e2)) (Z := m2 * (e0 * e1)) (W := e0 * (e1 * e2)) (a0 := a0) (a1 := a1) (a2 := a2) (a3 := a3) (b0 := b0) (b1 := b1) (b2 := b2) (b3 := b3) (c0 := c0) (c1 := c1) (c2 := c2) (c3 := c3) (by grind) (by grind) (by grind)
  rw [show e0 * (e1 * e2) = e1 * (e0 * e2) by grind] at h1
  rw [show e0 * (e1 * e2) = e2 * (e0 * e1) by grind] at h2
  obtain ⟨x1, x2⟩ := met_pt h0 (Int.mul_pos q1.pos q2.pos) hD r0 q0.pos q0.cop
  obtain ⟨x3, x4⟩ := met_pt h1 (Int.mul_pos q0.pos q2.pos) hD r1 q1.pos q1.cop
  obtain ⟨x5, x6⟩ := met_pt h2 (Int.mul_pos q0.pos q1.pos) hD r2 q2.pos q2.cop
  exact ⟨x1, x2, x3, x4, x5, x6⟩
in #guard_msgs in universe u_z
end My
namespace My
open PySem L2
theorem pm_abc (a0 a1 a2 a3 b0 b1 b2 b3 c0 c1 c2 c3 : Int) : (a0 * (b1 * c2 - b2 * c1) + a1 * (b2 * c0 - b0 * c2) + a2 * (b0 * c1 - b1 * c0)) = (a0 * (b1 * c2 - b2 * c1) + a1 * (b2 * c0 - b0 * c2) + a2 * (b0 * c1 - b1 * c0)) ∧ (-(a3 * (b1 * c2 - b2 * c1) + b3 * (c1 * a2 - c2 * a1) + c3 * (a1 * b2 - a2 * b1))) = (-(a3 * (b1 * c2 - b2 * c1) + b3 * (c1 * a2 - c2 * a1) + c3 * (a1 * b2 - a2 * b1))) ∧ (-(a3 * (b2 * c0 - b0 * c2) + b3 * (c2 * a0 - c0 * a2) + c3 * (a2 * b0 - a0 * b2))) = (-(a3 * (b2 * c0 - b0 * c2) + b3 * (c2 * a0 - c0 * a2) + c3 * (a2 * b0 - a0 * b2))) ∧ (-(a3 * (b0 * c1 - b1 * c0) + b3 * (c0 * a1 - c1 * a0) + c3 * (a0 * b1 - a1 * b0))) = (-(a3 * (b0 * c1 - b1 * c0) + b3 * (c0 * a1 - c1 * a0) + c3 * (a0 * b1 - a1 * b0))) := by
  refine ⟨?_, ?_, ?_, ?_⟩ <;> grind
theorem pm_acb (a0 a1 a2 a3 b0 b1 b2 b3 c0 c1 c2 c3 : Int) : (a0 * (c1 * b2 - c2 * b1) + a1 * (c2 * b0 - c0 * b2) + a2 * (c0 * b1 - c1 * b0)) = -(a0 * (b1 * c2 - b2 * c1) + a1 * (b2 * c0 - b0 * c2) + a2 * (b0 * c1 - b1 * c0)) ∧ (-(a3 * (c1 * b2 - c2 * b1) + c3 * (b1 * a2 - b2 * a1) + b3 * (a1 * c2 - a2 * c1))) = -(-(a3 * (b1 * c2 - b2 * c1) + b3 * (c1 * a2 - c2 * a1) + c3 * (a1 * b2 - a2 * b1))) ∧ (-(a3 * (c2 * b0 - c0 * b2) + c3 * (b2 * a0 - b0 * a2) + b3 * (a2 * c0 - a0 * c2))) = -(-(a3 * (b2 * c0 - b0 * c2) + b3 * (c2 * a0 - c0 * a2) + c3 * (a2 * b0 - a0 * b2))) ∧ (-(a3 * (c0 * b1 - c1 * b0) + c3 * (b0 * a1 - b1 * a0) + b3 * (a0 * c1 - a1 * c0))) = -(-(a3 * (b0 * c1 - b1 * c0) + b3 * (c0 * a1 - c1 * a0) + c3 * (a0 * b1 - a1 * b0))) := by
  refine ⟨?_, ?_, ?_, ?_⟩ <;> grind
theorem pm_bac (a0 a1 a2 a3 b0 b1 b2 b3 c0 c1 c2 c3 : Int) : (b0 * (a1 * c2 - a2 * c1) + b1 * (a2 * c0 - a0 * c2) + b2 * (a0 * c1 - a1 * c0)) = -(a0 * (b1 * c2 - b2 * c1) + a1 * (b2 * c0 - b0 * c2) + a2 * (b0 * c1 - b1 * c0)) ∧ (-(b3 * (a1 * c2 - a2 * c1) + a3 * (c1 * b2 - c2 * b1) + c3 * (b1 * a2 - b2 * a1))) = -(-(a3 * (b1 * c2 - b2 * c1) + b3 * (c1 * a2 - c2 * a1) + c3 * (a1 * b2 - a2 * b1))) ∧ (-(b3 * (a2 * c0 - a0 * c2) + a3 * (c2 * b0 - c0 * b2) + c3 * (b2 * a0 - b0 * a2))) = -(-(a3 * (b2 * c0 - b0 * c2) + b3 * (c2 * a0 - c0 * a2) + c3 * (a2 * b0 - a0 * b2))) ∧ (-(b3 * (a0 * c1 - a1 * c0) + a3 * (c0 * b1 - c1 * b0) + c3 * (b0 * a1 - b1 * a0))) = -(-(a3 * (b0 * c1 - b1 * c0) + b3 * (c0 * a1 - c1 * a0) + c3 * (a0 * b1 - a1 * b0))) := by
  refine ⟨?_, ?_, ?_, ?_⟩ <;> grind
theorem pm_bca (a0 a1 a2 a3 b0 b1 b2 b3 c0 c1 c2 c3 : Int) : (b0 * (c1 * a2 - c2 * a1) + b1 * (c2 * a0 - c0 * a2) + b2 * (c0 * a1 - c1 * a0)) = (a0 * (b1 * c2 - b2 * c1) + a1 * (b2 * c0 - b0 * c2) + a2 * (b0 * c1 - b1 * c0)) ∧ (-(b3 * (c1 * a2 - c2 * a1) + c3 * (a1 * b2 - a2 * b1) + a3 * (b1 * c2 - b2 * c1))) = (-(a3 * (b1 * c2 - b2 * c1) + b3 * (c1 * a2 - c2 * a1) + c3 * (a1 * b2 - a2 * b1))) ∧ (-(b3 * (c2 * a0 - c0 * a2) + c3 * (a2 * b0 - a0 * b2) + a3 * (b2 * c0 - b0 * c2))) = (-(a3 * (b2 * c0 - b0 * c2) + b3 * (c2 * a0 - c0 * a2) + c3 * (a2 * b0 - a0 * b2))) ∧ (-(b3 * (c0 * a1 - c1 * a0) + c3 * (a0 * b1 - a1 * b0) + a3 * (b0 * c1 - b1 * c0))) = (-(a3 * (b0 * c1 - b1 * c0) + b3 * (c0 * a1 - c1 * a0) + c3 * (a0 * b1 - a1 * b0))) := by
  refine ⟨?_, ?_, ?_, ?_⟩ <;> grind
theorem pm_cab (a0 a1 a2 a3 b0 b1 b2 b3 c0 c1 c2 c3 : Int) : (c0 * (a1 * b2 - a2 * b1) + c1 * (a2 * b0 - a0 * b2) + c2 * (a0 * b1 - a1 * b0)) = (a0 * (b1 * c2 - b2 * c1) + a1 * (b2 * c0 - b0 * c2) + a2 * (b0 * c1 - b1 * c0)) ∧ (-(c3 * (a1 * b2 - a2 * b1) + a3 * (b1 * c2 - b2 * c1) + b3 * (c1 * a2 - c2 * a1))) = (-(a3 * (b1 * c2 - b2 * c1) + b3 * (c1 * a2 - c2 * a1) + c3 * (a1 * b2 - a2 * b1))) ∧ (-(c3 * (a2 * b0 - a0 * b2) + a3 * (b2 * c0 - b0 * c2) + b3 * (c2 * a0 - c0 * a2))) = (-(a3 * (b2 * c0 - b0 * c2) + b3 * (c2 * a0 - c0 * a2) + c3 * (a2 * b0 - a0 * b2))) ∧ (-(c3 * (a0 * b1 - a1 * b0) + a3 * (b0 * c1 - b1 * c0) + b3 * (c0 * a1 - c1 * a0))) = (-(a3 * (b0 * c1 - b1 * c0) + b3 * (c0 * a1 - c1 * a0) + c3 * (a0 * b1 - a1 * b0))) := by
  refine ⟨?_, ?_, ?_, ?_⟩ <;> grind
theorem pm_cba (a0 a1 a2 a3 b0 b1 b2 b3 c0 c1 c2 c3 : Int) : (c0 * (b1 * a2 - b2 * a1) + c1 * (b2 * a0 - b0 * a2) + c2 * (b0 * a1 - b1 * a0)) = -(a0 * (b1 * c2 - b2 * c1) + a1 * (b2 * c0 - b0 * c2) + a2 * (b0 * c1 - b1 * c0)) ∧ (-(c3 * (b1 * a2 - b2 * a1) + b3 * (a1 * c2 - a2 * c1) + a3 * (c1 * b2 - c2 * b1))) = -(-(a3 * (b1 * c2 - b2 * c1) + b3 * (c1 * a2 - c2 * a1) + c3 * (a1 * b2 - a2 * b1))) ∧ (-(c3 * (b2 * a0 - b0 * a2) + b3 * (a2 * c0 - a0 * c2) + a3 * (c2 * b0 - c0 * b2))) = -(-(a3 * (b2 * c0 - b0 * c2) + b3 * (c2 * a0 - c0 * a2) + c3 * (a2 * b0 - a0 * b2))) ∧ (-(c3 * (b0 * a1 - b1 * a0) + b3 * (a0 * c1 - a1 * c0) + a3 * (c0 * b1 - c1 * b0))) = -(-(a3 * (b0 * c1 - b1 * c0) + b3 * (c0 * a1 - c1 * a0) + c3 * (a0 * b1 - a1 * b0))) := by
  refine ⟨?_, ?_, ?_, ?_⟩ <;> grind
theorem det_rep1 {x0 x1 x2 y0 y1 y2 : Int} : (x0 * (x1 * y2 - x2 * y1) + x1 * (x2 * y0 - x0 * y2) + x2 * (x0 * y1 - x1 * y0)) = 0 := by grind
theorem det_rep2 {x0 x1 x2 y0 y1 y2 : Int} : (y0 * (x1 * x2 - x2 * x1) + y1 * (x2 * x0 - x0 * x2) + y2 * (x0 * x1 - x1 * x0)) = 0 := by grind
theorem red_sgn {t b t' b' n d n' d' : Int} (r : Red t b n d) (r' : Red t' b' n' d') (hb : b ≠ 0) (e : (b' = b ∧ t' = t) ∨ (b' = -b ∧ t' = -t)) : n' = n ∧ d' = d := by
  have q := red_same r r' hb (by rcases e with ⟨e, _⟩ | ⟨e, _⟩ <;> omega) (by rcases e with ⟨rfl, rfl⟩ | ⟨rfl, rfl⟩ <;> grind)
  exact ⟨q.1.symm, q.2.symm⟩
mutual
theorem Dp.same {K : PySem.W.Frag} {H H' : Hp} (e : Same H H') : ∀ {v : V} {d : PyData}, Dp K H v d → Dp K H' v d
  | _, _, .non => .non
  | _, _, .bl b => .bl b
  | _, _, .int i => .int i
  | _, _, .str x => .str x
  | _, _, .lst h a => .lst (e.seq h) (DpAll.same e a)
  | _, _, .tup h a => .tup (Same.tup e h) (DpAll.same e a)
theorem DpAll.same {K : PySem.W.Frag} {H H' : Hp} (e : Same H H') : ∀ {vs : List V} {ds : List PyData}, DpAll K H vs ds → DpAll K H' vs ds
  | _, _, .nil => .nil
  | _, _, .cons h a => .cons (Dp.same e h) (DpAll.same e a)
end
/-- a value that is None, or a point on three planes -/
def PvP (K : PySem.W.Frag) (H : Hp) (xv : V) (a0 a1 a2 a3 b0 b1 b2 b3 c0 c1 c2 c3 : Int) : Prop := xv = .non ∨ ∃ v v0 v1 v2 m0 e0 m1 e1 m2 e2, xv = .ref v ∧ SqT K H v [.ref v0, .ref v1, .ref v2] ∧ SqT K H v0 [.int m0, .int e0] ∧ SqT K H v1 [.int m1, .int e1] ∧ SqT K H v2 [.int m2, .int e2] ∧ Rt 6 m0 e0 ∧ Rt 6 m1 e1 ∧ Rt 6 m2 e2 ∧ a0 * m0 * e1 * e2 + a1 * m1 * e0 * e2 + a2 * m2 * e0 * e1 + a3 * (e0 * e1 * e2) = 0 ∧ b0 * m0 * e1 * e2 + b1 * m1 * e0 * e2 + b2 * m2 * e0 * e1 + b3 * (e0 * e1 * e2) = 0 ∧ c0 * m0 * e1 * e2 + c1 * m1 * e0 * e2 + c2 * m2 * e0 * e1 + c3 * (e0 * e1 * e2) = 0
theorem PvP.same {K : PySem.W.Frag} {H H' : Hp} {xv : V} {a0 a1 a2 a3 b0 b1 b2 b3 c0 c1 c2 c3 : Int} (e : Same H H') (h : PvP K H xv a0 a1 a2 a3 b0 b1 b2 b3 c0 c1 c2 c3) : PvP K H' xv a0 a1 a2 a3 b0 b1 b2 b3 c0 c1 c2 c3 := by
  rcases h with rfl | ⟨v, v0, v1, v2, m0, e0, m1, e1, m2, e2, rfl, hv, hv0, hv1, hv2, q⟩
  · exact .inl rfl
  · exact .inr ⟨v, v0, v1, v2, m0, e0, m1, e1, m2, e2, rfl, Same.tup e hv, Same.tup e hv0, Same.tup e hv1, Same.tup e hv2, q⟩
theorem PvP.p12 {K : PySem.W.Frag} {H : Hp} {xv : V} {a0 a1 a2 a3 b0 b1 b2 b3 c0 c1 c2 c3 : Int} (h : PvP K H xv a0 a1 a2 a3 b0 b1 b2 b3 c0 c1 c2 c3) : PvP K H xv b0 b1 b2 b3 a0 a1 a2 a3 c0 c1 c2 c3 := by
  rcases h with rfl | ⟨v, v0, v1, v2, m0, e0, m1, e1, m2, e2, rfl, hv, hv0, hv1, hv2, q0, q1, q2, za, zb, zc⟩
  · exact .inl rfl
  · exact .inr ⟨v, v0, v1, v2, m0, e0, m1, e1, m2, e2, rfl, hv, hv0, hv1, hv2, q0, q1, q2, zb, za, zc⟩
theorem PvP.p23 {K : PySem.W.Frag} {H : Hp} {xv : V} {a0 a1 a2 a3 b0 b1 b2 b3 c0 c1 c2 c3 : Int} (h : PvP K H xv a0 a1 a2 a3 b0 b1 b2 b3 c0 c1 c2 c3) : PvP K H xv a0 a1 a2 a3 c0 c1 c2 c3 b0 b1 b2 b3 := by
  rcases h with rfl | ⟨v, v0, v1, v2, m0, e0, m1, e1, m2, e2, rfl, hv, hv0, hv1, hv2, q0, q1, q2, za, zb, zc⟩
  · exact .inl rfl
  · exact .inr ⟨v, v0, v1, v2, m0, e0, m1, e1, m2, e2, rfl, hv, hv0, hv1, hv2, q0, q1, q2, za, zc, zb⟩
/-- the first answer, as data -/
def FstD (D T0 T1 T2 : Int) (d : PyData) : Prop := (D = 0 ∧ d = .none) ∨ (D ≠ 0 ∧ ∃ k0 e0 k1 e1 k2 e2, d = .tuple [.tuple [.int k0, .int e0], .tuple [.int k1, .int e1], .tuple [.int k2, .int e2]] ∧ Red T0 D k0 e0 ∧ Red T1 D k1 e1 ∧ Red T2 D k2 e2)
theorem FstD.no {D T0 T1 T2 D' : Int} {d : PyData} (h : FstD D T0 T1 T2 d) (hs : D' = D ∨ D' = -D) (z : D' = 0) : PyData.eqv .none d = true := by
  rcases h with ⟨_, rfl⟩ | ⟨q, _⟩
  · simp [PyData.eqv]
  · omega
set_option Elab.async true in
theorem FstD.yes {D T0 T1 T2 D' T0' T1' T2' k0 e0 k1 e1 k2 e2 : Int} {d : PyData} (h : FstD D T0 T1 T2 d) (hs : (D' = D ∧ T0' = T0 ∧ T1' = T1 ∧ T2' = T2) ∨ (D' = -D ∧ T0' = -T0 ∧ T1' = -T1 ∧ T2' = -T2)) (z : D' ≠ 0)
    (r0 : Red T0' D' k0 e0) (r1 : Red T1' D' k1 e1) (r2 : Red T2' D' k2 e2) : PyData.eqv (.tuple [.tuple [.int k0, .int e0], .tuple [.int k1, .int e1], .tuple [.int k2, .int e2]]) d = true := by
  rcases h with ⟨q, _⟩ | ⟨q, j0, f0, j1, f1, j2, f2, rfl, s0, s1, s2⟩
  · omega
  · obtain ⟨rfl, rfl⟩ := red_sgn s0 r0 q (by rcases hs with ⟨a, b, c, d⟩ | ⟨a, b, c, d⟩ <;> simp [a, b])
    obtain ⟨rfl, rfl⟩ := red_sgn s1 r1 q (by rcases hs with ⟨a, b, c, d⟩ | ⟨a, b, c, d⟩ <;> simp [a, c])
    obtain ⟨rfl, rfl⟩ := red_sgn s2 r2 q (by rcases hs with ⟨a, b, c, d⟩ | ⟨a, b, c, d⟩ <;> simp [a, d])
    simp [eqv_T, eqv_C, eqv_N, eqv_I]
in #guard_msgs in universe u_z
end My
theorem My.B.nat {n k : Nat} (h : decide (n < 2 ^ k) = true) : My.B k (@OfNat.ofNat Int n _) := ⟨of_decide_eq_true (p := n < 2 ^ k) h⟩
namespace My
open PySem L2
/-- a def of the text as it stands behind the top, with or without defaults -/
structure FunA (K : PySem.W.Frag) (x qual : Str) (st : Stmt) (f : Addr) (fd : FuncData) : Prop where
  ex : ∃ (oc : Value) (od : Option Addr) (dV kV doc pm : Value) (an : Option Addr) (cdv ct : Value) (osl : Array (Option Value)),
    fd = PySem.W.fnOf x qual (defArgs st) (defBody st) (defScope st) dV kV doc pm an cdv ct ∧ K.lookup f = some ⟨oc, od, .func fd, osl⟩ ∧ PySem.W.codeIn K cdv qual = true
section
variable {P : Program} {w : World} {K : PySem.W.Frag} {mg : Str → Option Value} {base : Heap}
set_option Elab.async true in
theorem FunA.ok {x qual : Str} {st : Stmt} {f : Addr} {fd : FuncData} {N ps : List Str} {k : Nat} {sp : Sp} (F : FunA K x qual st f fd) (S : FnScope N ps (defScope st)) (len : ∀ vs H Q E, sp vs H Q E → vs.length = ps.length)
    (hbody : ∀ (cdv : Value) (A : Around) (outer : List Env) (s : Shared) (H : Hp) (vs : List V) (Q : VK) (E : XK), Room k (A.deeper (PyProof.Rows.envOfC qual (defScope st) s.heap.objs.size f cdv)) → sp vs H Q E →
      ∃ t, PSs (cxOf CX0 P w K mg base N qual (defScope st) f cdv A outer s H E).nox (defBody st) t ∧ t { nx := fun _ H' => Q .non H', rt := Q } (L2.start N vs) H) : FnOk P w K mg base CX0 (k + 1) f fd ps sp := by
  obtain ⟨oc, od, dV, kV, doc, pm, an, cdv, ct, osl, rfl, lk, hcd⟩ := F.ex
  refine fn_of lk hcd S len fun A outer s H vs Q E hr hsp => ?_
  obtain ⟨t, h, q⟩ := hbody cdv A outer s H vs Q E hr hsp
  exact ⟨t, h.nox, q⟩
in #guard_msgs in universe u_z
theorem funA_mk {x qual : Str} {st : Stmt} {f : Addr} {oc : Value} {od an : Option Addr} {osl : Array (Option Value)} {dV kV doc pm cdv ct : Value} (l : K.lookup f = some ⟨oc, od, .func (PySem.W.fnOf x qual (defArgs st) (defBody st) (defScope st) dV kV doc pm an cdv ct), osl⟩)
    (c : PySem.W.codeIn K cdv qual = true) : FunA K x qual st f (PySem.W.fnOf x qual (defArgs st) (defBody st) (defScope st) dV kV doc pm an cdv ct) := ⟨⟨oc, od, dV, kV, doc, pm, an, cdv, ct, osl, rfl, l, c⟩⟩
end
end My
theorem My.mul_nz {a b : Int} (ha : a ≠ 0) (hb : b ≠ 0) : a * b ≠ 0 := fun h => by
  rcases Int.mul_eq_zero.1 h with q | q
  · exact ha q
  · exact hb q
theorem My.Rt.le {a b : Nat} {n d : Int} (h : My.Rt a n d) (ab : a ≤ b) : My.Rt b n d := ⟨h.pos, h.cop, h.bn.le ab, h.bd.le ab⟩
namespace My
open PySem L2
/-! ratios as rational numbers -/
theorem ndd (q : Rat) : (q.num : Rat) / ((q.den : Int) : Rat) = q := by
  have h := Rat.num_divInt_den q
  rw [Rat.divInt_eq_div] at h
  exact h
theorem icz {d : Int} (h : d ≠ 0) : (d : Rat) ≠ 0 := fun q => h (by exact_mod_cast q)
theorem denI (q : Rat) : (q.den : Int) ≠ 0 := by
  have := q.den_pos
  omega
theorem denP (q : Rat) : 0 < (q.den : Int) := by
  have := q.den_pos
  omega
theorem num_of {n d : Int} {q : Rat} (hd : 0 < d) (c : Nat.gcd n.natAbs d.natAbs = 1) (e : (n : Rat) / (d : Rat) = q) : n = q.num ∧ d = (q.den : Int) := by
  have h1 := ndd q
  have h3 := icz (denI q)
  have h4 : (d : Rat) ≠ 0 := icz (by omega)
  refine red_uniq hd (denP q) c q.reduced ?_
  generalize (q.den : Int) = dd at *
  have h5 : (n : Rat) * (dd : Rat) = (q.num : Rat) * (d : Rat) := by grind
  exact_mod_cast h5
theorem red_q {t b n d : Int} (hb : b ≠ 0) (r : Red t b n d) : n = ((t : Rat) / b).num ∧ d = (((t : Rat) / b).den : Int) := by
  refine num_of r.pos r.cop ?_
  have h1 := icz hb
  have h2 := icz (Int.ne_of_gt r.pos)
  have h3 : (n : Rat) * (b : Rat) = (t : Rat) * d := by exact_mod_cast r.eq
  grind
theorem add_g {a b c d : Int} (hb : b ≠ 0) (hd : d ≠ 0) : ((a * d + c * b : Int) : Rat) / ((b * d : Int) : Rat) = (a : Rat) / b + (c : Rat) / d := by
  have h1 := icz hb
  have h2 := icz hd
  rw [Rat.intCast_add, Rat.intCast_mul, Rat.intCast_mul, Rat.intCast_mul]
  grind
theorem sub_g {a b c d : Int} (hb : b ≠ 0) (hd : d ≠ 0) : ((a * d - c * b : Int) : Rat) / ((b * d : Int) : Rat) = (a : Rat) / b - (c : Rat) / d := by
  have h1 := icz hb
  have h2 := icz hd
  rw [Rat.intCast_sub, Rat.intCast_mul, Rat.intCast_mul, Rat.intCast_mul]
  grind
theorem mul_g {a b c d : Int} (hb : b ≠ 0) (hd : d ≠ 0) : ((a * c : Int) : Rat) / ((b * d : Int) : Rat) = (a : Rat) / b * ((c : Rat) / d) := by
  have h1 := icz hb
  have h2 := icz hd
  rw [Rat.intCast_mul, Rat.intCast_mul]
  grind
theorem div_g {a b c d : Int} (hb : b ≠ 0) (hc : c ≠ 0) (hd : d ≠ 0) : ((a * d : Int) : Rat) / ((b * c : Int) : Rat) = (a : Rat) / b / ((c : Rat) / d) := by
  have h1 := icz hb
  have h2 := icz hd
  have h3 := icz hc
  rw [Rat.intCast_mul, Rat.intCast_mul]
  grind
theorem add_q (p q : Rat) : ((p.num * (q.den : Int) + q.num * (p.den : Int) : Int) : Rat) / (((p.den : Int) * (q.den : Int) : Int) : Rat) = p + q := by
  rw [add_g (denI p) (denI q), ndd, ndd]
theorem sub_q (p q : Rat) : ((p.num * (q.den : Int) - q.num * (p.den : Int) : Int) : Rat) / (((p.den : Int) * (q.den : Int) : Int) : Rat) = p - q := by
  rw [sub_g (denI p) (denI q), ndd, ndd]
theorem mul_q (p q : Rat) : ((p.num * q.num : Int) : Rat) / (((p.den : Int) * (q.den : Int) : Int) : Rat) = p * q := by
  rw [mul_g (denI p) (denI q), ndd, ndd]
theorem numz {q : Rat} (h : q ≠ 0) : q.num ≠ 0 := fun e => h (Rat.num_eq_zero.1 e)
theorem div_q (p q : Rat) (h : q ≠ 0) : ((p.num * (q.den : Int) : Int) : Rat) / (((p.den : Int) * q.num : Int) : Rat) = p / q := by
  rw [div_g (denI p) (numz h) (denI q), ndd, ndd]
/-- both parts of k bits -/
structure BQ (k : Nat) (q : Rat) : Prop where
  n : B k q.num
  d : B k (q.den : Int)
theorem BQ.le {a b : Nat} {q : Rat} (h : BQ a q) (ab : a ≤ b) : BQ b q := ⟨h.n.le ab, h.d.le ab⟩
theorem BQ.dv {k : Nat} {t b : Int} (hb : b ≠ 0) (h1 : B k t) (h2 : B k b) : BQ k ((t : Rat) / b) := by
  have r : ∃ n d, Red t b n d := by
    rcases Int.lt_or_gt_of_ne hb with h | h
    · exact ⟨_, _, red_of hb (fun q => absurd q (by omega)) (fun _ => rfl)⟩
    · exact ⟨_, _, red_of hb (fun _ => rfl) (fun q => absurd q (by omega))⟩
  obtain ⟨n, d, r⟩ := r
  obtain ⟨e1, e2⟩ := red_q hb r
  refine ⟨?_, ?_⟩
  · rw [← e1]; exact B.redn r h1
  · rw [← e2]; exact B.redd r h2
theorem mul0 {a b : Int} (ha : a ≠ 0) (hb : b ≠ 0) : a * b ≠ 0 := fun h => by
  rcases Int.mul_eq_zero.1 h with q | q
  · exact ha q
  · exact hb q
theorem BQ.add {a b : Nat} {p q : Rat} (hp : BQ a p) (hq : BQ b q) : BQ (a + b + 1) (p + q) := by
  rw [← add_q p q]
  exact BQ.dv (mul0 (denI p) (denI q)) ((B.add (B.mul hp.n hq.d) (B.mul hq.n hp.d)).le (by omega)) ((B.mul hp.d hq.d).le (by omega))
theorem BQ.sub {a b : Nat} {p q : Rat} (hp : BQ a p) (hq : BQ b q) : BQ (a + b + 1) (p - q) := by
  rw [← sub_q p q]
  exact BQ.dv (mul0 (denI p) (denI q)) ((B.sub (B.mul hp.n hq.d) (B.mul hq.n hp.d)).le (by omega)) ((B.mul hp.d hq.d).le (by omega))
theorem BQ.mul {a b : Nat} {p q : Rat} (hp : BQ a p) (hq : BQ b q) : BQ (a + b) (p * q) := by
  rw [← mul_q p q]
  exact BQ.dv (mul0 (denI p) (denI q)) (B.mul hp.n hq.n) (B.mul hp.d hq.d)
theorem BQ.div {a b : Nat} {p q : Rat} (hp : BQ a p) (hq : BQ b q) (h : q ≠ 0) : BQ (a + b) (p / q) := by
  rw [← div_q p q h]
  exact BQ.dv (mul0 (denI p) (numz h)) (B.mul hp.n hq.d) (B.mul hp.d hq.n)
theorem BQ.neg {a : Nat} {p : Rat} (hp : BQ a p) : BQ a (-p) := by
  refine ⟨?_, ?_⟩
  · rw [Rat.neg_num]; exact hp.n.neg
  · rw [Rat.neg_den]; exact hp.d
/-- a ratio that is drawn is a rational number -/
theorem rt_q {k : Nat} {n d : Int} (r : Rt k n d) : ∃ q : Rat, n = q.num ∧ d = (q.den : Int) ∧ BQ k q := by
  obtain ⟨e1, e2⟩ := num_of (q := (n : Rat) / d) r.pos r.cop rfl
  exact ⟨_, e1, e2, e1 ▸ r.bn, e2 ▸ r.bd⟩
theorem num_inj {p q : Rat} (h1 : p.num = q.num) (h2 : (p.den : Int) = (q.den : Int)) : p = q := by
  have e1 := ndd p
  have e2 := ndd q
  rw [← e1, ← e2, h1, h2]
theorem num_pos {q : Rat} : 0 < q.num ↔ 0 < q := by
  have h1 := @Rat.num_nonneg q
  have h2 := @Rat.num_eq_zero q
  grind
theorem num_neg {q : Rat} : q.num < 0 ↔ q < 0 := by
  have h1 := @Rat.num_nonneg q
  have h2 := @Rat.num_eq_zero q
  grind
theorem eqv_Q (p q : Rat) : PyData.eqv (.tuple [.int p.num, .int (p.den : Int)]) (.tuple [.int q.num, .int (q.den : Int)]) = decide (p = q) := by
  rw [eqv_T, eqv_C, eqv_C, eqv_N, eqv_I, eqv_I]
  by_cases h : p = q
  · subst h
    simp
  · rw [decide_eq_false h]
    rw [Bool.eq_false_iff]
    intro z
    simp at z
    exact h (num_inj z.1 (by have := z.2; omega))
end My
namespace My
open PySem L2
theorem numI (z : Int) : (z : Rat).num = z := by simp
theorem denII (z : Int) : (((z : Rat).den : Nat) : Int) = 1 := by simp
theorem SqT.ofInt {K : PySem.W.Frag} {H : Hp} {p : Addr} {z : Int} (h : SqT K H p [.int z, .int 1]) : SqT K H p [.int (z : Rat).num, .int ((z : Rat).den : Int)] := by
  rw [numI, denII]
  exact h
theorem BQ.ofInt {k : Nat} {z : Int} (h : B k z) (hk : 1 ≤ k) : BQ k (z : Rat) := ⟨by rw [numI]; exact h, by rw [denII]; exact (B.lit (k := 1) (by decide)).le hk⟩
theorem gcdQ (q : Rat) : Nat.gcd q.num.natAbs (q.den : Int).natAbs = 1 := q.reduced
end My
namespace My
open PySem L2
theorem w_chain {σ : L2.St} {H : Hp} {Q : VK} {r r' : R2} {ta tb tc : TE} (h : ta σ H fun x H1 => tb σ H1 fun y H2 => r x y H2 fun z H3 => ∃ k, z = .bl k ∧ (if k = true then tc σ H3 fun w' H4 => r' y w' H4 Q else Q (.bl false) H3)) : tChain r r' ta tb tc σ H Q := h
end My
namespace My
/-- r lies strictly between p and q -/
def SB (p0 p1 p2 q0 q1 q2 r0 r1 r2 : Rat) : Prop := ¬ (q0 - p0 = 0 ∧ q1 - p1 = 0 ∧ q2 - p2 = 0) ∧ ∃ t : Rat, 0 < t ∧ t < 1 ∧ r0 = p0 + t * (q0 - p0) ∧ r1 = p1 + t * (q1 - p1) ∧ r2 = p2 + t * (q2 - p2)
end My
namespace My
open PySem L2
theorem lt1 {t : Rat} : t.num < (t.den : Int) ↔ t < 1 := by
  rw [Rat.lt_iff]
  simp
set_option Elab.async true in
theorem SB.i0 {p0 p1 p2 q0 q1 q2 r0 r1 r2 : Rat} (h : q0 - p0 ≠ 0) : SB p0 p1 p2 q0 q1 q2 r0 r1 r2 ↔ (0 < (r0 - p0) / (q0 - p0) ∧ (r0 - p0) / (q0 - p0) < 1 ∧ (p0 + (r0 - p0) / (q0 - p0) * (q0 - p0) = r0 ∧ p1 + (r0 - p0) / (q0 - p0) * (q1 - p1) = r1 ∧ p2 + (r0 - p0) / (q0 - p0) * (q2 - p2) = r2)) := by
  constructor
  · rintro ⟨_, t, h0, h1, e0, e1, e2⟩
    have et : (r0 - p0) / (q0 - p0) = t := by grind
    rw [et]
    exact ⟨h0, h1, e0.symm, e1.symm, e2.symm⟩
  · rintro ⟨h0, h1, e0, e1, e2⟩
    exact ⟨fun z => h z.1, _, h0, h1, e0.symm, e1.symm, e2.symm⟩
in #guard_msgs in universe u_z
set_option Elab.async true in
theorem SB.i1 {p0 p1 p2 q0 q1 q2 r0 r1 r2 : Rat} (h : q1 - p1 ≠ 0) : SB p0 p1 p2 q0 q1 q2 r0 r1 r2 ↔ (0 < (r1 - p1) / (q1 - p1) ∧ (r1 - p1) / (q1 - p1) < 1 ∧ (p0 + (r1 - p1) / (q1 - p1) * (q0 - p0) = r0 ∧ p1 + (r1 - p1) / (q1 - p1) * (q1 - p1) = r1 ∧ p2 + (r1 - p1) / (q1 - p1) * (q2 - p2) = r2)) := by
  constructor
  · rintro ⟨_, t, h0, h1, e0, e1, e2⟩
    have et : (r1 - p1) / (q1 - p1) = t := by grind
    rw [et]
    exact ⟨h0, h1, e0.symm, e1.symm, e2.symm⟩
  · rintro ⟨h0, h1, e0, e1, e2⟩
    exact ⟨fun z => h z.2.1, _, h0, h1, e0.symm, e1.symm, e2.symm⟩
in #guard_msgs in universe u_z
set_option Elab.async true in
theorem SB.i2 {p0 p1 p2 q0 q1 q2 r0 r1 r2 : Rat} (h : q2 - p2 ≠ 0) : SB p0 p1 p2 q0 q1 q2 r0 r1 r2 ↔ (0 < (r2 - p2) / (q2 - p2) ∧ (r2 - p2) / (q2 - p2) < 1 ∧ (p0 + (r2 - p2) / (q2 - p2) * (q0 - p0) = r0 ∧ p1 + (r2 - p2) / (q2 - p2) * (q1 - p1) = r1 ∧ p2 + (r2 - p2) / (q2 - p2) * (q2 - p2) = r2)) := by
  constructor
  · rintro ⟨_, t, h0, h1, e0, e1, e2⟩
    have et : (r2 - p2) / (q2 - p2) = t := by grind
    rw [et]
    exact ⟨h0, h1, e0.symm, e1.symm, e2.symm⟩
  · rintro ⟨h0, h1, e0, e1, e2⟩
    exact ⟨fun z => h z.2.2, _, h0, h1, e0.symm, e1.symm, e2.symm⟩
in #guard_msgs in universe u_z
theorem eqv_V (a b c x y z : Rat) : PyData.eqv (.tuple [.tuple [.int a.num, .int (a.den : Int)], .tuple [.int b.num, .int (b.den : Int)], .tuple [.int c.num, .int (c.den : Int)]]) (.tuple [.tuple [.int x.num, .int (x.den : Int)], .tuple [.int y.num, .int (y.den : Int)], .tuple [.int z.num, .int (z.den : Int)]]) = decide (a = x ∧ b = y ∧ c = z) := by
  rw [eqv_T, eqv_C, eqv_C, eqv_C, eqv_N, eqv_Q, eqv_Q, eqv_Q]
  simp [Bool.decide_and]
theorem sgn0 {q : Rat} {r : Int} (h1 : q.num > 0 → r = 1) (h2 : q.num < 0 → r = -1) (h3 : r = 0) : q = 0 := by
  refine Rat.num_eq_zero.1 ?_
  omega
theorem sgnN {q : Rat} {r : Int} (h1 : q.num = 0 → r = 0) (h3 : r ≠ 0) : q ≠ 0 := fun e => h3 (h1 (Rat.num_eq_zero.2 e))
end My
namespace My
open PySem L2
section
variable {K : PySem.W.Frag} {σ : L2.St} {H : Hp} {te : TE}
theorem r_lcQ2 {Da : Addr} {G : Hp → Prop} {J : Nat → List V → Hp → Prop} {i : Nat} {y : V} {H2 : Hp} {acc : List V} (hi : i < 100000) (ha : acc.length = i) (hDa : H2 Da = some (.lst acc)) (g : G (upd H2 Da (.lst (acc ++ [y])))) (q : J (i + 1) (acc ++ [y]) (upd H2 Da (.lst (acc ++ [y])))) : lcQ Da G J i y H2 :=
  ⟨acc, hDa, Nat.lt_of_lt_of_le (m := 100000) (by omega) (by decide), acc ++ [y], by simp [ha], upd_same, g, q⟩
set_option Elab.async true in
theorem lc_lstH {a : Addr} {xs : List V} {j : Nat} {vs : List Nat} {Da : Addr} {Qd : Hp → Prop} (G : Hp → Prop) (J : Nat → List V → Hp → Prop) (h0 : G (upd H Da (.lst []))) (hj : J 0 [] (upd H Da (.lst [])))
    (hl : ∀ H1 acc, H1 Da = some (.lst acc) → G H1 → SqL K H1 a xs) (hw : ∀ x, wipe ((wipe σ vs).set j (some x)) vs = wipe σ vs)
    (hs : ∀ i x acc H1, xs[i]? = some x → acc.length = i → H1 Da = some (.lst acc) → G H1 → J i acc H1 → te ((wipe σ vs).set j (some x)) H1 fun y H2 => lcQ Da G J i y H2)
    (hd : ∀ acc H1, acc.length = xs.length → H1 Da = some (.lst acc) → G H1 → J xs.length acc H1 → Qd H1) : lcT (Itl K a) (gName j) tYes te vs σ H Da Qd := by
  have z := lc_list (K := K) (a := a) (xs := xs) (g := gName j) (tt := tYes) (te := te) (vs := vs) (σ := σ) (H1 := H) (D := Da) (Qd := Qd) (lcPv Da G J)
    ⟨[], rfl, upd_same, h0, hj⟩ (by
    rintro i H1 hi ⟨acc, ha, hDa, s1, p⟩
    exact hl H1 acc hDa s1) (by
    rintro i x H1 hi ⟨acc, ha, hDa, s1, p⟩
    exact ⟨hw _, hs i x acc H1 hi ha hDa s1 p⟩) (by
    rintro H1 ⟨acc, ha, hDa, s1, p⟩
    exact hd acc H1 ha hDa s1 p)
  exact z
in #guard_msgs in universe u_z
/-- lists that stand apart from the one that is made -/
def LsA (Da : Addr) (rows : List (List V)) (acc : List V) (H : Hp) : Prop := ∃ ls : List Addr, acc = ls.map V.ref ∧ Paired (fun l row => l ≠ Da ∧ H l = some (.lst row)) ls rows
theorem LsA.upd {Da : Addr} {rows : List (List V)} {acc : List V} {H : Hp} {o : HO} (h : LsA Da rows acc H) : LsA Da rows acc (L2.upd H Da o) := by
  obtain ⟨ls, e, p⟩ := h
  refine ⟨ls, e, ?_⟩
  clear e
  induction p with
  | nil => exact .nil
  | cons r _ ih => exact .cons ⟨r.1, (upd_ne r.1).trans r.2⟩ ih
theorem LsA.same {Da : Addr} {rows : List (List V)} {acc : List V} {H H' : Hp} (s : Same H H') (h : LsA Da rows acc H) : LsA Da rows acc H' := by
  obtain ⟨ls, e, p⟩ := h
  refine ⟨ls, e, ?_⟩
  clear e
  induction p with
  | nil => exact .nil
  | cons r _ ih => exact .cons ⟨r.1, s _ _ r.2⟩ ih
theorem LsA.snoc {Da l : Addr} {rows : List (List V)} {row acc : List V} {H : Hp} (h : LsA Da rows acc H) (hn : l ≠ Da) (hl : H l = some (.lst row)) : LsA Da (rows ++ [row]) (acc ++ [.ref l]) H := by
  obtain ⟨ls, rfl, p⟩ := h
  refine ⟨ls ++ [l], by simp, ?_⟩
  induction p with
  | nil => exact .cons ⟨hn, hl⟩ .nil
  | cons r _ ih => exact .cons r ih
end
set_option Elab.async true in
/-- the line of three points: by four determinants, by three products -/
theorem line_iff {p0 p1 p2 q0 q1 q2 r0 r1 r2 : Rat} :
    (p0 * (q1 * r2 - q2 * r1) + p1 * (q2 * r0 - q0 * r2) + p2 * (q0 * r1 - q1 * r0) = 0 ∧ p0 * (q1 - r1) + p1 * (r0 - q0) + (q0 * r1 - q1 * r0) = 0 ∧ p0 * (q2 - r2) + p2 * (r0 - q0) + (q0 * r2 - q2 * r0) = 0 ∧ p1 * (q2 - r2) + p2 * (r1 - q1) + (q1 * r2 - q2 * r1) = 0) ↔
    ((q1 - p1) * (r2 - p2) - (q2 - p2) * (r1 - p1) = 0 ∧ (q2 - p2) * (r0 - p0) - (q0 - p0) * (r2 - p2) = 0 ∧ (q0 - p0) * (r1 - p1) - (q1 - p1) * (r0 - p0) = 0) := by
  constructor
  · rintro ⟨h0, h1, h2, h3⟩
    refine ⟨by grind, by grind, by grind⟩
  · rintro ⟨h0, h1, h2⟩
    refine ⟨by grind, by grind, by grind, by grind⟩
in #guard_msgs in universe u_z
end My
namespace My
open PySem L2
theorem eqv_L (xs ys : List PyData) : PyData.eqv (.list xs) (.list ys) = PyData.eqvAll xs ys := by simp only [PyData.eqv]
theorem numq (q : Rat) : (q.num : Rat) = q * ((q.den : Int) : Rat) := by
  have h := ndd q
  have h2 := icz (denI q)
  generalize (q.den : Int) = d at *
  grind
set_option Elab.async true in
/-- the whole numbers that stand for a point -/
theorem whole_q (p0 p1 p2 : Rat) : ((p0.num * (p1.den : Int) * (p2.den : Int) : Int) : Rat) = p0 * (((p0.den : Int) * (p1.den : Int) * (p2.den : Int) : Int) : Rat) ∧ ((p1.num * (p0.den : Int) * (p2.den : Int) : Int) : Rat) = p1 * (((p0.den : Int) * (p1.den : Int) * (p2.den : Int) : Int) : Rat) ∧
    ((p2.num * (p0.den : Int) * (p1.den : Int) : Int) : Rat) = p2 * (((p0.den : Int) * (p1.den : Int) * (p2.den : Int) : Int) : Rat) ∧ (((p0.den : Int) * (p1.den : Int) * (p2.den : Int) : Int) : Rat) ≠ 0 := by
  have h0 := numq p0
  have h1 := numq p1
  have h2 := numq p2
  have z := icz (mul0 (mul0 (denI p0) (denI p1)) (denI p2))
  simp only [Rat.intCast_mul] at *
  generalize ((p0.den : Int) : Rat) = d0 at *
  generalize ((p1.den : Int) : Rat) = d1 at *
  generalize ((p2.den : Int) : Rat) = d2 at *
  rw [h0, h1, h2]
  refine ⟨by grind, by grind, by grind, z⟩
in #guard_msgs in universe u_z
set_option Elab.async true in
theorem det_z {a0 a1 a2 b0 b1 b2 c0 c1 c2 : Int} {x0 x1 x2 y0 y1 y2 z0 z1 z2 U V W : Rat} (hU : U ≠ 0) (hV : V ≠ 0) (hW : W ≠ 0) (ha0 : (a0 : Rat) = x0 * U) (ha1 : (a1 : Rat) = x1 * U) (ha2 : (a2 : Rat) = x2 * U) (hb0 : (b0 : Rat) = y0 * V) (hb1 : (b1 : Rat) = y1 * V) (hb2 : (b2 : Rat) = y2 * V)
    (hc0 : (c0 : Rat) = z0 * W) (hc1 : (c1 : Rat) = z1 * W) (hc2 : (c2 : Rat) = z2 * W) : (a0 * (b1 * c2 - b2 * c1) + a1 * (b2 * c0 - b0 * c2) + a2 * (b0 * c1 - b1 * c0) = 0 ↔ x0 * (y1 * z2 - y2 * z1) + x1 * (y2 * z0 - y0 * z2) + x2 * (y0 * z1 - y1 * z0) = 0) := by
  have e : ((a0 * (b1 * c2 - b2 * c1) + a1 * (b2 * c0 - b0 * c2) + a2 * (b0 * c1 - b1 * c0) : Int) : Rat) = U * V * W * (x0 * (y1 * z2 - y2 * z1) + x1 * (y2 * z0 - y0 * z2) + x2 * (y0 * z1 - y1 * z0)) := by
    simp only [Rat.intCast_add, Rat.intCast_sub, Rat.intCast_mul]
    rw [ha0, ha1, ha2, hb0, hb1, hb2, hc0, hc1, hc2]
    grind
  constructor
  · intro h
    rw [h] at e
    have e2 : U * V * W * (x0 * (y1 * z2 - y2 * z1) + x1 * (y2 * z0 - y0 * z2) + x2 * (y0 * z1 - y1 * z0)) = 0 := by rw [← e]; simp
    grind
  · intro h
    rw [h] at e
    have e2 : ((a0 * (b1 * c2 - b2 * c1) + a1 * (b2 * c0 - b0 * c2) + a2 * (b0 * c1 - b1 * c0) : Int) : Rat) = 0 := by rw [e]; grind
    exact_mod_cast e2
in #guard_msgs in universe u_z
set_option Elab.async true in
theorem line_w (p0 p1 p2 q0 q1 q2 r0 r1 r2 : Rat) {d0 d1 d2 d3 : Int}
    {a0 a1 a2 a3 b0 b1 b2 b3 c0 c1 c2 c3 : Int} (ha0 : a0 = p0.num * (p1.den : Int) * (p2.den : Int)) (ha1 : a1 = p1.num * (p0.den : Int) * (p2.den : Int)) (ha2 : a2 = p2.num * (p0.den : Int) * (p1.den : Int)) (ha3 : a3 = (p0.den : Int) * (p1.den : Int) * (p2.den : Int))
    (hb0 : b0 = q0.num * (q1.den : Int) * (q2.den : Int)) (hb1 : b1 = q1.num * (q0.den : Int) * (q2.den : Int)) (hb2 : b2 = q2.num * (q0.den : Int) * (q1.den : Int)) (hb3 : b3 = (q0.den : Int) * (q1.den : Int) * (q2.den : Int))
    (hc0 : c0 = r0.num * (r1.den : Int) * (r2.den : Int)) (hc1 : c1 = r1.num * (r0.den : Int) * (r2.den : Int)) (hc2 : c2 = r2.num * (r0.den : Int) * (r1.den : Int)) (hc3 : c3 = (r0.den : Int) * (r1.den : Int) * (r2.den : Int))
    (h0 : d0 = a0 * (b1 * c2 - b2 * c1) + a1 * (b2 * c0 - b0 * c2) + a2 * (b0 * c1 - b1 * c0)) (h1 : d1 = a0 * (b1 * c3 - b3 * c1) + a1 * (b3 * c0 - b0 * c3) + a3 * (b0 * c1 - b1 * c0))
    (h2 : d2 = a0 * (b2 * c3 - b3 * c2) + a2 * (b3 * c0 - b0 * c3) + a3 * (b0 * c2 - b2 * c0)) (h3 : d3 = a1 * (b2 * c3 - b3 * c2) + a2 * (b3 * c1 - b1 * c3) + a3 * (b1 * c2 - b2 * c1)) :
    (d0 = 0 ∧ d1 = 0 ∧ d2 = 0 ∧ d3 = 0) ↔ ((q1 - p1) * (r2 - p2) - (q2 - p2) * (r1 - p1) = 0 ∧ (q2 - p2) * (r0 - p0) - (q0 - p0) * (r2 - p2) = 0 ∧ (q0 - p0) * (r1 - p1) - (q1 - p1) * (r0 - p0) = 0) := by
  obtain ⟨A0, A1, A2, A3⟩ := whole_q p0 p1 p2
  obtain ⟨B0, B1, B2, B3⟩ := whole_q q0 q1 q2
  obtain ⟨C0, C1, C2, C3⟩ := whole_q r0 r1 r2
  rw [← ha0] at A0; rw [← ha1] at A1; rw [← ha2] at A2; rw [← ha3] at A0 A1 A2 A3
  rw [← hb0] at B0; rw [← hb1] at B1; rw [← hb2] at B2; rw [← hb3] at B0 B1 B2 B3
  rw [← hc0] at C0; rw [← hc1] at C1; rw [← hc2] at C2; rw [← hc3] at C0 C1 C2 C3
  have A4 : (a3 : Rat) = 1 * (a3 : Rat) := by grind
  have B4 : (b3 : Rat) = 1 * (b3 : Rat) := by grind
  have C4 : (c3 : Rat) = 1 * (c3 : Rat) := by grind
  have k0 := det_z A3 B3 C3 A0 A1 A2 B0 B1 B2 C0 C1 C2
  have k1 := det_z A3 B3 C3 A0 A1 A4 B0 B1 B4 C0 C1 C4
  have k2 := det_z A3 B3 C3 A0 A2 A4 B0 B2 B4 C0 C2 C4
  have k3 := det_z A3 B3 C3 A1 A2 A4 B1 B2 B4 C1 C2 C4
  rw [← h0] at k0; rw [← h1] at k1; rw [← h2] at k2; rw [← h3] at k3
  rw [k0, k1, k2, k3, ← line_iff]
  constructor
  · rintro ⟨z0, z1, z2, z3⟩
    exact ⟨z0, by grind, by grind, by grind⟩
  · rintro ⟨z0, z1, z2, z3⟩
    exact ⟨z0, by grind, by grind, by grind⟩
in #guard_msgs in universe u_z
end My
namespace My
open PySem L2
/-- r lies between p and q on one axis, or all three are equal there -/
def Ag (p r q : Rat) : Prop := (p < r ∧ r < q) ∨ (r < p ∧ q < r) ∨ (p = r ∧ r = q)
theorem ag_iff {p r q : Rat} {x y : Int} (h1 : p < r → x = -1) (h2 : r < p → x = 1) (h3 : p = r → x = 0) (g1 : r < q → y = -1) (g2 : q < r → y = 1) (g3 : r = q → y = 0) : (x = y ↔ Ag p r q) ∧ (x ≠ 0 ↔ p ≠ r) := by
  unfold Ag
  have t1 : p < r ∨ r < p ∨ p = r := by grind
  have t2 : r < q ∨ q < r ∨ r = q := by grind
  rcases t1 with a | a | a <;> rcases t2 with b | b | b <;> grind
set_option Elab.async true in
theorem sb_of {p0 p1 p2 q0 q1 q2 r0 r1 r2 : Rat} (l0 : (q1 - p1) * (r2 - p2) - (q2 - p2) * (r1 - p1) = 0) (l1 : (q2 - p2) * (r0 - p0) - (q0 - p0) * (r2 - p2) = 0) (l2 : (q0 - p0) * (r1 - p1) - (q1 - p1) * (r0 - p0) = 0)
    (a0 : Ag p0 r0 q0) (a1 : Ag p1 r1 q1) (a2 : Ag p2 r2 q2) (h : p0 ≠ r0 ∨ p1 ≠ r1 ∨ p2 ≠ r2) : SB p0 p1 p2 q0 q1 q2 r0 r1 r2 := by
  have key : ∀ p q r : Rat, Ag p r q → p ≠ r → q - p ≠ 0 ∧ 0 < (r - p) / (q - p) ∧ (r - p) / (q - p) < 1 := fun p q r a n => by
    rcases a with ⟨h1, h2⟩ | ⟨h1, h2⟩ | ⟨h1, _⟩
    · have hp : 0 < q - p := by grind
      refine ⟨by grind, ?_, ?_⟩
      · rw [Rat.lt_div_iff hp]; grind
      · rw [Rat.div_lt_iff hp]; grind
    · have hp : 0 < p - q := by grind
      have e : (r - p) / (q - p) = (p - r) / (p - q) := by grind
      rw [e]
      refine ⟨by grind, ?_, ?_⟩
      · rw [Rat.lt_div_iff hp]; grind
      · rw [Rat.div_lt_iff hp]; grind
    · exact absurd h1 n
  rcases h with h | h | h
  · obtain ⟨n, t0, t1⟩ := key _ _ _ a0 h
    rw [SB.i0 n]
    exact ⟨t0, t1, by grind, by grind, by grind⟩
  · obtain ⟨n, t0, t1⟩ := key _ _ _ a1 h
    rw [SB.i1 n]
    exact ⟨t0, t1, by grind, by grind, by grind⟩
  · obtain ⟨n, t0, t1⟩ := key _ _ _ a2 h
    rw [SB.i2 n]
    exact ⟨t0, t1, by grind, by grind, by grind⟩
in #guard_msgs in universe u_z
set_option Elab.async true in
theorem of_sb {p0 p1 p2 q0 q1 q2 r0 r1 r2 : Rat} (h : SB p0 p1 p2 q0 q1 q2 r0 r1 r2) : ((q1 - p1) * (r2 - p2) - (q2 - p2) * (r1 - p1) = 0 ∧ (q2 - p2) * (r0 - p0) - (q0 - p0) * (r2 - p2) = 0 ∧ (q0 - p0) * (r1 - p1) - (q1 - p1) * (r0 - p0) = 0) ∧ Ag p0 r0 q0 ∧ Ag p1 r1 q1 ∧ Ag p2 r2 q2 ∧ (p0 ≠ r0 ∨ p1 ≠ r1 ∨ p2 ≠ r2) := by
  obtain ⟨n, t, h0, h1, e0, e1, e2⟩ := h
  have ag : ∀ p q r : Rat, r = p + t * (q - p) → Ag p r q := fun p q r e => by
    unfold Ag
    have tr : p < q ∨ q < p ∨ p = q := by grind
    rcases tr with a | a | a
    · have m1 : 0 < t * (q - p) := Rat.mul_pos h0 (by grind)
      have m2 : 0 < (1 - t) * (q - p) := Rat.mul_pos (by grind) (by grind)
      exact .inl ⟨by grind, by grind⟩
    · have m1 : 0 < t * (p - q) := Rat.mul_pos h0 (by grind)
      have m2 : 0 < (1 - t) * (p - q) := Rat.mul_pos (by grind) (by grind)
      exact .inr (.inl ⟨by grind, by grind⟩)
    · subst a
      exact .inr (.inr ⟨by grind, by grind⟩)
  have ne : ∀ p q r : Rat, r = p + t * (q - p) → p = r → q - p = 0 := fun p q r e z => by
    have z2 : t * (q - p) = 0 := by grind
    grind
  refine ⟨⟨by grind, by grind, by grind⟩, ag _ _ _ e0, ag _ _ _ e1, ag _ _ _ e2, ?_⟩
  by_cases c0 : p0 = r0
  · by_cases c1 : p1 = r1
    · by_cases c2 : p2 = r2
      · exact absurd ⟨ne _ _ _ e0 c0, ne _ _ _ e1 c1, ne _ _ _ e2 c2⟩ n
      · exact .inr (.inr c2)
    · exact .inr (.inl c1)
  · exact .inl c0
in #guard_msgs in universe u_z
end My
namespace My
open PySem L2
section
variable {K : PySem.W.Frag} {H H0 : Hp} {s l : Addr} {xs ys : List V} {y v : V}
set_option Elab.async true in
/-- as r_setM, with what was there just ahead of the change -/
theorem r_setK {Q : Hp → Prop} {k : Int} {j : Nat} (nl : H0 l = none) (st0 : St K H0 s) (e : Fr s H0 H) (st : St K H s) (h : H l = some (.lst xs)) (ix : ixN xs.length k = some j) (ey : xs.set j v = ys)
    (q : ∀ H1, Fr s H0 H1 → St K H1 s → H1 l = some (.lst ys) → (∀ a zs, SqT K H a zs → SqT K H1 a zs) → Q H1) : rSetL (.ref l) (.int k) v H Q :=
  r_setL h ix ey (q _ (Fr.mut e nl st0.some) (St.mut st0 e st nl) upd_same (fun a zs ha => by
    have up : ∀ o : HO, H a = some o → o ≠ .lst xs → (L2.upd H l (.lst ys)) a = some o := fun o ho n => by
      have hn : a ≠ l := fun q => by
        rw [q, h] at ho
        cases ho
        exact n rfl
      simp [L2.upd, hn, ho]
    rcases ha with (ha | ⟨o, ha⟩) | ha
    · exact .inl (.inl (up _ ha (by simp)))
    · exact .inl (.inr ⟨o, up _ ha (by simp)⟩)
    · exact .inr ha))
in #guard_msgs in universe u_z
end
end My
namespace My
theorem SB.sw {p0 p1 p2 q0 q1 q2 r0 r1 r2 : Rat} (h : SB p0 p1 p2 q0 q1 q2 r0 r1 r2) : SB q0 q1 q2 p0 p1 p2 r0 r1 r2 := by
  obtain ⟨n, t, h0, h1, e0, e1, e2⟩ := h
  exact ⟨fun z => n ⟨by grind, by grind, by grind⟩, 1 - t, by grind, by grind, by grind, by grind, by grind⟩
theorem SB.sym {p0 p1 p2 q0 q1 q2 r0 r1 r2 : Rat} : SB p0 p1 p2 q0 q1 q2 r0 r1 r2 ↔ SB q0 q1 q2 p0 p1 p2 r0 r1 r2 := ⟨SB.sw, SB.sw⟩
theorem bb_eq {a b : Bool} {X Y : Prop} (h1 : a = true ↔ X) (h2 : b = true ↔ Y) (h : X ↔ Y) : a = b := by
  rw [Bool.eq_iff_iff, h1, h2, h]
/-- three products of differences are zero: in any order -/
theorem ln_of {p0 p1 p2 q0 q1 q2 r0 r1 r2 : Rat} (l0 : (q1 - p1) * (r2 - p2) - (q2 - p2) * (r1 - p1) = 0) (l1 : (q2 - p2) * (r0 - p0) - (q0 - p0) * (r2 - p2) = 0) (l2 : (q0 - p0) * (r1 - p1) - (q1 - p1) * (r0 - p0) = 0) :
  ((r1 - q1) * (p2 - q2) - (r2 - q2) * (p1 - q1) = 0 ∧ (r2 - q2) * (p0 - q0) - (r0 - q0) * (p2 - q2) = 0 ∧ (r0 - q0) * (p1 - q1) - (r1 - q1) * (p0 - q0) = 0) := ⟨by grind, by grind, by grind⟩
set_option Elab.async true in
theorem ln_rot {p0 p1 p2 q0 q1 q2 r0 r1 r2 : Rat} : ((q1 - p1) * (r2 - p2) - (q2 - p2) * (r1 - p1) = 0 ∧ (q2 - p2) * (r0 - p0) - (q0 - p0) * (r2 - p2) = 0 ∧ (q0 - p0) * (r1 - p1) - (q1 - p1) * (r0 - p0) = 0) ↔
  ((r1 - q1) * (p2 - q2) - (r2 - q2) * (p1 - q1) = 0 ∧ (r2 - q2) * (p0 - q0) - (r0 - q0) * (p2 - q2) = 0 ∧ (r0 - q0) * (p1 - q1) - (r1 - q1) * (p0 - q0) = 0) := by
  constructor
  · rintro ⟨a, b, c⟩; exact ⟨by grind, by grind, by grind⟩
  · rintro ⟨a, b, c⟩; exact ⟨by grind, by grind, by grind⟩
in #guard_msgs in universe u_z
set_option Elab.async true in
/-- (three, one, two) as told by in_line(p=three,q=one,r=two) -/
theorem ln_rot2 {p0 p1 p2 q0 q1 q2 r0 r1 r2 : Rat} : ((q1 - p1) * (r2 - p2) - (q2 - p2) * (r1 - p1) = 0 ∧ (q2 - p2) * (r0 - p0) - (q0 - p0) * (r2 - p2) = 0 ∧ (q0 - p0) * (r1 - p1) - (q1 - p1) * (r0 - p0) = 0) ↔
  ((p1 - r1) * (q2 - r2) - (p2 - r2) * (q1 - r1) = 0 ∧ (p2 - r2) * (q0 - r0) - (p0 - r0) * (q2 - r2) = 0 ∧ (p0 - r0) * (q1 - r1) - (p1 - r1) * (q0 - r0) = 0) := by
  constructor
  · rintro ⟨a, b, c⟩; exact ⟨by grind, by grind, by grind⟩
  · rintro ⟨a, b, c⟩; exact ⟨by grind, by grind, by grind⟩
in #guard_msgs in universe u_z
set_option Elab.async true in
/-- a part of a blend, over a common denominator -/
theorem at_eq {p q t x : Rat} (h : x = p + t * (q - p)) :
    x.num * (p.den : Int) * (q.den : Int) * (t.den : Int) = (p.num * (q.den : Int) * ((t.den : Int) - t.num) + q.num * (p.den : Int) * t.num) * (x.den : Int) := by
  have hp := ndd p
  have hq := ndd q
  have ht := ndd t
  have hx := ndd x
  have zp := icz (denI p)
  have zq := icz (denI q)
  have zt := icz (denI t)
  have zx := icz (denI x)
  generalize p.num = pn at *
  generalize q.num = qn at *
  generalize t.num = tn at *
  generalize x.num = xn at *
  generalize (p.den : Int) = pd at *
  generalize (q.den : Int) = qd at *
  generalize (t.den : Int) = td at *
  generalize (x.den : Int) = xd at *
  have k : (xn : Rat) * pd * qd * td = (pn * qd * (td - tn) + qn * pd * tn) * xd := by
    have e : (xn : Rat) / xd = pn / pd + tn / td * (qn / qd - pn / pd) := by rw [hx, hp, hq, ht, h]
    grind
  exact_mod_cast k
in #guard_msgs in universe u_z
set_option Elab.async true in
/-- a blend lies strictly between exactly if .. -/
theorem sb_blend {p0 p1 p2 q0 q1 q2 t : Rat} : SB p0 p1 p2 q0 q1 q2 (p0 + t * (q0 - p0)) (p1 + t * (q1 - p1)) (p2 + t * (q2 - p2)) ↔ ¬ (p0 = q0 ∧ p1 = q1 ∧ p2 = q2) ∧ 0 < t ∧ t < 1 := by
  constructor
  · rintro ⟨n, s, h0, h1, e0, e1, e2⟩
    have z : ∀ p q : Rat, p + t * (q - p) = p + s * (q - p) → t ≠ s → q - p = 0 := fun p q e n => by grind
    have ts : t = s := Classical.byContradiction fun ne => n ⟨z _ _ e0 ne, z _ _ e1 ne, z _ _ e2 ne⟩
    subst ts
    exact ⟨fun y => n ⟨by grind, by grind, by grind⟩, h0, h1⟩
  · rintro ⟨n, h0, h1⟩
    exact ⟨fun y => n ⟨by grind, by grind, by grind⟩, t, h0, h1, rfl, rfl, rfl⟩
in #guard_msgs in universe u_z
theorem ln_blend {p0 p1 p2 q0 q1 q2 t : Rat} {b : Bool} (h : b = true ↔ ((p1 + t * (q1 - p1) - p1) * (q2 - p2) - (p2 + t * (q2 - p2) - p2) * (q1 - p1) = 0 ∧ (p2 + t * (q2 - p2) - p2) * (q0 - p0) - (p0 + t * (q0 - p0) - p0) * (q2 - p2) = 0 ∧ (p0 + t * (q0 - p0) - p0) * (q1 - p1) - (p1 + t * (q1 - p1) - p1) * (q0 - p0) = 0)) : b = true := by
  rw [h]
  exact ⟨by grind, by grind, by grind⟩
end My
namespace My
open PySem L2
section
variable {X : Cx} {K : PySem.W.Frag} {σ : L2.St} {H : Hp} {Q : VK} {te : TE}
def rMaxL (K : PySem.W.Frag) : List V → Hp → VK → Prop := fun vs H Q => ∃ (a : Addr) (ns : List Int), vs = [V.ref a] ∧ SqL K H a (ns.map V.int) ∧ 0 < ns.length ∧ ∀ m, m ∈ ns → (∀ y, y ∈ ns → y ≤ m) → Q (.int m) H
theorem kc_maxL (h : X.K = K) (hc : X.calm = true) : CallR X (.builtin "max") (rMaxL K) := h ▸ cr_max hc
theorem r_maxL {a : Addr} {ns : List Int} (q : SqL K H a (ns.map V.int)) (h0 : 0 < ns.length) (h : ∀ m, m ∈ ns → (∀ y, y ∈ ns → y ≤ m) → Q (.int m) H) : rMaxL K [.ref a] H Q := ⟨a, ns, rfl, q, h0, h⟩
theorem r_catT {a b : Addr} {xs ys zs : List V} {u v : V} {us vs : List V} (ha : SqT K H a xs) (hb : SqT K H b ys) (e1 : xs = u :: us) (e2 : ys = v :: vs) (hn : decide (xs.length + ys.length ≤ 100000) = true) (hz : xs ++ ys = zs) (h : ∀ (p : Addr) (H1 : Hp), H p = none → Same H H1 → H1 p = some (.tup zs) → Q (.ref p) H1) : rCatT K (.ref a) (.ref b) H Q :=
  ⟨a, b, xs, ys, rfl, rfl, ha, hb, by rw [e1]; exact List.cons_ne_nil _ _, Nat.le_trans (of_decide_eq_true hn) (by decide), fun e => absurd (e2.symm.trans e) (List.cons_ne_nil _ _), fun _ p np => h p _ np (Same.new np) (by rw [hz]; exact upd_same)⟩
theorem qt {c : Addr} {a b : Int} {q : Rat} (h : SqT K H c [.int a, .int b]) (e1 : q.num = a) (e2 : (q.den : Int) = b) : SqT K H c [.int q.num, .int (q.den : Int)] := by
  rw [e1, e2]
  exact h
set_option Elab.async true in
theorem lc_tupH {a : Addr} {xs : List V} {j : Nat} {vs : List Nat} {Da : Addr} {Qd : Hp → Prop} (G : Hp → Prop) (J : Nat → List V → Hp → Prop) (h0 : G (upd H Da (.lst []))) (hj : J 0 [] (upd H Da (.lst [])))
    (hl : ∀ H1 acc, H1 Da = some (.lst acc) → G H1 → SqT K H1 a xs) (hw : ∀ x, wipe ((wipe σ vs).set j (some x)) vs = wipe σ vs)
    (hs : ∀ i x acc H1, xs[i]? = some x → acc.length = i → H1 Da = some (.lst acc) → G H1 → J i acc H1 → te ((wipe σ vs).set j (some x)) H1 fun y H2 => lcQ Da G J i y H2)
    (hd : ∀ acc H1, acc.length = xs.length → H1 Da = some (.lst acc) → G H1 → J xs.length acc H1 → Qd H1) : lcT (Itt K a) (gName j) tYes te vs σ H Da Qd := by
  have z := lc_tup (K := K) (a := a) (xs := xs) (g := gName j) (tt := tYes) (te := te) (vs := vs) (σ := σ) (H1 := H) (D := Da) (Qd := Qd) (lcPv Da G J)
    ⟨[], rfl, upd_same, h0, hj⟩ (by
    rintro i H1 hi ⟨acc, ha, hDa, s1, p⟩
    exact hl H1 acc hDa s1) (by
    rintro i x H1 hi ⟨acc, ha, hDa, s1, p⟩
    exact ⟨hw _, hs i x acc H1 hi ha hDa s1 p⟩) (by
    rintro H1 ⟨acc, ha, hDa, s1, p⟩
    exact hd acc H1 ha hDa s1 p)
  exact z
in #guard_msgs in universe u_z
end
end My
namespace My
open PySem L2
/-! vectors and moves over rational numbers -/
structure V3 where
  x : Rat
  y : Rat
  z : Rat
structure M3 where
  a : V3
  b : V3
  c : V3
  s : V3
def dt (p q : V3) : Rat := p.x * q.x + p.y * q.y + p.z * q.z
def va (p q : V3) : V3 := ⟨p.x + q.x, p.y + q.y, p.z + q.z⟩
def sc (t : Rat) (p : V3) : V3 := ⟨t * p.x, t * p.y, t * p.z⟩
def cr (p q : V3) : V3 := ⟨p.y * q.z - p.z * q.y, p.z * q.x - p.x * q.z, p.x * q.y - p.y * q.x⟩
def mvec (A : M3) (p : V3) : V3 := ⟨dt A.a p, dt A.b p, dt A.c p⟩
def app (A : M3) (p : V3) : V3 := va (mvec A p) A.s
def rowx (r : V3) (A : M3) : V3 := va (va (sc r.x A.a) (sc r.y A.b)) (sc r.z A.c)
/-- A first, then B -/
def comb (A B : M3) : M3 := ⟨rowx B.a A, rowx B.b A, rowx B.c A, app B A.s⟩
def det3 (A : M3) : Rat := dt A.a (cr A.b A.c)
def e0 : V3 := ⟨1, 0, 0⟩
def e1 : V3 := ⟨0, 1, 0⟩
def e2 : V3 := ⟨0, 0, 1⟩
def o3 : V3 := ⟨0, 0, 0⟩
def still : M3 := ⟨e0, e1, e2, o3⟩
/-- the inverse: cofactors over the determinant -/
def minv (A : M3) : M3 :=
  ⟨⟨(cr A.b A.c).x / det3 A, (cr A.c A.a).x / det3 A, (cr A.a A.b).x / det3 A⟩,
   ⟨(cr A.b A.c).y / det3 A, (cr A.c A.a).y / det3 A, (cr A.a A.b).y / det3 A⟩,
   ⟨(cr A.b A.c).z / det3 A, (cr A.c A.a).z / det3 A, (cr A.a A.b).z / det3 A⟩,
   ⟨-((cr A.b A.c).x * A.s.x + (cr A.c A.a).x * A.s.y + (cr A.a A.b).x * A.s.z) / det3 A,
    -((cr A.b A.c).y * A.s.x + (cr A.c A.a).y * A.s.y + (cr A.a A.b).y * A.s.z) / det3 A,
    -((cr A.b A.c).z * A.s.x + (cr A.c A.a).z * A.s.y + (cr A.a A.b).z * A.s.z) / det3 A⟩⟩
theorem V3.ext' {p q : V3} (h1 : p.x = q.x) (h2 : p.y = q.y) (h3 : p.z = q.z) : p = q := by
  cases p
  cases q
  simp only at h1 h2 h3
  rw [h1, h2, h3]
theorem M3.ext' {A B : M3} (h1 : A.a = B.a) (h2 : A.b = B.b) (h3 : A.c = B.c) (h4 : A.s = B.s) : A = B := by
  cases A
  cases B
  simp only at h1 h2 h3 h4
  rw [h1, h2, h3, h4]
theorem rowx_rowx (r : V3) (A B : M3) : rowx (rowx r B) A = rowx r (comb A B) := by
  apply V3.ext' <;> simp only [rowx, comb, va, sc, app, mvec, dt] <;> grind
theorem mvec_comb (A B : M3) (p : V3) : mvec (comb A B) p = mvec B (mvec A p) := by
  apply V3.ext' <;> simp only [mvec, comb, rowx, va, sc, dt] <;> grind
theorem mvec_va (A : M3) (p q : V3) : mvec A (va p q) = va (mvec A p) (mvec A q) := by
  apply V3.ext' <;> simp only [mvec, va, dt] <;> grind
theorem va_assoc (p q r : V3) : va (va p q) r = va p (va q r) := by
  apply V3.ext' <;> simp only [va] <;> grind
theorem app_comb (A B : M3) (p : V3) : app (comb A B) p = app B (app A p) := by
  show va (mvec (comb A B) p) (app B A.s) = va (mvec B (va (mvec A p) A.s)) B.s
  rw [mvec_comb, mvec_va, va_assoc]
  rfl
theorem comb_assoc (A B C : M3) : comb (comb A B) C = comb A (comb B C) := by
  refine M3.ext' ?_ ?_ ?_ ?_
  · exact (rowx_rowx C.a A B).symm
  · exact (rowx_rowx C.b A B).symm
  · exact (rowx_rowx C.c A B).symm
  · exact (app_comb B C A.s).symm
theorem comb_still (A : M3) : comb A still = A := by
  refine M3.ext' ?_ ?_ ?_ ?_ <;> apply V3.ext' <;> simp only [comb, still, rowx, va, sc, app, mvec, dt, e0, e1, e2, o3] <;> grind
theorem still_comb (A : M3) : comb still A = A := by
  refine M3.ext' ?_ ?_ ?_ ?_ <;> apply V3.ext' <;> simp only [comb, still, rowx, va, sc, app, mvec, dt, e0, e1, e2, o3] <;> grind
theorem app_still (p : V3) : app still p = p := by
  apply V3.ext' <;> simp only [still, app, mvec, va, dt, e0, e1, e2, o3] <;> grind
theorem comb_minv {A : M3} (h : det3 A ≠ 0) : comb A (minv A) = still := by
  have hd : det3 A = dt A.a (cr A.b A.c) := rfl
  refine M3.ext' ?_ ?_ ?_ ?_ <;> apply V3.ext' <;> simp only [comb, minv, still, rowx, va, sc, app, mvec, dt, e0, e1, e2, o3] <;> generalize det3 A = D at * <;> simp only [dt, cr] at * <;> grind
theorem minv_comb {A : M3} (h : det3 A ≠ 0) : comb (minv A) A = still := by
  have hd : det3 A = dt A.a (cr A.b A.c) := rfl
  refine M3.ext' ?_ ?_ ?_ ?_ <;> apply V3.ext' <;> simp only [comb, minv, still, rowx, va, sc, app, mvec, dt, e0, e1, e2, o3] <;> generalize det3 A = D at * <;> simp only [dt, cr] at * <;> grind
theorem det_comb (A B : M3) : det3 (comb A B) = det3 A * det3 B := by
  simp only [det3, comb, rowx, va, sc, dt, cr]
  grind
theorem det_still : det3 still = 1 := by
  simp only [det3, still, dt, cr, e0, e1, e2]
  grind
theorem det_minv {A : M3} (h : det3 A ≠ 0) : det3 (minv A) ≠ 0 := fun z => by
  have e := det_comb A (minv A)
  rw [comb_minv h, det_still, z] at e
  grind
theorem det_comb0 {A B : M3} (h1 : det3 A ≠ 0) (h2 : det3 B ≠ 0) : det3 (comb A B) ≠ 0 := by
  rw [det_comb]
  grind
theorem inv_uniq {A B C : M3} (h1 : comb B A = still) (h2 : comb A C = still) : B = C := by
  have e := comb_assoc B A C
  rw [h1, h2, still_comb, comb_still] at e
  exact e.symm
theorem minv_of {A B : M3} (h : det3 A ≠ 0) (e : comb A B = still) : minv A = B := inv_uniq (minv_comb h) e
theorem minv_minv {A : M3} (h : det3 A ≠ 0) : minv (minv A) = A := minv_of (det_minv h) (minv_comb h)
theorem minv_anti {A B : M3} (h1 : det3 A ≠ 0) (h2 : det3 B ≠ 0) : minv (comb A B) = comb (minv B) (minv A) := by
  refine minv_of (det_comb0 h1 h2) ?_
  rw [comb_assoc, ← comb_assoc B, comb_minv h2, still_comb, comb_minv h1]
theorem app_minv {A : M3} (h : det3 A ≠ 0) (p : V3) : app (minv A) (app A p) = p := by
  rw [← app_comb, comb_minv h, app_still]
end My
namespace My
open PySem L2
/-! bits of the two parts apart -/
structure BN (n d : Nat) (q : Rat) : Prop where
  n : B n q.num
  d : B d (q.den : Int)
theorem BN.le {n d n' d' : Nat} {q : Rat} (h : BN n d q) (h1 : n ≤ n') (h2 : d ≤ d') : BN n' d' q := ⟨h.n.le h1, h.d.le h2⟩
theorem BN.bq {k : Nat} {q : Rat} (h : BQ k q) : BN k k q := ⟨h.n, h.d⟩
theorem BN.dv {n d : Nat} {t b : Int} (hb : b ≠ 0) (h1 : B n t) (h2 : B d b) : BN n d ((t : Rat) / b) := by
  have r : ∃ n d, Red t b n d := by
    rcases Int.lt_or_gt_of_ne hb with h | h
    · exact ⟨_, _, red_of hb (fun q => absurd q (by omega)) (fun _ => rfl)⟩
    · exact ⟨_, _, red_of hb (fun _ => rfl) (fun q => absurd q (by omega))⟩
  obtain ⟨n, d, r⟩ := r
  obtain ⟨e1, e2⟩ := red_q hb r
  refine ⟨?_, ?_⟩
  · rw [← e1]; exact B.redn r h1
  · rw [← e2]; exact B.redd r h2
theorem BN.add {n d n' d' : Nat} {p q : Rat} (hp : BN n d p) (hq : BN n' d' q) : BN (n + n' + d + d' + 1) (d + d') (p + q) := by
  rw [← add_q p q]
  exact BN.dv (mul0 (denI p) (denI q)) ((B.add (B.mul hp.n hq.d) (B.mul hq.n hp.d)).le (by omega)) ((B.mul hp.d hq.d).le (by omega))
theorem BN.sub {n d n' d' : Nat} {p q : Rat} (hp : BN n d p) (hq : BN n' d' q) : BN (n + n' + d + d' + 1) (d + d') (p - q) := by
  rw [← sub_q p q]
  exact BN.dv (mul0 (denI p) (denI q)) ((B.sub (B.mul hp.n hq.d) (B.mul hq.n hp.d)).le (by omega)) ((B.mul hp.d hq.d).le (by omega))
theorem BN.mul {n d n' d' : Nat} {p q : Rat} (hp : BN n d p) (hq : BN n' d' q) : BN (n + n') (d + d') (p * q) := by
  rw [← mul_q p q]
  exact BN.dv (mul0 (denI p) (denI q)) (B.mul hp.n hq.n) (B.mul hp.d hq.d)
theorem BN.neg {n d : Nat} {p : Rat} (hp : BN n d p) : BN n d (-p) := by
  refine ⟨?_, ?_⟩
  · rw [Rat.neg_num]; exact hp.n.neg
  · rw [Rat.neg_den]; exact hp.d
theorem BN.int {n : Nat} {z : Int} (h : B n z) : BN n 1 (z : Rat) := ⟨by rw [numI]; exact h, by rw [denII]; exact B.lit (k := 1) (by decide)⟩
structure VN (n d : Nat) (p : V3) : Prop where
  x : BN n d p.x
  y : BN n d p.y
  z : BN n d p.z
theorem VN.le {n d n' d' : Nat} {p : V3} (h : VN n d p) (h1 : n ≤ n') (h2 : d ≤ d') : VN n' d' p := ⟨h.x.le h1 h2, h.y.le h1 h2, h.z.le h1 h2⟩
structure MN (n d : Nat) (A : M3) : Prop where
  a : VN n d A.a
  b : VN n d A.b
  c : VN n d A.c
  s : VN n d A.s
theorem MN.le {n d n' d' : Nat} {A : M3} (h : MN n d A) (h1 : n ≤ n') (h2 : d ≤ d') : MN n' d' A := ⟨h.a.le h1 h2, h.b.le h1 h2, h.c.le h1 h2, h.s.le h1 h2⟩
theorem BN.dt {n d n' d' : Nat} {p q : V3} (hp : VN n d p) (hq : VN n' d' q) : BN (3 * (n + n') + 5 * (d + d') + 2) (3 * (d + d')) (dt p q) :=
  (BN.add (BN.add (BN.mul hp.x hq.x) (BN.mul hp.y hq.y)) (BN.mul hp.z hq.z)).le (by omega) (by omega)
theorem VN.va {n d n' d' : Nat} {p q : V3} (hp : VN n d p) (hq : VN n' d' q) : VN (n + n' + d + d' + 1) (d + d') (va p q) := ⟨hp.x.add hq.x, hp.y.add hq.y, hp.z.add hq.z⟩
theorem VN.sc {n d n' d' : Nat} {t : Rat} {q : V3} (ht : BN n d t) (hq : VN n' d' q) : VN (n + n') (d + d') (sc t q) := ⟨ht.mul hq.x, ht.mul hq.y, ht.mul hq.z⟩
theorem VN.cr {n d n' d' : Nat} {p q : V3} (hp : VN n d p) (hq : VN n' d' q) : VN (2 * (n + n') + 2 * (d + d') + 1) (2 * (d + d')) (cr p q) :=
  ⟨(BN.sub (BN.mul hp.y hq.z) (BN.mul hp.z hq.y)).le (by omega) (by omega), (BN.sub (BN.mul hp.z hq.x) (BN.mul hp.x hq.z)).le (by omega) (by omega), (BN.sub (BN.mul hp.x hq.y) (BN.mul hp.y hq.x)).le (by omega) (by omega)⟩
theorem VN.mvec {n d n' d' : Nat} {A : M3} {p : V3} (hA : MN n d A) (hp : VN n' d' p) : VN (3 * (n + n') + 5 * (d + d') + 2) (3 * (d + d')) (mvec A p) := ⟨BN.dt hA.a hp, BN.dt hA.b hp, BN.dt hA.c hp⟩
theorem VN.app {n d n' d' : Nat} {A : M3} {p : V3} (hA : MN n d A) (hp : VN n' d' p) : VN (4 * n + 3 * n' + 9 * d + 8 * d' + 3) (4 * d + 3 * d') (app A p) := (VN.va (VN.mvec hA hp) hA.s).le (by omega) (by omega)
theorem VN.rowx {n d n' d' : Nat} {r : V3} {A : M3} (hr : VN n' d' r) (hA : MN n d A) : VN (3 * (n + n') + 5 * (d + d') + 2) (3 * (d + d')) (rowx r A) :=
  (VN.va (VN.va (VN.sc hr.x hA.a) (VN.sc hr.y hA.b)) (VN.sc hr.z hA.c)).le (by omega) (by omega)
theorem MN.comb {n d n' d' : Nat} {A C : M3} (hA : MN n d A) (hC : MN n' d' C) : MN (3 * n + 4 * n' + 8 * d + 9 * d' + 3) (3 * d + 4 * d') (comb A C) :=
  ⟨(VN.rowx hC.a hA).le (by omega) (by omega), (VN.rowx hC.b hA).le (by omega) (by omega), (VN.rowx hC.c hA).le (by omega) (by omega), (VN.app hC hA.s).le (by omega) (by omega)⟩
/-! where they stand -/
section
variable {K : PySem.W.Frag} {H H' : Hp}
def Qt (K : PySem.W.Frag) (H : Hp) (a : Addr) (q : Rat) : Prop := SqT K H a [.int q.num, .int (q.den : Int)]
def Vc (K : PySem.W.Frag) (H : Hp) (v : Addr) (p : V3) : Prop := ∃ a b c : Addr, SqT K H v [.ref a, .ref b, .ref c] ∧ SqT K H a [.int p.x.num, .int (p.x.den : Int)] ∧ SqT K H b [.int p.y.num, .int (p.y.den : Int)] ∧ SqT K H c [.int p.z.num, .int (p.z.den : Int)]
def Rw (K : PySem.W.Frag) (H : Hp) (r : Addr) (p q s : V3) : Prop := ∃ a b c : Addr, SqT K H r [.ref a, .ref b, .ref c] ∧ Vc K H a p ∧ Vc K H b q ∧ Vc K H c s
def Mv (K : PySem.W.Frag) (H : Hp) (m : Addr) (A : M3) : Prop := ∃ r s : Addr, SqT K H m [.ref r, .ref s] ∧ Rw K H r A.a A.b A.c ∧ Vc K H s A.s
theorem Vc.tk {v : Addr} {p : V3} (t : TK K H H') (h : Vc K H v p) : Vc K H' v p := by
  obtain ⟨a, b, c, h1, h2, h3, h4⟩ := h
  exact ⟨a, b, c, t _ _ h1, t _ _ h2, t _ _ h3, t _ _ h4⟩
theorem Rw.tk {v : Addr} {p q s : V3} (t : TK K H H') (h : Rw K H v p q s) : Rw K H' v p q s := by
  obtain ⟨a, b, c, h1, h2, h3, h4⟩ := h
  exact ⟨a, b, c, t _ _ h1, h2.tk t, h3.tk t, h4.tk t⟩
theorem Mv.tk {v : Addr} {A : M3} (t : TK K H H') (h : Mv K H v A) : Mv K H' v A := by
  obtain ⟨a, b, h1, h2, h3⟩ := h
  exact ⟨a, b, t _ _ h1, h2.tk t, h3.tk t⟩
/-! as data -/
def qD (q : Rat) : PyData := .tuple [.int q.num, .int (q.den : Int)]
def vD (p : V3) : PyData := .tuple [qD p.x, qD p.y, qD p.z]
def mD (A : M3) : PyData := .tuple [.tuple [vD A.a, vD A.b, vD A.c], vD A.s]
theorem qt_dp {a : Addr} {q : Rat} (h : SqT K H a [.int q.num, .int (q.den : Int)]) : Dp K H (.ref a) (qD q) := .tup h (.cons (.int _) (.cons (.int _) .nil))
theorem Vc.dp {v : Addr} {p : V3} (h : Vc K H v p) : Dp K H (.ref v) (vD p) := by
  obtain ⟨a, b, c, h1, h2, h3, h4⟩ := h
  exact .tup h1 (.cons (qt_dp h2) (.cons (qt_dp h3) (.cons (qt_dp h4) .nil)))
theorem Mv.dp {v : Addr} {A : M3} (h : Mv K H v A) : Dp K H (.ref v) (mD A) := by
  obtain ⟨r, s, h1, ⟨a, b, c, h2, h3, h4, h5⟩, h6⟩ := h
  exact .tup h1 (.cons (.tup h2 (.cons h3.dp (.cons h4.dp (.cons h5.dp .nil)))) (.cons h6.dp .nil))
end
/-- ints and tuples alone, no deeper than n -/
def TI : Nat → PyData → Prop
  | 0, _ => False
  | n + 1, .int _ => True
  | n + 1, .tuple ds => ds.length ≤ 1000 ∧ ∀ d, d ∈ ds → TI n d
  | n + 1, .list ds => ds.length ≤ 1000 ∧ ∀ d, d ∈ ds → TI n d
  | _ + 1, _ => False
theorem ti_q {n : Nat} (q : Rat) : TI (n + 2) (qD q) := by
  refine ⟨(by decide : 2 ≤ 1000), fun d hd => ?_⟩
  simp only [List.mem_cons, List.not_mem_nil, or_false] at hd
  rcases hd with rfl | rfl <;> exact trivial
theorem ti_v {n : Nat} (p : V3) : TI (n + 3) (vD p) := by
  refine ⟨(by decide : 3 ≤ 1000), fun d hd => ?_⟩
  simp only [List.mem_cons, List.not_mem_nil, or_false] at hd
  rcases hd with rfl | rfl | rfl <;> exact ti_q _
theorem ti_m (A : M3) : TI 6 (mD A) := by
  refine ⟨(by decide : 2 ≤ 1000), fun d hd => ?_⟩
  simp only [List.mem_cons, List.not_mem_nil, or_false] at hd
  rcases hd with rfl | rfl
  · refine ⟨(by decide : 3 ≤ 1000), fun d hd => ?_⟩
    simp only [List.mem_cons, List.not_mem_nil, or_false] at hd
    rcases hd with rfl | rfl | rfl <;> exact ti_v (n := 1) _
  · exact ti_v (n := 2) _
section
variable {K : PySem.W.Frag} {H : Hp} {Q : VK}
theorem DpAll.len {xs : List V} {ds : List PyData} (h : DpAll K H xs ds) : xs.length = ds.length := by
  match xs, ds, h with
  | [], [], _ => rfl
  | _ :: _, _ :: _, .cons _ t => exact congrArg (· + 1) (DpAll.len t)
theorem DpAll.get {xs : List V} {ds : List PyData} (h : DpAll K H xs ds) {i : Nat} {d : PyData} (e : ds[i]? = some d) : ∃ x, xs[i]? = some x ∧ Dp K H x d := by
  match xs, ds, h, i with
  | [], [], _, _ => simp at e
  | x :: _, _ :: _, .cons a t, 0 =>
    cases e
    exact ⟨x, rfl, a⟩
  | _ :: _, _ :: _, .cons _ t, i + 1 => exact DpAll.get t e
theorem atI_k {α : Type} {xs : List α} {i : Nat} {x : α} (h : xs[i]? = some x) : atI xs (0 + (i : Int)) = some x := by
  rw [Int.zero_add]
  exact atI_nat h
end
end My
namespace My
open PySem L2 PySem.Calls PyProof.Rows
/-! x is True, x is False -/
section
variable {M : Model} {A : Around} {E : Value → Shared → Prop} {s : Shared} {Q : Value → Shared → Prop}
theorem is_bool_gen {v : Value} {b : Bool} (hn : ∀ id, v ≠ .builtin id) (h : Q (.bool (v == .bool b)) s) : wpAny M A (compareOp .Is v (.bool b)) Q E s := by
  cases v <;> first | exact wpAny_pure h | exact absurd rfl (hn _)
end
def rIsB : R2 := fun x y H Q => ∃ b, y = .bl b ∧ Q (.bl (decide (x = .bl b))) H
theorem op_isB {X : Cx} : OpR X (compareOp .Is) rIsB := by
  intro pins s σ H x y v u Q I rx ry h
  obtain ⟨b, rfl, q⟩ := h
  cases ry
  refine is_bool_gen (fun id e => ?_) (fin_bl I q ?_)
  · subst e
    cases x <;> first
      | (cases rx; done)
      | (obtain ⟨t, z⟩ := rx; cases z; done)
  · cases x <;> first
      | (cases rx; rfl)
      | (cases rx; cases b <;> rename_i z <;> cases z <;> rfl)
      | (obtain ⟨t, rfl⟩ := rx; rfl)
theorem r_isB {H : Hp} {Q : VK} {x : V} {b : Bool} (h : Q (.bl (decide (x = .bl b))) H) : rIsB x (.bl b) H Q := ⟨b, rfl, h⟩
/-! lcm of four -/
set_option Elab.async true in
theorem run_lcm4 (a b c d : Int) (t1 t2 t3 t4 : Tok) (h1 : ¬(max 1 a.natAbs).log2 / 30 + 1 > 450) (h2 : ¬(max (Nat.lcm 1 a.natAbs) b.natAbs).log2 / 30 + 1 > 450) (h3 : ¬(max ((Nat.lcm 1 a.natAbs).lcm b.natAbs) c.natAbs).log2 / 30 + 1 > 450) (h4 : ¬(max (((Nat.lcm 1 a.natAbs).lcm b.natAbs).lcm c.natAbs) d.natAbs).log2 / 30 + 1 > 450)
    (hz : (((((Nat.lcm 1 a.natAbs).lcm b.natAbs).lcm c.natAbs).lcm d.natAbs : Nat) : Int).natAbs.log2 < bitsLine) :
    Gives (Builtin.«math.lcm» ⟨[.int a t1, .int b t2, .int c t3, .int d t4], []⟩) (.int (((((Nat.lcm 1 a.natAbs).lcm b.natAbs).lcm c.natAbs).lcm d.natAbs : Nat) : Int)) :=
  .of_wp fun M A E s Q h => by
    obtain ⟨hp, gens, drw, tk, os⟩ := s
    wp_walk
    refine wpAny_ite_false (decide_eq_false h2) ?_
    wp_walk
    refine wpAny_ite_false (decide_eq_false h3) ?_
    wp_walk
    refine wpAny_ite_false (decide_eq_false h4) ?_
    wp_walk
    first | done | exact ⟨_, rfl, h⟩ | (refine wpAny_ite_false (decide_eq_false (Nat.not_le.mpr hz)) ?_; wp_walk; exact ⟨_, rfl, h⟩)
in #guard_msgs in universe u_z
theorem args_lcm4 (a b c d : Value) : argsOk "math.lcm" ⟨[a, b, c, d], []⟩ := by unfold argsOk; kernel_rfl
theorem l1 (m : Nat) : Nat.lcm 1 m = m := by simp [Nat.lcm]
theorem lcm_le {a b : Nat} : a.lcm b ≤ a * b := by
  unfold Nat.lcm
  exact Nat.div_le_self _ _
theorem lcm_lt {a b i j : Nat} (h1 : a < 2 ^ i) (h2 : b < 2 ^ j) : a.lcm b < 2 ^ (i + j) := by
  refine Nat.lt_of_le_of_lt lcm_le ?_
  rw [Nat.pow_add]
  exact Nat.mul_lt_mul'' h1 h2
theorem log_lt {n k : Nat} (h : n < 2 ^ (k + 1)) : n.log2 ≤ k := PySem.W.mg_log h
theorem log_mx {a b i : Nat} (h1 : a < 2 ^ (i + 1)) (h2 : b < 2 ^ (i + 1)) (hi : i ≤ 13400) : ¬(max a b).log2 / 30 + 1 > 450 := by
  have : max a b < 2 ^ (i + 1) := by omega
  have := log_lt this
  omega
def rLcm4 : List V → Hp → VK → Prop := fun xs H Q => ∃ (a b c d : Int) (k : Nat), xs = [.int a, .int b, .int c, .int d] ∧ 0 < a ∧ 0 < b ∧ 0 < c ∧ 0 < d ∧ B k a ∧ B k b ∧ B k c ∧ B k d ∧ k ≤ 3000 ∧
  ∀ L : Int, 0 < L → a ∣ L → b ∣ L → c ∣ L → d ∣ L → (∀ D : Int, a ∣ D → b ∣ D → c ∣ D → d ∣ D → L ∣ D) → Q (.int L) H
set_option Elab.async true in
theorem Vals.int4 {a b c d : Int} {us : List Value} (r : Vals [V.int a, V.int b, V.int c, V.int d] us) : ∃ t1 t2 t3 t4, us = [Value.int a t1, Value.int b t2, Value.int c t3, Value.int d t4] := by
  cases r with
  | cons r1 r =>
    cases r with
    | cons r2 r =>
      cases r with
      | cons r3 r =>
        cases r with
        | cons r4 r =>
          cases r
          obtain ⟨t1, rfl⟩ := r1
          obtain ⟨t2, rfl⟩ := r2
          obtain ⟨t3, rfl⟩ := r3
          obtain ⟨t4, rfl⟩ := r4
          exact ⟨_, _, _, _, rfl⟩
in #guard_msgs in universe u_z
theorem cr_lcm4 {X : Cx} : CallR X (.builtin "math.lcm") rLcm4 := by
  intro pins s σ H vs us Q I r h
  obtain ⟨a, b, c, d, k, rfl, pa, pb, pc, pd, ba, bb, bc, bd, hk, q⟩ := h
  obtain ⟨t1, t2, t3, t4, rfl⟩ := Vals.int4 r
  have e1 := ba.lt
  have e2 := bb.lt
  have e3 := bc.lt
  have e4 := bd.lt
  have m2 := lcm_lt e1 e2
  have m3 := lcm_lt m2 e3
  have m4 := lcm_lt m3 e4
  have up : ∀ {n i j : Nat}, n < 2 ^ i → i ≤ j → n < 2 ^ j := fun h hij => Nat.lt_of_lt_of_le h (Nat.pow_le_pow_right (by decide) hij)
  have o1 : (1 : Nat) < 2 ^ (13400 + 1) := up (i := 1) (by decide) (by decide)
  have g := run_lcm4 a b c d t1 t2 t3 t4 (log_mx o1 (up e1 (by omega)) (Nat.le_refl _))
    (by rw [l1]; exact log_mx (up e1 (by omega)) (up e2 (by omega)) (Nat.le_refl _)) (by rw [l1]; exact log_mx (up m2 (by omega)) (up e3 (by omega)) (Nat.le_refl _))
    (by rw [l1]; exact log_mx (up m3 (by omega)) (up e4 (by omega)) (Nat.le_refl _))
    (by rw [l1, Int.natAbs_natCast]
        refine Nat.lt_of_le_of_lt (log_lt (k := 13400) (up m4 (by omega))) ?_
        decide)
  rw [l1] at g
  refine call_function_meets PySem.W.MGF.kind_lcm PySem.W.MGF.plain_lcm PySem.W.MGF.entry_lcm (args_lcm4 _ _ _ _) g.meets ⟨.int _, H, I.tok _, ⟨_, rfl⟩, q _ ?_ ?_ ?_ ?_ ?_ ?_⟩
  · have z1 : 0 < a.natAbs.lcm b.natAbs := Nat.lcm_pos (by omega) (by omega)
    have z2 := Nat.lcm_pos z1 (show 0 < c.natAbs by omega)
    have z3 := Nat.lcm_pos z2 (show 0 < d.natAbs by omega)
    omega
  · exact Int.natAbs_dvd_natAbs.1 (Nat.dvd_trans (Nat.dvd_lcm_left _ _) (Nat.dvd_trans (Nat.dvd_lcm_left _ _) (Nat.dvd_lcm_left _ _)))
  · exact Int.natAbs_dvd_natAbs.1 (Nat.dvd_trans (Nat.dvd_lcm_right _ _) (Nat.dvd_trans (Nat.dvd_lcm_left _ _) (Nat.dvd_lcm_left _ _)))
  · exact Int.natAbs_dvd_natAbs.1 (Nat.dvd_trans (Nat.dvd_lcm_right _ _) (Nat.dvd_lcm_left _ _))
  · exact Int.natAbs_dvd_natAbs.1 (Nat.dvd_lcm_right _ _)
  · intro D h1 h2 h3 h4
    exact Int.natAbs_dvd_natAbs.1 (Nat.lcm_dvd (Nat.lcm_dvd (Nat.lcm_dvd (Int.natAbs_dvd_natAbs.2 h1) (Int.natAbs_dvd_natAbs.2 h2)) (Int.natAbs_dvd_natAbs.2 h3)) (Int.natAbs_dvd_natAbs.2 h4))
theorem r_lcm4 {H : Hp} {Q : VK} {a b c d : Int} {k : Nat} (pa : 0 < a) (pb : 0 < b) (pc : 0 < c) (pd : 0 < d) (ba : B k a) (bb : B k b) (bc : B k c) (bd : B k d) (hk : k ≤ 3000)
    (q : ∀ L : Int, 0 < L → a ∣ L → b ∣ L → c ∣ L → d ∣ L → (∀ D : Int, a ∣ D → b ∣ D → c ∣ D → d ∣ D → L ∣ D) → Q (.int L) H) : rLcm4 [.int a, .int b, .int c, .int d] H Q := ⟨a, b, c, d, k, rfl, pa, pb, pc, pd, ba, bb, bc, bd, hk, q⟩
/-! chains of what stays -/
section
variable {K : PySem.W.Frag} {H H' H0 : Hp} {s l : Addr} {xs : List V} {y : V}
theorem tkap {a : Addr} {ys : List V} (t : TK K H H') (h : SqT K H a ys) : SqT K H' a ys := t _ _ h
theorem Vc.same {v : Addr} {p : V3} (e : Same H H') (h : Vc K H v p) : Vc K H' v p := h.tk (TK.same e)
theorem Vc.fr {v : Addr} {p : V3} (e : Fr s H H') (st : St K H s) (h : Vc K H v p) : Vc K H' v p := h.tk (TK.fr e st)
theorem Mv.same {v : Addr} {p : M3} (e : Same H H') (h : Mv K H v p) : Mv K H' v p := h.tk (TK.same e)
theorem Mv.fr {v : Addr} {p : M3} (e : Fr s H H') (st : St K H s) (h : Mv K H v p) : Mv K H' v p := h.tk (TK.fr e st)
theorem Rw.same {v : Addr} {p q r : V3} (e : Same H H') (h : Rw K H v p q r) : Rw K H' v p q r := h.tk (TK.same e)
theorem Rw.fr {v : Addr} {p q r : V3} (e : Fr s H H') (st : St K H s) (h : Rw K H v p q r) : Rw K H' v p q r := h.tk (TK.fr e st)
/-- an own list grows, what is younger stays too -/
theorem r_appK {Q : VK} (nl : H0 l = none) (e : Same H0 H) (h : H l = some (.lst xs)) (hz : xs.length < 100000)
    (q : ∀ H1, Same H0 H1 → TK K H H1 → H1 l = some (.lst (xs ++ [y])) → Q .non H1) : rAppend (.ref l) [y] H Q := r_app h hz (q _ (Same.mut e nl) (TK.upd h) upd_same)
end
end My
namespace My
open PySem L2
theorem Vc.mk {K : PySem.W.Frag} {H : Hp} {v a b c : Addr} {x y z : Rat} (h : SqT K H v [.ref a, .ref b, .ref c]) (h1 : SqT K H a [.int x.num, .int (x.den : Int)]) (h2 : SqT K H b [.int y.num, .int (y.den : Int)]) (h3 : SqT K H c [.int z.num, .int (z.den : Int)]) : Vc K H v ⟨x, y, z⟩ := ⟨a, b, c, h, h1, h2, h3⟩
theorem Rw.mk {K : PySem.W.Frag} {H : Hp} {v a b c : Addr} {x y z : V3} (h : SqT K H v [.ref a, .ref b, .ref c]) (h1 : Vc K H a x) (h2 : Vc K H b y) (h3 : Vc K H c z) : Rw K H v x y z := ⟨a, b, c, h, h1, h2, h3⟩
theorem Mv.mk {K : PySem.W.Frag} {H : Hp} {v r t : Addr} {x y z s : V3} (h : SqT K H v [.ref r, .ref t]) (h1 : Rw K H r x y z) (h2 : Vc K H t s) : Mv K H v ⟨x, y, z, s⟩ := ⟨r, t, h, h1, h2⟩
end My
namespace My
open PySem L2
section
variable {K : PySem.W.Frag} {H : Hp} {Q : VK}
theorem r_isNi {i : Int} (h : Q (.bl false) H) : rIsNo (.int i) .non H Q := ⟨rfl, h⟩
theorem r_isBi {i : Int} {b : Bool} (h : Q (.bl false) H) : rIsB (.int i) (.bl b) H Q := ⟨b, rfl, h⟩
theorem r_isBr {a : Addr} {b : Bool} (h : Q (.bl false) H) : rIsB (.ref a) (.bl b) H Q := ⟨b, rfl, h⟩
theorem r_lnT {a : Addr} {xs : List V} (h : SqT K H a xs) (q : Q (.int xs.length) H) : rLen K [.ref a] H Q := ⟨a, xs, rfl, .inr h, q⟩
theorem r_lnL {a : Addr} {xs : List V} (h : SqL K H a xs) (q : Q (.int xs.length) H) : rLen K [.ref a] H Q := ⟨a, xs, rfl, .inl h, q⟩
end
end My
namespace My
open PySem L2
/-! an index into a tuple or a list; name op= e; range of two -/
section
variable {X : Cx} {K : PySem.W.Frag} {σ : L2.St} {H : Hp} {D : Ends} {te : TE} {u : TS} {Q : VK} {i : Nat} {x v : V} {ti : TIp}
def rIxA (K : PySem.W.Frag) : R2 := fun x y H Q => rIxT K x y H Q ∨ rIxL K x y H Q
theorem kx_any (h : X.K = K) : IxR X (rIxA K) := h ▸ IxR.or ix_tup ix_list
theorem r_ixAT {p : Addr} {xs : List V} {i : Int} (q : SqT K H p xs) (a : atI xs i = some v) (h : Q v H) : rIxA K (.ref p) (.int i) H Q := .inl (r_ixT q a h)
theorem r_ixAL {p : Addr} {xs : List V} {i : Int} (q : SqL K H p xs) (a : atI xs i = some v) (h : Q v H) : rIxA K (.ref p) (.int i) H Q := .inr (r_ixL q a h)
theorem w_aug (e : σ[i]? = some (some x)) (h : te σ H fun y H1 => ti x y H1 fun z H2 => D.nx (σ.set i (some z)) H2) : tAug i te ti D σ H := ⟨x, e, h⟩
theorem w_seqAug (e : σ[i]? = some (some x)) (h : te σ H fun y H1 => ti x y H1 fun z H2 => u D (σ.set i (some z)) H2) : tSeq (tAug i te ti) u D σ H := ⟨x, e, h⟩
theorem r_ip {f : Int → Int → Int} {i j : Int} (h : Q (.int (f i j)) H) : ipI f (.int i) (.int j) H Q := ⟨i, j, rfl, rfl, h⟩
def iR2 (vs : List V) (H : Hp) (R : It → Hp → Prop) : Prop := ∃ i j : Int, vs = [.int i, .int j] ∧ (-(2 ^ 62) ≤ i ∧ i < 2 ^ 62 ∧ -(2 ^ 62) ≤ j ∧ j < 2 ^ 62) ∧ R (Itr i (j - i).toNat) H
theorem w_iR2 {R : It → Hp → Prop} {t : TA} (h : t σ H fun vs H1 => iR2 vs H1 R) : iRng2 t σ H R := h
theorem r_iR2 {R : It → Hp → Prop} {i j : Int} (h1 : (-1000000 ≤ i ∧ i ≤ 1000000) ∧ (-1000000 ≤ j ∧ j ≤ 1000000)) (h : R (Itr i (j - i).toNat) H) : iR2 [.int i, .int j] H R := ⟨i, j, rfl, by omega, h⟩
end
/-- not the shape of a store -/
def notS : List V → Bool
  | [.ref _, .int _, .int _, .int _, .int _, .int _, .int _] => false
  | _ => true
theorem st_ne {K : PySem.W.Frag} {H : Hp} {s l : Addr} {xs : List V} (st : St K H s) (h : H l = some (.lst xs)) (hx : notS xs = true) : l ≠ s := by
  rintro rfl
  obtain ⟨l', ns, i1, i2, i3, i4, i5, i6, st⟩ := st
  rw [st.at_] at h
  cases h
  cases hx
theorem Fr.seqN {K : PySem.W.Frag} {H H' : Hp} {s a : Addr} {xs : List V} (e : Fr s H H') (st : St K H s) (h : SqL K H a xs) (hx : notS xs = true) : SqL K H' a xs := by
  obtain ⟨l, ns, i1, i2, i3, i4, i5, i6, st⟩ := st
  rcases h with (h | ⟨o, h⟩) | h
  · refine .inl (.inl (e.keep _ _ (fun q => ?_) h))
    rw [q, st.at_] at h
    cases h
    cases hx
  · refine .inl (.inr ⟨o, e.keep _ _ (fun q => ?_) h⟩)
    rw [q, st.at_] at h
    cases h
  · exact .inr h
theorem Fr.lstN {K : PySem.W.Frag} {H H' : Hp} {s a : Addr} {xs : List V} (e : Fr s H H') (st : St K H s) (h : H a = some (.lst xs)) (hx : notS xs = true) : H' a = some (.lst xs) := e.keep _ _ (st_ne st h hx) h
theorem notS_len {xs : List V} (h : (xs.length == 7) = false) : notS xs = true := by
  unfold notS
  split
  · cases h
  · rfl
/-! levels of light -/
structure Lv (u b : Rat) (z r : Int) : Prop where
  lo : 0 ≤ r
  hi : r ≤ z
  le : ((r * r : Int) : Rat) * u ≤ b
  gt : ∀ k : Int, r < k → k ≤ z → b < ((k * k : Int) : Rat) * u
theorem Lv.uniq {u b : Rat} {z r r' : Int} (h : Lv u b z r) (h' : Lv u b z r') : r = r' := by
  rcases Int.lt_trichotomy r r' with q | q | q
  · have := h.gt r' q h'.hi
    have := h'.le
    grind
  · exact q
  · have := h'.gt r q h.hi
    have := h.le
    grind
def LvV (p q : V3) (z r : Int) : Prop := Lv (dt p p * dt q q) (((z * z : Int) : Rat) * (dt p q * dt p q)) z r
theorem dt_comm (p q : V3) : dt p q = dt q p := by
  simp only [dt]
  grind
theorem LvV.sym {p q : V3} {z r : Int} (h : LvV q p z r) : LvV p q z r := by
  unfold LvV at *
  rw [dt_comm q p, Rat.mul_comm (dt q q)] at h
  exact h
theorem LvV.neg {p q : V3} {z r : Int} (h : LvV (sc ((-1 : Int) : Rat) p) q z r) : LvV p q z r := by
  unfold LvV at *
  rw [show ((-1 : Int) : Rat) = -1 by simp] at h
  have e1 : dt (sc (-1) p) (sc (-1) p) = dt p p := by
    simp only [dt, sc]
    grind
  have e2 : dt (sc (-1) p) q * dt (sc (-1) p) q = dt p q * dt p q := by
    simp only [dt, sc]
    grind
  rw [e1, e2] at h
  exact h
theorem sq_nn (x : Rat) : 0 ≤ x * x := by
  rcases (Rat.le_total : (0 : Rat) ≤ x ∨ x ≤ 0) with h | h
  · exact Rat.mul_nonneg h h
  · have e : x * x = (-x) * (-x) := by grind
    rw [e]
    exact Rat.mul_nonneg (by grind) (by grind)
theorem zz_nn (z : Int) (x : Rat) : 0 ≤ ((z * z : Int) : Rat) * (x * x) := by
  rw [Rat.intCast_mul]
  exact Rat.mul_nonneg (sq_nn _) (sq_nn _)
end My
namespace My
open PySem L2
section
variable {K : PySem.W.Frag} {σ : L2.St} {H H' : Hp} {te : TE}
/-- a written ratio -/
theorem SqT.ofRat {p : Addr} {a b : Int} (h : SqT K H p [.int a, .int b]) (hb : 0 < b) (hc : Nat.gcd a.natAbs b.natAbs = 1) : SqT K H p [.int ((a : Rat) / (b : Rat)).num, .int (((a : Rat) / (b : Rat)).den : Int)] := by
  obtain ⟨e1, e2⟩ := num_of (q := (a : Rat) / b) hb hc rfl
  rw [← e1, ← e2]
  exact h
/-- new tuples -/
def TsA (K : PySem.W.Frag) (rows : List (List V)) (acc : List V) (H : Hp) : Prop := Paired (fun v row => ∃ a, v = V.ref a ∧ SqT K H a row) acc rows
theorem TsA.tk {rows : List (List V)} {acc : List V} (e : TK K H H') (h : TsA K rows acc H) : TsA K rows acc H' := by
  unfold TsA at *
  induction h with
  | nil => exact .nil
  | cons r _ ih =>
    obtain ⟨a, e1, e2⟩ := r
    exact .cons ⟨a, e1, e _ _ e2⟩ ih
theorem TsA.snoc {rows : List (List V)} {acc row : List V} {a : Addr} (h : TsA K rows acc H) (q : SqT K H a row) : TsA K (rows ++ [row]) (acc ++ [.ref a]) H := by
  unfold TsA at *
  induction h with
  | nil => exact .cons ⟨a, rfl, q⟩ .nil
  | cons r _ ih => exact .cons r ih
theorem TsA.three {x y z acc : List V} (h : TsA K [x, y, z] acc H) : ∃ a b c : Addr, acc = [.ref a, .ref b, .ref c] ∧ SqT K H a x ∧ SqT K H b y ∧ SqT K H c z := by
  unfold TsA at h
  cases h with
  | cons r1 h =>
    cases h with
    | cons r2 h =>
      cases h with
      | cons r3 h =>
        cases h
        obtain ⟨a, rfl, ha⟩ := r1
        obtain ⟨b, rfl, hb⟩ := r2
        obtain ⟨c, rfl, hc⟩ := r3
        exact ⟨a, b, c, rfl, ha, hb, hc⟩
set_option Elab.async true in
theorem lc_tupG {a : Addr} {xs : List V} {j : Nat} {vs : List Nat} {Da : Addr} {Qd : Hp → Prop} {G : Hp → Prop} {J : Nat → List V → Hp → Prop} (L : LcG K Da G J) (h0 : G (upd H Da (.lst []))) (hj : J 0 [] (upd H Da (.lst [])))
    (hl : ∀ H1 acc, H1 Da = some (.lst acc) → G H1 → SqT K H1 a xs) (hw : ∀ x, wipe ((wipe σ vs).set j (some x)) vs = wipe σ vs)
    (hs : ∀ i x acc H1, xs[i]? = some x → acc.length = i → H1 Da = some (.lst acc) → G H1 → J i acc H1 → te ((wipe σ vs).set j (some x)) H1 fun y H2 => lcQ Da G J i y H2)
    (hd : ∀ acc H1, acc.length = xs.length → H1 Da = some (.lst acc) → G H1 → J xs.length acc H1 → Qd H1) : lcT (Itt K a) (gName j) tYes te vs σ H Da Qd :=
  lc_tupH G J h0 hj hl hw hs hd
in #guard_msgs in universe u_z
end
end My
namespace My
theorem rat_tri (a b : Rat) : a < b ∨ a = b ∨ b < a := by grind
end My
namespace My
/-! area vectors: sums of cross products along a closed walk -/
def vsb (p q : V3) : V3 := ⟨p.x - q.x, p.y - q.y, p.z - q.z⟩
def vneg (p : V3) : V3 := sc (-1) p
theorem va_comm (p q : V3) : va p q = va q p := by
  apply V3.ext' <;> simp only [va] <;> grind
theorem va_o (p : V3) : va p o3 = p := by
  apply V3.ext' <;> simp only [va, o3] <;> grind
theorem o_va (p : V3) : va o3 p = p := by
  apply V3.ext' <;> simp only [va, o3] <;> grind
theorem cr_self (p : V3) : cr p p = o3 := by
  apply V3.ext' <;> simp only [cr, o3] <;> grind
theorem cr_anti (p q : V3) : cr p q = sc (-1) (cr q p) := by
  apply V3.ext' <;> simp only [cr, sc] <;> grind
theorem sc_va (t : Rat) (p q : V3) : sc t (va p q) = va (sc t p) (sc t q) := by
  apply V3.ext' <;> simp only [va, sc] <;> grind
theorem sc_o (t : Rat) : sc t o3 = o3 := by
  apply V3.ext' <;> simp only [sc, o3] <;> grind
theorem va_neg (p : V3) : va p (sc (-1) p) = o3 := by
  apply V3.ext' <;> simp only [va, sc, o3] <;> grind
/-- the walk from a along the list -/
def path : V3 → List V3 → V3
  | _, [] => o3
  | a, b :: r => va (cr a b) (path b r)
def cyc : List V3 → V3
  | [] => o3
  | a :: r => path a (r ++ [a])
theorem path_mid (a b : V3) (xs ys : List V3) : path a (xs ++ b :: ys) = va (path a (xs ++ [b])) (path b ys) := by
  induction xs generalizing a with
  | nil =>
    show va (cr a b) (path b ys) = va (va (cr a b) o3) (path b ys)
    rw [va_o]
  | cons c r ih =>
    show va (cr a c) (path c (r ++ b :: ys)) = va (va (cr a c) (path c (r ++ [b]))) (path b ys)
    rw [ih, va_assoc]
theorem cyc_rot (xs ys : List V3) : cyc (ys ++ xs) = cyc (xs ++ ys) := by
  cases xs with
  | nil => simp
  | cons a r =>
    cases ys with
    | nil => simp
    | cons b q =>
      show path b ((q ++ a :: r) ++ [b]) = path a ((r ++ b :: q) ++ [a])
      rw [List.append_assoc, List.append_assoc, List.cons_append, List.cons_append, path_mid b a q (r ++ [b]), path_mid a b r (q ++ [a]), va_comm]
theorem path_rev (a b : V3) (xs : List V3) : path b (xs.reverse ++ [a]) = sc (-1) (path a (xs ++ [b])) := by
  induction xs generalizing a with
  | nil =>
    show va (cr b a) o3 = sc (-1) (va (cr a b) o3)
    rw [va_o, va_o, cr_anti]
  | cons c r ih =>
    rw [List.reverse_cons, List.append_assoc]
    show path b (r.reverse ++ c :: [a]) = sc (-1) (va (cr a c) (path c (r ++ [b])))
    rw [path_mid, ih, sc_va]
    show va _ (va (cr c a) o3) = _
    rw [va_o, cr_anti c a, va_comm]
theorem cyc_rev (xs : List V3) : cyc xs.reverse = sc (-1) (cyc xs) := by
  cases xs with
  | nil => exact (sc_o _).symm
  | cons a r =>
    rw [List.reverse_cons, cyc_rot]
    exact path_rev a a r
set_option Elab.async true in
theorem path_tr (a b v : V3) (xs : List V3) : path (va a v) (xs.map (va · v) ++ [va b v]) = va (path a (xs ++ [b])) (cr v (vsb b a)) := by
  induction xs generalizing a with
  | nil =>
    show va (cr (va a v) (va b v)) o3 = va (va (cr a b) o3) (cr v (vsb b a))
    apply V3.ext' <;> simp only [va, cr, o3, vsb] <;> grind
  | cons c r ih =>
    show va (cr (va a v) (va c v)) (path (va c v) (r.map (va · v) ++ [va b v])) = va (va (cr a c) (path c (r ++ [b]))) (cr v (vsb b a))
    rw [ih]
    generalize path c (r ++ [b]) = w
    apply V3.ext' <;> simp only [va, cr, vsb] <;> grind
in #guard_msgs in universe u_z
theorem cyc_tr (v : V3) (xs : List V3) : cyc (xs.map (va · v)) = cyc xs := by
  cases xs with
  | nil => rfl
  | cons a r =>
    show path (va a v) (r.map (va · v) ++ [va a v]) = path a (r ++ [a])
    rw [path_tr]
    generalize path a (r ++ [a]) = w
    apply V3.ext' <;> simp only [va, cr, vsb] <;> grind
set_option Elab.async true in
theorem cyc_rep (xs : List V3) (n : Nat) : cyc (List.replicate n xs).flatten = sc (n : Rat) (cyc xs) := by
  cases xs with
  | nil =>
    have e : (List.replicate n ([] : List V3)).flatten = [] := by induction n with
      | zero => rfl
      | succ n ih => rw [List.replicate_succ, List.flatten_cons, ih]; rfl
    rw [e]
    exact (sc_o _).symm
  | cons a r =>
    cases n with
    | zero =>
      show o3 = _
      apply V3.ext' <;> simp only [sc, o3] <;> grind
    | succ n =>
      rw [List.replicate_succ, List.flatten_cons]
      show path a ((r ++ (List.replicate n (a :: r)).flatten) ++ [a]) = sc _ (path a (r ++ [a]))
      induction n with
      | zero =>
        show path a ((r ++ []) ++ [a]) = sc ((0 + 1 : Nat) : Rat) (path a (r ++ [a]))
        rw [List.append_nil]
        apply V3.ext' <;> simp only [sc] <;> grind
      | succ n ih =>
        rw [List.replicate_succ, List.flatten_cons, List.cons_append, List.append_assoc, List.cons_append, path_mid]
        rw [ih]
        generalize path a (r ++ [a]) = w
        apply V3.ext' <;> simp only [sc, va] <;> (rw [Rat.natCast_add (n + 1) 1]; grind)
in #guard_msgs in universe u_z
set_option Elab.async true in
/-- a part between two corners is cut off -/
theorem cyc_cut (xs m zs : List V3) (p q : V3) : va (cyc (xs ++ [p] ++ q :: zs)) (cyc (p :: m ++ [q])) = cyc (xs ++ p :: m ++ q :: zs) := by
  rw [show xs ++ [p] ++ q :: zs = xs ++ (p :: q :: zs) by simp, show xs ++ p :: m ++ q :: zs = xs ++ (p :: m ++ q :: zs) by simp, ← cyc_rot xs, ← cyc_rot xs]
  show va (path p ((q :: zs ++ xs) ++ [p])) (path p ((m ++ [q]) ++ [p])) = path p (((m ++ q :: zs) ++ xs) ++ [p])
  rw [show ((m ++ q :: zs) ++ xs) ++ [p] = m ++ q :: (zs ++ xs ++ [p]) by simp, show (m ++ [q]) ++ [p] = m ++ q :: [p] by simp, path_mid p q m (zs ++ xs ++ [p]), path_mid p q m [p]]
  show va (va (cr p q) (path q (zs ++ xs ++ [p]))) (va (path p (m ++ [q])) (va (cr q p) o3)) = _
  generalize path q (zs ++ xs ++ [p]) = A
  generalize path p (m ++ [q]) = B
  apply V3.ext' <;> simp only [va, cr, o3] <;> grind
in #guard_msgs in universe u_z
theorem cyc_cut0 (xs zs : List V3) (p : V3) : va (cyc (xs ++ [p] ++ p :: zs)) (cyc [p]) = cyc (xs ++ p :: zs) := by
  rw [show xs ++ [p] ++ p :: zs = xs ++ (p :: p :: zs) by simp, ← cyc_rot xs, ← cyc_rot xs]
  show va (path p ((p :: zs ++ xs) ++ [p])) (va (cr p p) o3) = path p ((zs ++ xs) ++ [p])
  show va (va (cr p p) (path p ((zs ++ xs) ++ [p]))) _ = _
  rw [cr_self, va_o, va_o, o_va]
/-- pair by pair -/
def zsum : List V3 → List V3 → V3
  | a :: as, b :: bs => va (cr a b) (zsum as bs)
  | _, _ => o3
set_option Elab.async true in
theorem zsum_snoc (as bs : List V3) (a b : V3) (h : as.length = bs.length) : zsum (as ++ [a]) (bs ++ [b]) = va (zsum as bs) (cr a b) := by
  induction as generalizing bs with
  | nil =>
    cases bs with
    | nil =>
      show va (cr a b) o3 = va o3 (cr a b)
      rw [va_o, o_va]
    | cons _ _ => cases h
  | cons c r ih =>
    cases bs with
    | nil => cases h
    | cons d q =>
      show va (cr c d) (zsum (r ++ [a]) (q ++ [b])) = va (va (cr c d) (zsum r q)) (cr a b)
      rw [ih q (by simpa using h), va_assoc]
in #guard_msgs in universe u_z
theorem zsum_path (a z : V3) (r : List V3) : zsum (a :: r) (r ++ [z]) = path a (r ++ [z]) := by
  induction r generalizing a with
  | nil => rfl
  | cons b r ih =>
    show va (cr a b) (zsum (b :: r) (r ++ [z])) = va (cr a b) (path b (r ++ [z]))
    rw [ih]
theorem zsum_cyc (ps : List V3) : zsum ps (ps.drop 1 ++ ps.take 1) = cyc ps := by
  cases ps with
  | nil => rfl
  | cons a r => exact zsum_path a a r
/-- as a fan from the first corner -/
def fan (o : V3) : List V3 → V3
  | a :: b :: r => va (cr (vsb a o) (vsb b o)) (fan o (b :: r))
  | _ => o3
theorem fan_path (o a : V3) (r : List V3) : fan o (a :: r) = path (vsb a o) (r.map (vsb · o)) := by
  induction r generalizing a with
  | nil => rfl
  | cons b r ih =>
    show va (cr (vsb a o) (vsb b o)) (fan o (b :: r)) = va (cr (vsb a o) (vsb b o)) (path (vsb b o) (r.map (vsb · o)))
    rw [ih]
theorem vs_va (p o : V3) : vsb p o = va p (sc (-1) o) := by
  apply V3.ext' <;> simp only [va, sc, vsb] <;> grind
theorem path_o (a : V3) (r : List V3) : path a (r ++ [o3]) = path a r := by
  induction r generalizing a with
  | nil =>
    show va (cr a o3) o3 = o3
    apply V3.ext' <;> simp only [va, cr, o3] <;> grind
  | cons b r ih =>
    show va (cr a b) (path b (r ++ [o3])) = va (cr a b) (path b r)
    rw [ih]
set_option Elab.async true in
theorem fan_cyc (a : V3) (r : List V3) : fan a r = cyc (a :: r) := by
  have e := cyc_tr (sc (-1) a) (a :: r)
  rw [← e]
  show fan a r = path (va a (sc (-1) a)) (r.map (va · (sc (-1) a)) ++ [va a (sc (-1) a)])
  rw [va_neg, path_o]
  cases r with
  | nil => rfl
  | cons b q =>
    rw [fan_path]
    show _ = va (cr o3 (va b (sc (-1) a))) (path (va b (sc (-1) a)) (q.map (va · (sc (-1) a))))
    rw [show cr o3 (va b (sc (-1) a)) = o3 by apply V3.ext' <;> simp only [va, cr, o3] <;> grind, o_va, vs_va]
    have : (q.map (vsb · a)) = q.map (va · (sc (-1) a)) := by
      apply List.map_congr_left
      intro c _
      exact vs_va c a
    rw [this]
in #guard_msgs in universe u_z
set_option Elab.async true in
theorem fan_snoc (o : V3) (xs : List V3) (a b : V3) : fan o (xs ++ [a, b]) = va (fan o (xs ++ [a])) (cr (vsb a o) (vsb b o)) := by
  induction xs with
  | nil =>
    show va _ o3 = va o3 _
    rw [va_o, o_va]
  | cons c r ih =>
    cases r with
    | nil =>
      show va (cr (vsb c o) (vsb a o)) (va (cr (vsb a o) (vsb b o)) o3) = va (va (cr (vsb c o) (vsb a o)) o3) (cr (vsb a o) (vsb b o))
      rw [va_o, va_o]
    | cons d q =>
      show va (cr (vsb c o) (vsb d o)) (fan o (d :: q ++ [a, b])) = va (va (cr (vsb c o) (vsb d o)) (fan o (d :: q ++ [a]))) _
      rw [ih, va_assoc]
in #guard_msgs in universe u_z
/-- the area vector -/
def avec (ps : List V3) : V3 := sc (((1 : Int) : Rat) / ((2 : Int) : Rat)) (cyc ps)
end My
namespace My
open PySem L2 PyProof.Rows
/-! lists of vectors -/
section
variable {X : Cx} {K : PySem.W.Frag} {σ : L2.St} {H H' H0 : Hp} {D : Ends} {te ta tb : TE} {Q : VK} {acc acc2 : List V} {ps qs : List V3} {s l a b : Addr}
def VcL (K : PySem.W.Frag) (H : Hp) (acc : List V) (ps : List V3) : Prop := Paired (fun v p => ∃ a : Addr, v = V.ref a ∧ Vc K H a p) acc ps
theorem VcL.nil : VcL K H [] [] := Paired.nil
theorem VcL.tk (e : TK K H H') (h : VcL K H acc ps) : VcL K H' acc ps := Paired.mapP h fun v p ⟨a, e1, e2⟩ => ⟨a, e1, e2.tk e⟩
theorem VcL.len (h : VcL K H acc ps) : acc.length = ps.length := Paired.length h
theorem VcL.get (h : VcL K H acc ps) {i : Nat} {p : V3} (e : ps[i]? = some p) : ∃ a : Addr, acc[i]? = some (.ref a) ∧ Vc K H a p := by
  unfold VcL at h
  induction h generalizing i with
  | nil => simp at e
  | cons r _ ih =>
    cases i with
    | zero =>
      cases e
      obtain ⟨a, rfl, q⟩ := r
      exact ⟨a, rfl, q⟩
    | succ i => exact ih (by simpa using e)
theorem VcL.get' (h : VcL K H acc ps) {i : Nat} {x : V} (e : acc[i]? = some x) : ∃ (a : Addr) (p : V3), x = .ref a ∧ ps[i]? = some p ∧ Vc K H a p := by
  have hl := h.len
  have hi : i < acc.length := (List.getElem?_eq_some_iff.mp e).1
  have e2 : ps[i]? = some ps[i] := List.getElem?_eq_getElem (by omega)
  obtain ⟨a, e3, q⟩ := h.get e2
  rw [e] at e3
  cases e3
  exact ⟨a, _, rfl, e2, q⟩
theorem VcL.append (h : VcL K H acc ps) (h2 : VcL K H acc2 qs) : VcL K H (acc ++ acc2) (ps ++ qs) := by
  unfold VcL at *
  induction h with
  | nil => exact h2
  | cons r _ ih => exact .cons r ih
theorem VcL.one {p : V3} (h : Vc K H a p) : VcL K H [.ref a] [p] := .cons ⟨a, rfl, h⟩ .nil
theorem VcL.snoc {p : V3} (h : VcL K H acc ps) (q : Vc K H a p) : VcL K H (acc ++ [.ref a]) (ps ++ [p]) := h.append (VcL.one q)
theorem VcL.take (h : VcL K H acc ps) (n : Nat) : VcL K H (acc.take n) (ps.take n) := by
  unfold VcL at *
  induction h generalizing n with
  | nil => simpa using Paired.nil
  | cons r _ ih =>
    cases n with
    | zero => exact .nil
    | succ n => exact .cons r (ih n)
theorem VcL.drop (h : VcL K H acc ps) (n : Nat) : VcL K H (acc.drop n) (ps.drop n) := by
  unfold VcL at *
  induction h generalizing n with
  | nil => simpa using Paired.nil
  | cons r t ih =>
    cases n with
    | zero => exact .cons r t
    | succ n => exact ih n
theorem VcL.reverse (h : VcL K H acc ps) : VcL K H acc.reverse ps.reverse := by
  unfold VcL at *
  induction h with
  | nil => exact .nil
  | cons r _ ih =>
    rw [List.reverse_cons, List.reverse_cons]
    exact VcL.append ih (.cons r .nil)
theorem VcL.rep (h : VcL K H acc ps) (n : Nat) : VcL K H (List.replicate n acc).flatten (List.replicate n ps).flatten := by
  induction n with
  | zero => exact .nil
  | succ n ih =>
    rw [List.replicate_succ, List.replicate_succ, List.flatten_cons, List.flatten_cons]
    exact h.append ih
theorem VcL.notS (h : VcL K H acc ps) : notS acc = true := by
  unfold VcL at h
  cases h with
  | nil => rfl
  | cons r t =>
    cases t with
    | nil =>
      obtain ⟨a, rfl, _⟩ := r
      rfl
    | cons r2 t =>
      obtain ⟨a, rfl, _⟩ := r
      obtain ⟨a2, rfl, _⟩ := r2
      rfl
theorem VcL.dp (h : VcL K H acc ps) : DpAll K H acc (ps.map vD) := by
  unfold VcL at h
  induction h with
  | nil => exact .nil
  | cons r _ ih =>
    obtain ⟨a, rfl, q⟩ := r
    exact .cons q.dp ih
def VL (K : PySem.W.Frag) (H : Hp) (l : Addr) (ps : List V3) : Prop := ∃ acc, H l = some (.lst acc) ∧ VcL K H acc ps
theorem VL.same (e : Same H H') (h : VL K H l ps) : VL K H' l ps := by
  obtain ⟨acc, h1, h2⟩ := h
  exact ⟨acc, e _ _ h1, h2.tk (TK.same e)⟩
theorem VL.fr (e : Fr s H H') (st : St K H s) (h : VL K H l ps) : VL K H' l ps := by
  obtain ⟨acc, h1, h2⟩ := h
  exact ⟨acc, e.keep _ _ (st_ne st h1 h2.notS) h1, h2.tk (TK.fr e st)⟩
theorem VL.dp (h : VL K H l ps) : Dp K H (.ref l) (.list (ps.map vD)) := by
  obtain ⟨acc, h1, h2⟩ := h
  exact .lst (SqL.of h1) h2.dp
/-! slices -/
def ptP (x : V) (H : Hp) (Q : Option Int → Hp → Prop) : Prop := ∃ i, x = .int i ∧ Q (some i) H
theorem w_np {Q : Option Int → Hp → Prop} (h : Q none H) : tNoPart σ H Q := h
theorem w_pt {Q : Option Int → Hp → Prop} (h : te σ H fun x H1 => ptP x H1 Q) : tPart te σ H Q := h
theorem r_ptP {Q : Option Int → Hp → Prop} {i : Int} (h : Q (some i) H) : ptP (.int i) H Q := ⟨i, rfl, h⟩
theorem w_sl {r : V → Option Int → Option Int → Hp → VK → Prop} {tl th : TO} (h : te σ H fun x H1 => tl σ H1 fun l H2 => th σ H2 fun u H3 => r x l u H3 Q) : tSl r te tl th σ H Q := h
def cutP (ps : List V3) (lo hi : Option Int) : List V3 := (ps.drop (HT.sIx ps.length 0 lo)).take (HT.sIx ps.length ps.length hi - HT.sIx ps.length 0 lo)
theorem r_slV {lo hi : Option Int} (q : VL K H a ps) (h : ∀ p H1, H p = none → Same H H1 → VL K H1 p (cutP ps lo hi) → Q (.ref p) H1) : rSlL K (.ref a) lo hi H Q := by
  obtain ⟨acc, h1, h2⟩ := q
  refine ⟨a, acc, rfl, SqL.of h1, fun p np => h p _ np (Same.new np) ⟨_, upd_same, ?_⟩⟩
  unfold cutV cutP
  rw [h2.len]
  exact ((h2.drop _).take _).tk (TK.same (Same.new np))
theorem cut_from {i : Int} (k : Nat) (e : i = (k : Int)) : cutP ps (some i) none = ps.drop k := by
  subst e
  unfold cutP
  rw [HT.sIx_nat, HT.sIx_none]
  rcases Nat.le_total k ps.length with h | h
  · rw [Nat.min_eq_left h, List.take_of_length_le (by simp)]
  · rw [Nat.min_eq_right h, List.drop_of_length_le h]
    simp
theorem cut_to {i : Int} (k : Nat) (e : i = (k : Int)) : cutP ps none (some i) = ps.take k := by
  subst e
  unfold cutP
  rw [HT.sIx_nat, HT.sIx_none, List.drop_zero, Nat.sub_zero]
  rcases Nat.le_total k ps.length with h | h
  · rw [Nat.min_eq_left h]
  · rw [Nat.min_eq_right h, List.take_of_length_le (Nat.le_refl _), List.take_of_length_le h]
set_option Elab.async true in
theorem cut_ft {i j : Int} (k m : Nat) (e : i = (k : Int)) (e2 : j = (m : Int)) : cutP ps (some i) (some j) = (ps.take m).drop k := by
  subst e
  subst e2
  unfold cutP
  rw [HT.sIx_nat, HT.sIx_nat, List.drop_take]
  rcases Nat.le_total k ps.length with h | h
  · rw [Nat.min_eq_left h]
    rcases Nat.le_total m ps.length with h2 | h2
    · rw [Nat.min_eq_left h2]
    · rw [Nat.min_eq_right h2, List.take_of_length_le (by simp), List.take_of_length_le (by simp; omega)]
  · rw [List.drop_of_length_le (by omega), List.drop_of_length_le h]
    simp
in #guard_msgs in universe u_z
/-! xs[::-1] -/
def rRev (K : PySem.W.Frag) : V → Option Int → Hp → VK → Prop := fun x o H Q => o = some (-1) ∧ ∃ a xs, x = .ref a ∧ SqL K H a xs ∧ ∀ p, H p = none → Q (.ref p) (upd H p (.lst xs.reverse))
def tRev (K : PySem.W.Frag) (te : TE) (th : TO) : TE := fun σ H Q => te σ H fun x H1 => th σ H1 fun o H2 => rRev K x o H2 Q
set_option Elab.async true in
theorem pe_rev (hK : X.K = K) {e st : Expr} {th : TO} {pos p2 : Pos} (he : PE X e te) (hst : PO X (some st) th) : PE X (.Subscript e (.Slice none none (some st) p2) pos) (tRev K te th) := by
  subst hK
  refine ⟨fun pins s σ H Q I h => ?_⟩
  refine Subscript_ (thn (he.run pins s σ H _ I h) fun v s1 ⟨x, H1, I1, r1, q1⟩ => ?_)
  refine wpAny_Slice ?_
  rw [evalPart_none]
  refine wpAny_pure ?_
  refine wpAny_pure ?_
  refine thn (hst.run pins s1 σ H1 _ I1 q1) fun vk s3 ⟨o, H3, I3, pk, ho, a, xs, hx, hq, q3⟩ => ?_
  subst ho
  subst hx
  cases r1
  have I4 : Inv X pins σ H3 { s3 with heap := s3.heap.push { cls := .type "slice", data := .fields #[.none, .none, vk] } } := I3.kept (t' := s3.toks) fun b ob q => Heap.get?_push_of_some _ q
  obtain ⟨its, r, ht, hz⟩ := I4.list hq
  have hlen := r.length
  refine tail_any (ops := [.ref a, .ref s3.heap.objs.size]) ht.isList.typeIs slot_list_getitem.lookup ?_ (by with_unfolding_all rfl)
  refine wpAny_getItem_list_slice ht.isList (Heap.IsSliceOf.new ..) .none .none pk (by decide) ?_ (by rw [List.size_toArray] <;> omega)
  rw [PySem.W.krv_pick]
  refine ⟨.ref _, _, I4.laid (t' := s3.toks) (o := .lst xs.reverse) (fun b ob q => Heap.get?_push_of_some _ q) (Nat.le_refl _) ?_, rfl, q3 _ (I4.hok.fresh (Nat.le_refl _))⟩
  exact ⟨by rw [List.length_reverse]; omega, _, 0, by simpa using r.reverse, Heap.get?_push_size _ rfl⟩
in #guard_msgs in universe u_z
theorem w_rev {th : TO} (h : te σ H fun x H1 => th σ H1 fun o H2 => rRev K x o H2 Q) : tRev K te th σ H Q := h
theorem r_revV (q : VL K H a ps) (h : ∀ p H1, H p = none → Same H H1 → VL K H1 p ps.reverse → Q (.ref p) H1) : rRev K (.ref a) (some (-1)) H Q := by
  obtain ⟨acc, h1, h2⟩ := q
  exact ⟨rfl, a, acc, rfl, SqL.of h1, fun p np => h p _ np (Same.new np) ⟨_, upd_same, h2.reverse.tk (TK.same (Same.new np))⟩⟩
/-! a + b, a * k, list(a), append, truth -/
theorem r_catV (q : VL K H a ps) (q2 : VL K H b qs) (hn : ps.length + qs.length ≤ 100000) (h : ∀ p H1, H p = none → Same H H1 → VL K H1 p (ps ++ qs) → Q (.ref p) H1) : rCat (.ref a) (.ref b) H Q := by
  obtain ⟨acc, h1, h2⟩ := q
  obtain ⟨acc2, h3, h4⟩ := q2
  refine ⟨a, b, acc, acc2, rfl, rfl, h1, h3, ?_, fun p np => h p _ np (Same.new np) ⟨_, upd_same, (h2.append h4).tk (TK.same (Same.new np))⟩⟩
  rw [h2.len, h4.len]
  exact Nat.le_trans hn (by decide)
set_option Elab.async true in
theorem r_repV {k : Int} (q : VL K H a ps) (hk : 0 ≤ k ∧ k ≤ 1000) (hn : ps.length ≤ 100) (h : ∀ p H1, H p = none → Same H H1 → VL K H1 p (List.replicate k.toNat ps).flatten → Q (.ref p) H1) : rRep (.ref a) (.int k) H Q := by
  obtain ⟨acc, h1, h2⟩ := q
  refine ⟨a, k, acc, rfl, rfl, h1, by omega, by omega, ?_, fun p np => h p _ np (Same.new np) ⟨_, upd_same, (h2.rep _).tk (TK.same (Same.new np))⟩⟩
  rw [h2.len]
  have : ps.length * k.toNat ≤ 100 * 1000 := Nat.mul_le_mul hn (by omega)
  exact Nat.le_trans this (by decide)
in #guard_msgs in universe u_z
theorem r_lstV (q : VL K H a ps) (h : ∀ p H1, H p = none → Same H H1 → VL K H1 p ps → Q (.ref p) H1) : rLst K [.ref a] H Q := by
  obtain ⟨acc, h1, h2⟩ := q
  exact r_lstL (SqL.of h1) fun p H1 np e hp => h p H1 np e ⟨_, hp, h2.tk (TK.same e)⟩
theorem r_lenV (q : VL K H a ps) (h : Q (.int (ps.length : Int)) H) : rLen K [.ref a] H Q := by
  obtain ⟨acc, h1, h2⟩ := q
  exact r_lenL' (SqL.of h1) (h2.len ▸ h)
theorem r_ixV {i : Int} {k : Nat} {p : V3} (q : VL K H a ps) (e : i = (k : Int)) (e2 : ps[k]? = some p) (h : ∀ x : Addr, Vc K H x p → Q (.ref x) H) : rIxL K (.ref a) (.int i) H Q := by
  subst e
  obtain ⟨acc, h1, h2⟩ := q
  obtain ⟨x, e3, v⟩ := h2.get e2
  exact r_ixL (SqL.of h1) (atI_nat e3) (h x v)
set_option Elab.async true in
theorem r_ixVe {p : V3} (q : VL K H a (ps ++ [p])) (h : ∀ x : Addr, Vc K H x p → Q (.ref x) H) : rIxL K (.ref a) (.int (-1)) H Q := by
  obtain ⟨acc, h1, h2⟩ := q
  have hl := h2.len
  obtain ⟨x, e3, v⟩ := h2.get (i := ps.length) (p := p) (by simp)
  rcases List.eq_nil_or_concat acc with rfl | ⟨l, z, rfl⟩
  · simp at hl
  · rw [List.concat_eq_append] at h1 h2 hl e3
    rw [List.length_append, List.length_append] at hl
    have e4 : l.length = ps.length := by simpa using hl
    rw [← e4] at e3
    have e5 : z = .ref x := by simpa using e3
    subst e5
    exact r_ixL (SqL.of h1) (atI_last l _) (h x v)
in #guard_msgs in universe u_z
/-- an own list grows -/
theorem r_appV {p : V3} (nl : H0 l = none) (e : Same H0 H) (q : VL K H l ps) (hv : Vc K H b p) (hz : ps.length < 100000)
    (h : ∀ H1, Same H0 H1 → TK K H H1 → VL K H1 l (ps ++ [p]) → Q .non H1) : rAppend (.ref l) [.ref b] H Q := by
  obtain ⟨acc, h1, h2⟩ := q
  have hl := h2.len
  exact r_app h1 (by omega) (h _ (Same.mut e nl) (TK.upd h1) ⟨_, upd_same, (h2.snoc hv).tk (TK.upd h1)⟩)
theorem r_appG {p : V3} (nl : H0 l = none) (st0 : St K H0 s) (e : Fr s H0 H) (st : St K H s) (q : VL K H l ps) (hv : Vc K H b p) (hz : ps.length < 100000)
    (h : ∀ H1, Fr s H0 H1 → St K H1 s → TK K H H1 → VL K H1 l (ps ++ [p]) → Q .non H1) : rAppend (.ref l) [.ref b] H Q := by
  obtain ⟨acc, h1, h2⟩ := q
  have hl := h2.len
  exact r_app h1 (by omega) (h _ (Fr.mut e nl st0.some) (St.mut st0 e st nl) (TK.upd h1) ⟨_, upd_same, (h2.snoc hv).tk (TK.upd h1)⟩)
def truP (K : PySem.W.Frag) (x : V) (H : Hp) (Q : Bool → Hp → Prop) : Prop := ∃ k, TruV K x H k ∧ Q k H
def tTru (K : PySem.W.Frag) (ta : TE) : TT := fun σ H Q => ta σ H fun x H' => truP K x H' Q
theorem kt_truth (hK : X.K = K) {e : Expr} (ha : PE X e ta) (he : ∀ whole, isTrue e X.env whole = (do let v ← whole; standAt e.pos; holding [v] (truthy v))) : PT X e (tTru K ta) := by
  subst hK
  exact pt_truth ha he
theorem w_tru {Q : Bool → Hp → Prop} (h : ta σ H fun x H' => truP K x H' Q) : tTru K ta σ H Q := h
theorem r_truV {Q : Bool → Hp → Prop} (q : VL K H a ps) (h : Q (!ps.isEmpty) H) : truP K (.ref a) H Q := by
  obtain ⟨acc, h1, h2⟩ := q
  refine ⟨_, .inl ⟨acc, SqL.of h1, rfl⟩, ?_⟩
  have e : acc.isEmpty = ps.isEmpty := by
    have := h2.len
    cases acc <;> cases ps <;> simp_all
  rw [e]
  exact h
/-! zip of two lists of vectors -/
def zipP (K : PySem.W.Frag) (vs : List V) (H1 : Hp) (R : It → Hp → Prop) : Prop := ∃ a b xs ys, vs = [.ref a, .ref b] ∧ ((SqL K H1 a xs ∧ SqL K H1 b ys ∧ R (Itz K a b) H1) ∨ (SqT K H1 a xs ∧ SqT K H1 b ys ∧ R (RZ.ItzT K a b) H1))
theorem kp_zip (hK : X.K = K) {e e2 : Expr} {ta : TA} {p pos tpos : Pos} {elts : List Expr} {kk : Nat} (hg : Gl X "zip") (hm : X.mg "zip" = none) (ha : PA X [e, e2] ta)
    (hs : starEach [e, e2] X.env = (false, eval e X.env) :: starEach [e2] X.env := by rfl) (hpl : (backTo pos (starEach [e2] X.env)).any (·.1) = false := by rfl) :
    PI X (.Tuple elts kk tpos) (.Call (.Name "zip" p) [e, e2] [] pos) (RZ.iZipA K ta) := by
  subst hK
  exact RZ.pi_zipA hg hm ha hs hpl
theorem w_zip {ta : TA} {R : It → Hp → Prop} (h : ta σ H fun vs H1 => zipP K vs H1 R) : RZ.iZipA K ta σ H R := h
theorem r_zipV {R : It → Hp → Prop} (q : VL K H a ps) (q2 : VL K H b qs) (h : R (Itz K a b) H) : zipP K [.ref a, .ref b] H R := by
  obtain ⟨acc, h1, h2⟩ := q
  obtain ⟨acc2, h3, h4⟩ := q2
  exact ⟨a, b, acc, acc2, rfl, .inl ⟨SqL.of h1, SqL.of h3, h⟩⟩
set_option Elab.async true in
theorem f_zipV {g : TG} {t : TS} (hl : ps.length = qs.length) (ha : VL K H a ps) (hb : VL K H b qs) (Pv : Nat → L2.St → Hp → Prop) (h0 : Pv 0 σ H) (hq : ∀ i σ H', Pv i σ H' → Same H H')
    (hs : ∀ (i : Nat) (p q : V3) (x y T : Addr) (σ : L2.St) (H1 H2 : Hp), ps[i]? = some p → qs[i]? = some q → Pv i σ H1 → Same H1 H2 → H2 T = some (.tup [.ref x, .ref y]) → Vc K H2 x p → Vc K H2 y q → g (.ref T) σ H2 fun σ2 H3 => t { D with nx := Pv (i + 1), ct := Pv (i + 1), bk := D.nx } σ2 H3) (hd : ∀ σ H, Pv ps.length σ H → D.nx σ H) : forT (Itz K a b) g t D σ H := by
  obtain ⟨acc, h1, h2⟩ := ha
  obtain ⟨acc2, h3, h4⟩ := hb
  have l1 := h2.len
  have l2 := h4.len
  refine RZ.for_zipL (xs := acc) (ys := acc2) (by omega) Pv h0 (fun i σ H' p => ⟨SqL.of (hq i σ H' p _ _ h1), SqL.of (hq i σ H' p _ _ h3)⟩) ?_ (fun σ H' p => hd σ H' (l1 ▸ p))
  intro i x y T σ H1 ex ey p nT
  have e := hq i σ H1 p
  obtain ⟨a1, p1, rfl, e1, v1⟩ := (h2.tk (TK.same e)).get' ex
  obtain ⟨a2, p2, rfl, e2, v2⟩ := (h4.tk (TK.same e)).get' ey
  have n := Same.new (o := .tup [.ref a1, .ref a2]) nT
  exact hs i p1 p2 a1 a2 T σ H1 _ e1 e2 p n upd_same (v1.same n) (v2.same n)
in #guard_msgs in universe u_z
end
end My

namespace My
open PySem L2
theorem ti_vl {n : Nat} (ps : List V3) (h : ps.length ≤ 1000) : TI (n + 4) (.list (ps.map vD)) := by
  refine ⟨by simpa using h, fun d hd => ?_⟩
  obtain ⟨p, _, rfl⟩ := List.mem_map.mp hd
  exact ti_v p
end My

namespace My
open PySem L2
theorem VN.vs {n d n' d' : Nat} {p q : V3} (hp : VN n d p) (hq : VN n' d' q) : VN (n + n' + d + d' + 1) (d + d') (vsb p q) := ⟨hp.x.sub hq.x, hp.y.sub hq.y, hp.z.sub hq.z⟩
theorem VL.tyx {K : PySem.W.Frag} {H : Hp} {a : Addr} {ps : List V3} (h : VL K H a ps) : TyX K H (.ref a) (.type "list") := by
  obtain ⟨acc, h1, _⟩ := h
  exact SqL.tyx (SqL.of h1)
theorem fan_self (a : V3) (r : List V3) : fan a (a :: r) = fan a r := by
  cases r with
  | nil => rfl
  | cons b q =>
    show va (cr (vsb a a) (vsb b a)) (fan a (b :: q)) = _
    rw [show cr (vsb a a) (vsb b a) = o3 by apply V3.ext' <;> simp only [vsb, cr, o3] <;> grind, o_va]
theorem fan_all (a : V3) (r : List V3) : fan a (a :: r) = cyc (a :: r) := (fan_self a r).trans (fan_cyc a r)
theorem zsum_step {ps qs : List V3} {i : Nat} {p q : V3} (h1 : ps[i]? = some p) (h2 : qs[i]? = some q) : zsum (ps.take (i + 1)) (qs.take (i + 1)) = va (zsum (ps.take i) (qs.take i)) (cr p q) := by
  obtain ⟨l1, e1⟩ := List.getElem?_eq_some_iff.mp h1
  obtain ⟨l2, e2⟩ := List.getElem?_eq_some_iff.mp h2
  rw [List.take_succ_eq_append_getElem l1, List.take_succ_eq_append_getElem l2, e1, e2]
  exact zsum_snoc _ _ _ _ (by simp; omega)
theorem fan_step {ps : List V3} {o a b : V3} {i : Nat} (h1 : ps[i + 1]? = some a) (h2 : ps[i + 2]? = some b) : fan o (ps.take (i + 3)) = va (fan o (ps.take (i + 2))) (cr (vsb a o) (vsb b o)) := by
  obtain ⟨l1, e1⟩ := List.getElem?_eq_some_iff.mp h1
  obtain ⟨l2, e2⟩ := List.getElem?_eq_some_iff.mp h2
  rw [List.take_succ_eq_append_getElem l2, List.take_succ_eq_append_getElem l1, e1, e2, List.append_assoc]
  exact fan_snoc _ _ _ _
theorem fan_two (o b : V3) : fan o [o, b] = o3 := by
  rw [fan_self]
  rfl
theorem cyc_one (a : V3) : cyc [a] = o3 := by
  show va (cr a a) o3 = o3
  rw [cr_self, va_o]
theorem B.pow10 {r : Int} {m : Nat} (h0 : 0 ≤ r) (h1 : r ≤ 10 ^ m) (hm : m ≤ 40) : B 134 r := B.rng (by omega) (Int.lt_of_le_of_lt (Int.le_trans h1 (p10 hm)) (by decide))
end My
namespace My
theorem VN.o3 : VN 1 1 o3 := ⟨⟨B.lit (by decide +kernel), B.lit (by decide +kernel)⟩, ⟨B.lit (by decide +kernel), B.lit (by decide +kernel)⟩, ⟨B.lit (by decide +kernel), B.lit (by decide +kernel)⟩⟩
theorem z3 : (⟨((0 : Int) : Rat), ((0 : Int) : Rat), ((0 : Int) : Rat)⟩ : V3) = My.o3 := by simp [My.o3]
theorem get_mem {α : Type} {xs : List α} {i : Nat} {x : α} (h : xs[i]? = some x) : x ∈ xs := List.mem_of_getElem? h
end My
namespace My
open PySem L2
theorem r_bmV {K : PySem.W.Frag} {H : Hp} {l : Addr} {ps : List V3} {P : Prop} (h : VL K H l ps) (p : P) : bmP K "list" (.ref l) H P := by
  obtain ⟨acc, h1, _⟩ := h
  exact r_bmL (SqL.of h1) p
theorem ne_snoc {α : Type} {ps : List α} (h : ps.isEmpty = false) : ∃ qs q, ps = qs ++ [q] := by
  rcases List.eq_nil_or_concat ps with rfl | ⟨qs, q, e⟩
  · cases h
  · exact ⟨qs, q, by rw [e, List.concat_eq_append]⟩
theorem all_snoc {α : Type} {P : α → Prop} {ps : List α} {q : α} (h : ∀ p, p ∈ ps → P p) (hq : P q) : ∀ p, p ∈ ps ++ [q] → P p := fun p hp => by
  rcases List.mem_append.mp hp with z | z
  · exact h p z
  · rw [List.mem_singleton.mp z]
    exact hq
end My
namespace My
theorem BN.m1 {n d : Nat} {q : Rat} (h : BN n d q) : BN n d (((-1 : Int) : Rat) * q) := by
  rw [show ((-1 : Int) : Rat) * q = -q by rw [show ((-1 : Int) : Rat) = -1 by simp]; grind]
  exact h.neg
theorem VN.m1 {n d : Nat} {p : V3} (h : VN n d p) : VN n d (My.sc ((-1 : Int) : Rat) p) := ⟨h.x.m1, h.y.m1, h.z.m1⟩
theorem avec_rot (ps : List V3) (a : Nat) : avec (ps.drop a ++ ps.take a) = avec ps := by
  unfold avec
  rw [cyc_rot, List.take_append_drop]
theorem avec_tr (ps : List V3) (v : V3) : avec (ps.map (va · v)) = avec ps := by
  unfold avec
  rw [cyc_tr]
theorem sc_sc (s t : Rat) (p : V3) : sc s (sc t p) = sc (s * t) p := by
  apply V3.ext' <;> simp only [sc] <;> grind
theorem avec_rev (ps : List V3) : avec ps.reverse = sc ((-1 : Int) : Rat) (avec ps) := by
  unfold avec
  rw [cyc_rev, show ((-1 : Int) : Rat) = -1 by simp, sc_sc, sc_sc, Rat.mul_comm]
theorem avec_rep (ps : List V3) (m : Int) (hm : 0 ≤ m) : avec (List.replicate m.toNat ps).flatten = sc (m : Rat) (avec ps) := by
  obtain ⟨n, rfl⟩ := Int.eq_ofNat_of_zero_le hm
  unfold avec
  rw [cyc_rep, sc_sc, sc_sc, Rat.mul_comm]
  rfl
set_option Elab.async true in
theorem avec_split (ps : List V3) (a u : Nat) (h1 : a ≤ ps.length) (h2 : a ≤ u) (h3 : u ≤ max a (ps.length - 1)) : va (avec (ps.take (a + 1) ++ ps.drop u)) (avec ((ps.take (u + 1)).drop a)) = avec ps := by
  unfold avec
  rw [← sc_va]
  congr 1
  rcases Nat.lt_or_ge a ps.length with h | h
  · have e1 : ps = ps.take a ++ ps[a] :: ps.drop (a + 1) := by
      rw [← List.drop_eq_getElem_cons h, List.take_append_drop]
    have hu : u < ps.length := by omega
    rcases Nat.lt_or_ge a u with hau | hau
    · have e2 : ps.drop (a + 1) = (ps.drop (a + 1)).take (u - (a + 1)) ++ ps[u] :: ps.drop (u + 1) := by
        rw [← List.drop_eq_getElem_cons hu]
        have e3 := (List.take_append_drop (u - (a + 1)) (ps.drop (a + 1))).symm
        rw [List.drop_drop, show a + 1 + (u - (a + 1)) = u by omega] at e3
        exact e3
      have e4 : ps.take (a + 1) = ps.take a ++ [ps[a]] := List.take_succ_eq_append_getElem h
      have e5 : ps.drop u = ps[u] :: ps.drop (u + 1) := List.drop_eq_getElem_cons hu
      have e6 : (ps.take (u + 1)).drop a = ps[a] :: (ps.drop (a + 1)).take (u - (a + 1)) ++ [ps[u]] := by
        rw [List.drop_take, List.drop_eq_getElem_cons h, show u + 1 - a = (u - (a + 1) + 1) + 1 by omega, List.take_succ_cons, List.cons_append]
        congr 1
        rw [List.take_succ_eq_append_getElem (by simp; omega)]
        congr 2
        rw [List.getElem_drop]
        congr 1
        omega
      rw [e4, e5, e6]
      have c := cyc_cut (ps.take a) ((ps.drop (a + 1)).take (u - (a + 1))) (ps.drop (u + 1)) ps[a] ps[u]
      rw [c]
      congr 1
      conv => rhs; rw [e1, e2]
      simp
    · have eu : u = a := by omega
      subst eu
      have e4 : ps.take (u + 1) = ps.take u ++ [ps[u]] := List.take_succ_eq_append_getElem h
      have e6 : (ps.take (u + 1)).drop u = [ps[u]] := by
        rw [List.drop_take, List.drop_eq_getElem_cons h, show u + 1 - u = 1 by omega]
        rfl
      rw [e4, ← e4, e6, e4, List.drop_eq_getElem_cons h]
      have c := cyc_cut0 (ps.take u) (ps.drop (u + 1)) ps[u]
      rw [c]
      congr 1
      exact e1.symm
  · have ea : a = ps.length := by omega
    have eu : u = ps.length := by omega
    subst ea
    subst eu
    rw [List.take_of_length_le (by omega), List.drop_of_length_le (Nat.le_refl _), List.append_nil]
    exact va_o _
in #guard_msgs in universe u_z
end My
namespace My
open PySem L2 PyProof.Rows
/-! zip of a tuple and a list -/
def ItzM (K : PySem.W.Frag) (a b : Addr) : It where
  go := fun n H => ∃ (xs ys : List V) (x y : V), SqT K H a xs ∧ SqL K H b ys ∧ xs[n]? = some x ∧ ys[n]? = some y
  yld := fun n H v H' => ∃ T x y, v = .ref T ∧ H T = none ∧ H' = upd H T (.tup [x, y]) ∧ (∀ xs, SqT K H a xs → xs[n]? = some x) ∧ ∀ ys, SqL K H b ys → ys[n]? = some y
  stop := fun n H => ∃ xs ys : List V, SqT K H a xs ∧ SqL K H b ys ∧ (xs.length ≤ n ∨ ys.length ≤ n) ∧ n ≤ xs.length ∧ n ≤ ys.length
structure ZpM (a b z TI TO i1 i2 : Addr) (n : Nat) (h : Heap) : Prop where
  zp : IsZip h z TI TO .none
  pi : IsTupOf2 h TI (.ref i1) (.ref i2)
  po : ∃ x y, IsTupOf2 h TO x y
  t1 : h.IsTupleIter i1 a n
  t2 : h.IsListIter i2 b n
theorem zm_sep {a b z TI TO i1 i2 : Addr} (D : ZipApart z TI TO i1 i2 a b) : ZipSep2 z TI TO i1 i2 [i1, a] [i2, b] where
  TIz := D.TIz
  TOz := D.TOz
  TITO := D.TITO
  TIi1 := D.TIi1
  mem1 := by simp
  zf1 := by simp [D.i1z.symm, D.l1z.symm]
  Tf1 := by simp [D.TOi1, D.l1TO.symm]
  TIi2 := D.TIi2
  mem2 := by simp
  zf2 := by simp [D.i2z.symm, D.l2z.symm]
  Tf2 := by simp [D.TOi2, D.l2TO.symm]
  sep1_2 := by simp [D.i12, D.l2i1.symm]
  sep2_1 := by simp [D.i12.symm, D.l1i2.symm]
theorem five {α : Type} {c z TI TO i1 i2 : α} {P : Prop} (h : c ∈ [z, TI, TO, i1, i2]) (h1 : c = z → P) (h2 : c = TI → P) (h3 : c = TO → P) (h4 : c = i1 → P) (h5 : c = i2 → P) : P := by
  simp only [List.mem_cons, List.not_mem_nil, or_false] at h
  rcases h with h | h | h | h | h
  · exact h1 h
  · exact h2 h
  · exact h3 h
  · exact h4 h
  · exact h5 h
theorem off4 {c z TI TO i1 i2 : Addr} (h : c ∉ [z, TI, TO, i1, i2]) : c ≠ z ∧ c ≠ TO ∧ c ≠ i1 ∧ c ≠ i2 := by
  simp only [List.mem_cons, List.not_mem_nil, or_false, not_or] at h
  exact ⟨h.1, h.2.2.1, h.2.2.2.1, h.2.2.2.2⟩
set_option Elab.async true in
theorem turn_zipM {P : Program} {w : World} {K : PySem.W.Frag} {elts : List Expr} {kk : Nat} {tp : Pos} {a b z TI TO i1 i2 : Addr} (D : ZipApart z TI TO i1 i2 a b) :
    Turn P w K (.Tuple elts kk tp) (ItzM K a b) [z, TI, TO, i1, i2] z (ZpM a b z TI TO i1 i2) := by
  have S := zm_sep D
  refine { mem := List.mem_cons_self .., obj := ?_, keep := ?_, item := ?_, done := ?_, self := fun A n s Q E q r => wpAny_pyIter_zip q.zp r }
  · intro n h q c hc
    obtain ⟨o1, g1, _, d1⟩ := q.t1
    obtain ⟨o2, g2, _, d2⟩ := q.t2
    obtain ⟨x, y, po⟩ := q.po
    refine five hc (fun e => e ▸ ⟨_, q.zp, ?_⟩) (fun e => e ▸ ⟨_, q.pi, ?_⟩) (fun e => e ▸ ⟨_, po, ?_⟩) (fun e => e ▸ ⟨o1, g1, ?_⟩) (fun e => e ▸ ⟨o2, g2, ?_⟩)
    all_goals
      intro v y
      first | cases y | (rw [d1] at y; cases y) | (rw [d2] at y; cases y)
  · intro n h h' q hk
    obtain ⟨x, y, po⟩ := q.po
    exact ⟨hk z (by simp) _ q.zp, hk TI (by simp) _ q.pi, ⟨x, y, hk TO (by simp) _ po⟩, q.t1.at fun o e => hk i1 (by simp) o e, q.t2.at fun o e => hk i2 (by simp) o e⟩
  · rintro X rfl rfl rfl hc n pins s σ H E I hf q ⟨xs, ys, x, y, qx, qy, hx, hy⟩
    obtain ⟨us, ru, tu, _⟩ := I.tuple qx
    obtain ⟨ws, rw', tw, _⟩ := I.list qy
    have tu' : s.heap.IsTuple a us.toArray := tu
    obtain ⟨u, hu, vu⟩ := ru.get hx
    obtain ⟨t, ht, vt⟩ := rw'.get hy
    obtain ⟨x0, y0, po⟩ := q.po
    have l1 := (List.getElem?_eq_some_iff.mp hu).1
    have l2 := (List.getElem?_eq_some_iff.mp ht).1
    have hh : X.A.in1.handled = none := I.ok.hd hc
    have zlt : z < s.heap.objs.size := Heap.lt_size q.zp
    refine wpAny_pyNext_zipD2_item S (Draws.tuple hh i1 a D.l1i1 us.toArray) (Draws.list hh i2 b D.l2i2 ws.toArray) q.zp q.pi po ⟨q.t1, tu'⟩ ⟨q.t2, tw.isList⟩ (by simpa using l1) (by simpa using l2)
      (fun y1 y2 h1 tk p1 p2 z1 o1 s1 s2 hT _ hk => ⟨_, rfl, wpAny_letOwnedTupleGo_zip (s := { s with heap := h1, toks := tk }) z1 fun h2 z2 sb => ?_⟩)
    have e1 : y1 = u := by
      have p1 : us.toArray[n]? = some y1 := p1
      rw [List.getElem?_toArray, hu] at p1
      exact (Option.some.inj p1).symm
    have e2 : y2 = t := by
      have p2 : ws.toArray[n]? = some y2 := p2
      rw [List.getElem?_toArray, ht] at p2
      exact (Option.some.inj p2).symm
    subst e1 e2
    have gT : IsTupOf2 h2 s.heap.objs.size y1 y2 := (sb.2 _ (Nat.ne_of_gt zlt)).trans hT
    have nw : ObjOk X.prog X.w (upd H s.heap.objs.size (.tup [x, y])) h2 s.heap.objs.size (.tup [x, y]) :=
      ⟨(by decide : 2 ≤ sizeLine), [y1, y2], .cons vu (.cons vt .nil), ⟨_, gT, rfl, _, rfl⟩⟩
    have J : Inv X pins σ (upd H s.heap.objs.size (.tup [x, y])) { s with heap := h2, toks := tk } := by
      refine I.turnedNew (ch := [z, TI, TO, i1, i2]) (fun c o hb g => ?_) hf (Nat.le_refl _) nw
      obtain ⟨b1, b2, b3, b4⟩ := off4 hb
      exact (sb.2 c b1).trans (hk c o b1 b2 b3 b4 g)
    refine ⟨.ref s.heap.objs.size, _, J, rfl, ⟨_, x, y, rfl, I.hok.fresh (Nat.le_refl _), rfl, fun l hl => ?_, fun l hl => ?_⟩, ⟨z2, ?_, ⟨y1, y2, ?_⟩, ?_, ?_⟩, fun c hm => ?_⟩
    · rw [I.tuple_inj hl qx]
      exact hx
    · rw [I.list_inj hl qy]
      exact hy
    · exact (sb.2 _ D.TIz).trans (hk _ _ D.TIz D.TITO D.TIi1 D.TIi2 q.pi)
    · exact (sb.2 _ D.TOz).trans o1
    · exact s1.1.at fun o g => (sb.2 _ D.i1z).trans g
    · exact s2.1.at fun o g => (sb.2 _ D.i2z).trans g
    · have hn := (hf c hm).1
      have hlt : c < s.heap.objs.size := by
        obtain ⟨_, g1, _⟩ := q.t1
        obtain ⟨_, g2, _⟩ := q.t2
        exact five hm (fun e => e ▸ zlt) (fun e => e ▸ Heap.lt_size q.pi) (fun e => e ▸ Heap.lt_size po) (fun e => e ▸ Heap.lt_size g1) (fun e => e ▸ Heap.lt_size g2)
      exact (upd_ne (Nat.ne_of_lt hlt)).trans hn
  · rintro X rfl rfl rfl hc n pins s σ H E I hf q ⟨xs, ys, qx, qy, hend, n1, n2⟩
    obtain ⟨us, ru, tu, _⟩ := I.tuple qx
    obtain ⟨ws, rw', tw, _⟩ := I.list qy
    have tu' : s.heap.IsTuple a us.toArray := tu
    obtain ⟨x0, y0, po⟩ := q.po
    have l1 := ru.length
    have l2 := rw'.length
    have hh : X.A.in1.handled = none := I.ok.hd hc
    have c1 : us.toArray.size = us.length := by simp
    have c2 : ws.toArray.size = ws.length := by simp
    refine wpAny_pyNext_zipD2_end S (Draws.tuple hh i1 a D.l1i1 us.toArray) (Draws.list hh i2 b D.l2i2 ws.toArray) q.zp q.pi po ⟨q.t1, tu'⟩ ⟨q.t2, tw.isList⟩ (by omega) (by omega) (by omega) (fun h1 tk hk => ⟨rfl, ?_⟩)
    refine I.turnedL (ch := [z, TI, TO, i1, i2]) (fun c o hb g => ?_) hf
    obtain ⟨b1, b2, b3, b4⟩ := off4 hb
    exact hk c o b1 b2 b3 b4 g
in #guard_msgs in universe u_z
end My
namespace My
open PySem L2 PyProof.Rows
section
variable {X : Cx} {K : PySem.W.Frag} {σ : L2.St} {H : Hp} {D : Ends} {te : TE} {ta : TA} {a b : Addr} {xs ys : List V}
def zmP (K : PySem.W.Frag) (vs : List V) (H1 : Hp) (R : It → Hp → Prop) : Prop := ∃ a b xs ys, vs = [.ref a, .ref b] ∧ SqT K H1 a xs ∧ SqL K H1 b ys ∧ R (ItzM K a b) H1
def iZm (K : PySem.W.Frag) (ta : TA) : L2.TI := fun σ H R => ta σ H fun vs H1 => zmP K vs H1 R
set_option Elab.async true in
theorem kp_zipM (hK : X.K = K) {e e2 : Expr} {p pos tp : Pos} {elts : List Expr} {kk : Nat} (hg : Gl X "zip") (hm : X.mg "zip" = none) (ha : PA X [e, e2] ta)
    (hs : starEach [e, e2] X.env = (false, eval e X.env) :: starEach [e2] X.env := by rfl) (hpl : (backTo pos (starEach [e2] X.env)).any (·.1) = false := by rfl) :
    PI X (.Tuple elts kk tp) (.Call (.Name "zip" p) [e, e2] [] pos) (iZm K ta) := by
  subst hK
  refine ⟨fun pins s σ H R I h => ?_⟩
  refine Call_ (ld_blt I hg hm boot_zip (callWith_type1 (thn (ha.run pos pins s σ H _ I h) fun us s1 ⟨vs, H1, I1, r1, a, b, xs, ys, ev, qx, qy, q⟩ => ?_) hs hpl))
  subst ev
  obtain ⟨u1, us, rfl, r1, r2⟩ : ∃ u1 u2, us = [u1, u2] ∧ L2.RelV (.ref a) u1 ∧ L2.RelV (.ref b) u2 := by
    obtain ⟨u, v, e, h1, h2⟩ := Vals.two r1
    exact ⟨u, v, e, h1, h2⟩
  cases r1
  cases r2
  obtain ⟨its, ru, tu, _⟩ := I1.tuple qx
  obtain ⟨ws, rw', tw, _⟩ := I1.list qy
  have tu' : s1.heap.IsTuple a its.toArray := tu
  obtain ⟨oa, ga, _⟩ := id tu'
  have ob := tw.isList
  obtain ⟨ob, gb, _⟩ := id ob
  refine zip_begins2 (begins_tuple a its.toArray) (begins_list b ws.toArray) tu' tw.isList (fun h' hz hTI hTO g1 g2 _ hk => wpAny_pyIter_zip hz ?_)
  have J : Inv X pins σ H1 { s1 with heap := h' } := I1.kept (t' := s1.toks) hk
  refine ⟨s1.heap.objs.size + 4, [s1.heap.objs.size + 4, s1.heap.objs.size + 2, s1.heap.objs.size + 3, s1.heap.objs.size, s1.heap.objs.size + 1], ZpM a b _ _ _ _ _, _, H1, rfl, J,
    turn_zipM (PySem.W.ktu_apart s1.heap.objs.size a b (Heap.lt_size ga) (Heap.lt_size gb)), ⟨hz, hTI, ⟨_, _, hTO⟩, ⟨_, g1, rfl, rfl⟩, ⟨_, g2, rfl, rfl⟩⟩, fun c hc => ?_, q⟩
  have hle : s1.heap.objs.size ≤ c := five hc (fun e => e ▸ Nat.le_add_right _ _) (fun e => e ▸ Nat.le_add_right _ _) (fun e => e ▸ Nat.le_add_right _ _) (fun e => e ▸ Nat.le_refl _) (fun e => e ▸ Nat.le_add_right _ _)
  exact I1.fpOk hle (I1.hok.fresh hle)
in #guard_msgs in universe u_z
theorem w_zm {R : It → Hp → Prop} (h : ta σ H fun vs H1 => zmP K vs H1 R) : iZm K ta σ H R := h
theorem r_zm {R : It → Hp → Prop} (q : SqT K H a xs) (q2 : SqL K H b ys) (h : R (ItzM K a b) H) : zmP K [.ref a, .ref b] H R := ⟨a, b, xs, ys, rfl, q, q2, h⟩
theorem r_zT {R : It → Hp → Prop} (q : SqT K H a xs) (q2 : SqT K H b ys) (h : R (RZ.ItzT K a b) H) : zipP K [.ref a, .ref b] H R := ⟨a, b, xs, ys, rfl, .inr ⟨q, q2, h⟩⟩
set_option Elab.async true in
/-- a comprehension over zip of a tuple and a list -/
theorem lc_zipM {g : TG} {vs : List Nat} {Da : Addr} {Qd : Hp → Prop} (G : Hp → Prop) (J : Nat → List V → Hp → Prop) (hl : xs.length = ys.length) (h0 : G (upd H Da (.lst []))) (hj : J 0 [] (upd H Da (.lst [])))
    (hq : ∀ H1 acc, H1 Da = some (.lst acc) → G H1 → SqT K H1 a xs ∧ SqL K H1 b ys)
    (hs : ∀ i x y T acc H1, xs[i]? = some x → ys[i]? = some y → acc.length = i → H1 Da = some (.lst acc) → G H1 → J i acc H1 → H1 T = none →
      g (.ref T) (wipe σ vs) (upd H1 T (.tup [x, y])) fun σ2 H2 => wipe σ2 vs = wipe σ vs ∧ te σ2 H2 fun y H3 => lcQ Da G J i y H3)
    (hd : ∀ acc H1, acc.length = xs.length → H1 Da = some (.lst acc) → G H1 → J xs.length acc H1 → Qd H1) : lcT (ItzM K a b) g tYes te vs σ H Da Qd := by
  refine ⟨fun i m H1 => m = xs.length - i ∧ i ≤ xs.length ∧ lcPv Da G J i H1, ⟨_, rfl, Nat.zero_le _, [], rfl, upd_same, h0, hj⟩, ?_⟩
  rintro i m H1 ⟨rfl, hi, acc, ha, hD, hG, hJ⟩
  obtain ⟨q1, q2⟩ := hq H1 acc hD hG
  rcases Nat.lt_or_ge i xs.length with hlt | hge
  · have e1 : xs[i]? = some xs[i] := List.getElem?_eq_getElem hlt
    have e2 : ys[i]? = some ys[i] := List.getElem?_eq_getElem (by omega)
    refine .inr ⟨⟨xs, ys, _, _, q1, q2, e1, e2⟩, lcPv Da G J (i + 1), fun H' p => ⟨xs.length - (i + 1), by omega, rfl, hlt, p⟩, ?_⟩
    rintro v H' ⟨T, x, y, rfl, nT, rfl, f1, f2⟩
    have z := hs i x y T acc H1 (f1 _ q1) (f2 _ q2) ha hD hG hJ nT
    exact z
  · have e : i = xs.length := by omega
    subst e
    exact .inl ⟨⟨xs, ys, q1, q2, .inl (Nat.le_refl _), Nat.le_refl _, by omega⟩, hd acc H1 ha hD hG hJ⟩
in #guard_msgs in universe u_z
end
end My

namespace My
open PySem L2
/-! over a common denominator -/
theorem den_dvd {q : Rat} {D N : Int} (h : q * (D : Rat) = (N : Rat)) : (q.den : Int) ∣ D := by
  have e := numq q
  have e2 : (q.num : Rat) * (D : Rat) = (N : Rat) * ((q.den : Int) : Rat) := by
    rw [e, ← h]
    grind
  have e3 : q.num * D = N * (q.den : Int) := by exact_mod_cast e2
  refine dvd_cop (n := q.num) ?_ ⟨N, by rw [e3, Int.mul_comm]⟩
  rw [Nat.gcd_comm]
  exact gcdQ q
set_option Elab.async true in
theorem num_le {q : Rat} {D N : Int} (hD : 0 < D) (h : q * (D : Rat) = (N : Rat)) : q.num.natAbs ≤ N.natAbs := by
  obtain ⟨k, hk⟩ := den_dvd h
  have e := numq q
  have hd := denP q
  have kp : 0 < k := by
    rw [hk] at hD
    exact Int.pos_of_mul_pos_right hD (by omega)
  have e2 : (N : Rat) = ((q.num * k : Int) : Rat) := by
    rw [← h, hk, Rat.intCast_mul, Rat.intCast_mul, e]
    grind
  have e3 : N = q.num * k := by exact_mod_cast e2
  rw [e3, Int.natAbs_mul]
  exact Nat.le_mul_of_pos_right _ (by omega)
in #guard_msgs in universe u_z
theorem BN.ofD {e f : Nat} {q : Rat} {D N : Int} (hD : 0 < D) (bf : B f D) (be : B e N) (h : q * (D : Rat) = (N : Rat)) : BN e f q := by
  refine ⟨B.of_le (num_le hD h) be, B.of_le ?_ bf⟩
  have := Int.le_of_dvd hD (den_dvd h)
  have := denP q
  omega
/-- a row and its step over one denominator -/
structure RD (e f : Nat) (p : V3) (t : Rat) : Prop where
  ex : ∃ D N0 N1 N2 N3 : Int, 0 < D ∧ B f D ∧ B e N0 ∧ B e N1 ∧ B e N2 ∧ B e N3 ∧ p.x * (D : Rat) = N0 ∧ p.y * (D : Rat) = N1 ∧ p.z * (D : Rat) = N2 ∧ t * (D : Rat) = N3
theorem numc (q : Rat) : q * ((q.den : Int) : Rat) = (q.num : Rat) := (numq q).symm
set_option Elab.async true in
theorem RD.of {n d : Nat} {p : V3} {t : Rat} (h : VN n d p) (ht : BN n d t) : RD (n + 3 * d) (4 * d) p t := by
  refine ⟨(p.x.den : Int) * (p.y.den : Int) * (p.z.den : Int) * (t.den : Int), p.x.num * ((p.y.den : Int) * (p.z.den : Int) * (t.den : Int)), p.y.num * ((p.x.den : Int) * (p.z.den : Int) * (t.den : Int)), p.z.num * ((p.x.den : Int) * (p.y.den : Int) * (t.den : Int)), t.num * ((p.x.den : Int) * (p.y.den : Int) * (p.z.den : Int)),
    Int.mul_pos (Int.mul_pos (Int.mul_pos (denP _) (denP _)) (denP _)) (denP _), (B.mul (B.mul (B.mul h.x.d h.y.d) h.z.d) ht.d).le (by omega), (B.mul h.x.n (B.mul (B.mul h.y.d h.z.d) ht.d)).le (by omega), (B.mul h.y.n (B.mul (B.mul h.x.d h.z.d) ht.d)).le (by omega), (B.mul h.z.n (B.mul (B.mul h.x.d h.y.d) ht.d)).le (by omega), (B.mul ht.n (B.mul (B.mul h.x.d h.y.d) h.z.d)).le (by omega), ?_, ?_, ?_, ?_⟩
  all_goals
    have e0 := numc p.x
    have e1 := numc p.y
    have e2 := numc p.z
    have e3 := numc t
    simp only [Rat.intCast_mul]
    grind
in #guard_msgs in universe u_z
/-- what whole rows are -/
structure WR (e f : Nat) (p : V3) (t : Rat) (n0 n1 n2 n3 n4 : Int) : Prop where
  pos : 0 < n4
  b0 : B e n0
  b1 : B e n1
  b2 : B e n2
  b3 : B e n3
  b4 : B f n4
  e0 : p.x * (n4 : Rat) = n0
  e1 : p.y * (n4 : Rat) = n1
  e2 : p.z * (n4 : Rat) = n2
  e3 : t * (n4 : Rat) = n3
set_option Elab.async true in
theorem wr_of {e f : Nat} {p : V3} {t : Rat} {L : Int} (r : RD e f p t) (hL : 0 < L) (d0 : (p.x.den : Int) ∣ L) (d1 : (p.y.den : Int) ∣ L) (d2 : (p.z.den : Int) ∣ L) (d3 : (t.den : Int) ∣ L) (least : ∀ D : Int, (p.x.den : Int) ∣ D → (p.y.den : Int) ∣ D → (p.z.den : Int) ∣ D → (t.den : Int) ∣ D → L ∣ D) :
    WR e f p t (p.x.num * L.fdiv (p.x.den : Int)) (p.y.num * L.fdiv (p.y.den : Int)) (p.z.num * L.fdiv (p.z.den : Int)) (t.num * L.fdiv (t.den : Int)) L := by
  obtain ⟨D, N0, N1, N2, N3, hD, bD, c0, c1, c2, c3, g0, g1, g2, g3⟩ := r.ex
  have hLD := least D (den_dvd g0) (den_dvd g1) (den_dvd g2) (den_dvd g3)
  obtain ⟨m, hm⟩ := hLD
  have mp : 0 < m := by
    rw [hm] at hD
    exact Int.pos_of_mul_pos_right hD (by omega)
  have mq : 0 < m.natAbs := by omega
  have go : ∀ (q : Rat) (N : Int), (q.den : Int) ∣ L → q * (D : Rat) = (N : Rat) → B e N → B e (q.num * L.fdiv (q.den : Int)) ∧ q * (L : Rat) = ((q.num * L.fdiv (q.den : Int) : Int) : Rat) := fun q N hd hN bN => by
    have e1 := mul_fdiv (denP q) hd
    generalize L.fdiv (q.den : Int) = c at *
    have e2 := numc q
    have e3 : q * (L : Rat) = ((q.num * c : Int) : Rat) := by
      rw [← e1, Rat.intCast_mul, Rat.intCast_mul]
      grind
    refine ⟨B.of_le ?_ bN, e3⟩
    have e4 : (N : Rat) = ((q.num * c * m : Int) : Rat) := by
      rw [← hN, hm, Rat.intCast_mul, Rat.intCast_mul, ← e3]
      grind
    have e5 : N = q.num * c * m := by exact_mod_cast e4
    rw [e5, Int.natAbs_mul (q.num * c) m]
    exact Nat.le_mul_of_pos_right _ mq
  obtain ⟨h0, k0⟩ := go _ _ d0 g0 c0
  obtain ⟨h1, k1⟩ := go _ _ d1 g1 c1
  obtain ⟨h2, k2⟩ := go _ _ d2 g2 c2
  obtain ⟨h3, k3⟩ := go _ _ d3 g3 c3
  refine ⟨hL, h0, h1, h2, h3, B.of_le ?_ bD, k0, k1, k2, k3⟩
  have := Int.le_of_dvd hD ⟨m, hm⟩
  omega
in #guard_msgs in universe u_z
end My
namespace My
open PySem L2 PyProof.Rows
section
variable {X : Cx} {K : PySem.W.Frag} {σ : L2.St} {H : Hp} {D : Ends} {te : TE} {a b : Addr} {xs ys : List V} {Q : VK}
/-- where a comprehension's scope stands -/
def lcSc : Expr → Scope
  | .ListComp _ _ sc _ => sc
  | _ => { kind := .function, names := [], isGenerator := false, isCoroutine := false }
def stE : Stmt → Expr
  | .Assign _ e _ => e
  | _ => .Constant .none 0 ⟨0, 0, 0, 0⟩
def rSumK (K : PySem.W.Frag) : List V → Hp → VK → Prop := fun vs H Q => ∃ (a : Addr) (ns : List Int), vs = [V.ref a] ∧ SqL K H a (ns.map V.int) ∧ Q (.int ns.sum) H
theorem kc_sum (h : X.K = K) (hc : X.calm = true) : CallR X (.builtin "sum") (rSumK K) := h ▸ cr_sum hc
theorem r_sum {ns : List Int} (q : SqL K H a (ns.map V.int)) (h : Q (.int ns.sum) H) : rSumK K [.ref a] H Q := ⟨a, ns, rfl, q, h⟩
set_option Elab.async true in
/-- a comprehension over a tuple, any target -/
theorem lc_tupA {g : TG} {vs : List Nat} {Da : Addr} {Qd : Hp → Prop} (G : Hp → Prop) (J : Nat → List V → Hp → Prop) (h0 : G (upd H Da (.lst []))) (hj : J 0 [] (upd H Da (.lst [])))
    (hq : ∀ H1 acc, H1 Da = some (.lst acc) → G H1 → SqT K H1 a xs)
    (hs : ∀ i x acc H1, xs[i]? = some x → acc.length = i → H1 Da = some (.lst acc) → G H1 → J i acc H1 → g x (wipe σ vs) H1 fun σ2 H2 => wipe σ2 vs = wipe σ vs ∧ te σ2 H2 fun y H3 => lcQ Da G J i y H3)
    (hd : ∀ acc H1, acc.length = xs.length → H1 Da = some (.lst acc) → G H1 → J xs.length acc H1 → Qd H1) : lcT (Itt K a) g tYes te vs σ H Da Qd := by
  have z := L2.lc_tup (K := K) (a := a) (xs := xs) (g := g) (tt := tYes) (te := te) (vs := vs) (σ := σ) (H1 := H) (D := Da) (Qd := Qd) (lcPv Da G J)
    ⟨[], rfl, upd_same, h0, hj⟩ (fun i H1 _ ⟨acc, _, hD, hG, _⟩ => hq H1 acc hD hG) (fun i x H1 hi ⟨acc, ha, hD, hG, hJ⟩ => hs i x acc H1 hi ha hD hG hJ) (fun H1 ⟨acc, ha, hD, hG, hJ⟩ => hd acc H1 ha hD hG hJ)
  exact z
in #guard_msgs in universe u_z
/-- a loop over zip of two tuples -/
theorem f_zT {g : TG} {t : TS} (hl : xs.length = ys.length) (Pv : Nat → L2.St → Hp → Prop) (h0 : Pv 0 σ H) (hq : ∀ i σ H', Pv i σ H' → SqT K H' a xs ∧ SqT K H' b ys)
    (hs : ∀ (i : Nat) (x y : V) (T : Addr) (σ : L2.St) (H1 H2 : Hp), xs[i]? = some x → ys[i]? = some y → Pv i σ H1 → Same H1 H2 → H2 T = some (.tup [x, y]) → g (.ref T) σ H2 fun σ2 H3 => t { D with nx := Pv (i + 1), ct := Pv (i + 1), bk := D.nx } σ2 H3)
    (hd : ∀ σ H, Pv xs.length σ H → D.nx σ H) : forT (RZ.ItzT K a b) g t D σ H :=
  RZ.for_zipT hl Pv h0 hq (fun i x y T σ H1 ex ey p nT => hs i x y T σ H1 _ ex ey p (Same.new nT) upd_same) hd
end
end My
namespace My
open PySem L2
theorem r_catL {H : Hp} {a b : Addr} {xs ys : List V} {Q : VK} (h1 : H a = some (.lst xs)) (h2 : H b = some (.lst ys)) (hn : decide (xs.length + ys.length ≤ 100000) = true) (h : ∀ p H1, H p = none → Same H H1 → H1 p = some (.lst (xs ++ ys)) → Q (.ref p) H1) : rCat (.ref a) (.ref b) H Q :=
  ⟨a, b, xs, ys, rfl, rfl, h1, h2, Nat.le_trans (of_decide_eq_true hn) (by decide), fun p np => h p _ np (Same.new np) upd_same⟩
/-- an own list grows; lists of another head stay -/
theorem r_appH {H H0 : Hp} {l : Addr} {xs : List V} {y : V} {K : PySem.W.Frag} {Q : VK} (nl : H0 l = none) (e : Same H0 H) (h : H l = some (.lst xs)) (hz : xs.length < 100000)
    (q : ∀ H1, Same H0 H1 → TK K H H1 → (∀ b ys, b ≠ l → H b = some (.lst ys) → H1 b = some (.lst ys)) → H1 l = some (.lst (xs ++ [y])) → Q .non H1) : rAppend (.ref l) [y] H Q :=
  r_app h hz (q _ (Same.mut e nl) (TK.upd h) (fun b ys n hb => (upd_ne n).trans hb) upd_same)
end My
namespace My
open PySem L2
/-- the inverse by integers -/
structure MW (A : M3) (Dt : Int) (u v w : Int × Int × Int) (a3 a4 b3 b4 c3 c4 : Int) : Prop where
  nz : Dt ≠ 0
  xa : ((u.1 * a4 : Int) : Rat) / (Dt : Rat) = (minv A).a.x
  ya : ((v.1 * b4 : Int) : Rat) / (Dt : Rat) = (minv A).a.y
  za : ((w.1 * c4 : Int) : Rat) / (Dt : Rat) = (minv A).a.z
  xb : ((u.2.1 * a4 : Int) : Rat) / (Dt : Rat) = (minv A).b.x
  yb : ((v.2.1 * b4 : Int) : Rat) / (Dt : Rat) = (minv A).b.y
  zb : ((w.2.1 * c4 : Int) : Rat) / (Dt : Rat) = (minv A).b.z
  xc : ((u.2.2 * a4 : Int) : Rat) / (Dt : Rat) = (minv A).c.x
  yc : ((v.2.2 * b4 : Int) : Rat) / (Dt : Rat) = (minv A).c.y
  zc : ((w.2.2 * c4 : Int) : Rat) / (Dt : Rat) = (minv A).c.z
  sx : ((-(u.1 * a3 + (v.1 * b3 + (w.1 * c3 + 0))) : Int) : Rat) / (Dt : Rat) = (minv A).s.x
  sy : ((-(u.2.1 * a3 + (v.2.1 * b3 + (w.2.1 * c3 + 0))) : Int) : Rat) / (Dt : Rat) = (minv A).s.y
  sz : ((-(u.2.2 * a3 + (v.2.2 * b3 + (w.2.2 * c3 + 0))) : Int) : Rat) / (Dt : Rat) = (minv A).s.z
set_option Elab.async true in
theorem mw_of {A : M3} {e0 f0 e1 f1 e2 f2 : Nat} {a0 a1 a2 a3 a4 b0 b1 b2 b3 b4 c0 c1 c2 c3 c4 Dt : Int} (wa : WR e0 f0 A.a A.s.x a0 a1 a2 a3 a4) (wb : WR e1 f1 A.b A.s.y b0 b1 b2 b3 b4) (wc : WR e2 f2 A.c A.s.z c0 c1 c2 c3 c4) (hd : det3 A ≠ 0)
    (hD : Dt = a0 * (b1 * c2 - b2 * c1) + a1 * (b2 * c0 - b0 * c2) + a2 * (b0 * c1 - b1 * c0)) :
    MW A Dt (b1 * c2 - b2 * c1, b2 * c0 - b0 * c2, b0 * c1 - b1 * c0) (c1 * a2 - c2 * a1, c2 * a0 - c0 * a2, c0 * a1 - c1 * a0) (a1 * b2 - a2 * b1, a2 * b0 - a0 * b2, a0 * b1 - a1 * b0) a3 a4 b3 b4 c3 c4 := by
  have za : (a4 : Rat) ≠ 0 := icz (Int.ne_of_gt wa.pos)
  have zb : (b4 : Rat) ≠ 0 := icz (Int.ne_of_gt wb.pos)
  have zc : (c4 : Rat) ≠ 0 := icz (Int.ne_of_gt wc.pos)
  have pa0 := wa.e0; have pa1 := wa.e1; have pa2 := wa.e2; have pa3 := wa.e3
  have pb0 := wb.e0; have pb1 := wb.e1; have pb2 := wb.e2; have pb3 := wb.e3
  have pc0 := wc.e0; have pc1 := wc.e1; have pc2 := wc.e2; have pc3 := wc.e3
  have eD : (Dt : Rat) = det3 A * ((a4 : Rat) * b4 * c4) := by
    rw [hD]
    simp only [Rat.intCast_add, Rat.intCast_sub, Rat.intCast_mul]
    rw [← pa0, ← pa1, ← pa2, ← pb0, ← pb1, ← pb2, ← pc0, ← pc1, ← pc2]
    simp only [det3, dt, cr]
    grind
  have nzR : (Dt : Rat) ≠ 0 := by
    rw [eD]
    grind
  have nz : Dt ≠ 0 := fun e => nzR (by rw [e]; rfl)
  have hdet : det3 A = dt A.a (cr A.b A.c) := rfl
  refine ⟨nz, ?_, ?_, ?_, ?_, ?_, ?_, ?_, ?_, ?_, ?_, ?_, ?_⟩
  all_goals
    simp only [Rat.intCast_add, Rat.intCast_sub, Rat.intCast_mul, Rat.intCast_neg]
    rw [eD]
    simp only [minv]
    generalize det3 A = d at *
    simp only [cr]
    simp only [← pa0, ← pa1, ← pa2, ← pa3, ← pb0, ← pb1, ← pb2, ← pb3, ← pc0, ← pc1, ← pc2, ← pc3]
    clear pa0 pa1 pa2 pa3 pb0 pb1 pb2 pb3 pc0 pc1 pc2 pc3 eD nzR nz hdet hD wa wb wc
    grind
in #guard_msgs in universe u_z
theorem TsA.three' {K : PySem.W.Frag} {H : Hp} {x y z : List V} {acc : List V} (h : TsA K ([x, y, z].take 3) acc H) : ∃ a b c : Addr, acc = [.ref a, .ref b, .ref c] ∧ SqT K H a x ∧ SqT K H b y ∧ SqT K H c z := TsA.three h
end My
namespace My
open PySem L2
theorem VcL.three' {K : PySem.W.Frag} {H : Hp} {acc : List V} {p q r : V3} (h : VcL K H acc ([p, q, r].take 3)) : ∃ a b c : Addr, acc = [.ref a, .ref b, .ref c] ∧ Vc K H a p ∧ Vc K H b q ∧ Vc K H c r := by
  unfold VcL at h
  cases h with
  | cons r1 h =>
    cases h with
    | cons r2 h =>
      cases h with
      | cons r3 h =>
        cases h
        obtain ⟨a, rfl, ha⟩ := r1
        obtain ⟨b, rfl, hb⟩ := r2
        obtain ⟨c, rfl, hc⟩ := r3
        exact ⟨a, b, c, rfl, ha, hb, hc⟩
/-- a heap with a new object, told by what it holds -/
theorem rng_gen {H : Hp} {T : Addr} {o : HO} {P : Hp → Prop} (nT : H T = none) (h : ∀ H1, Same H H1 → H1 T = some o → P H1) : P (L2.upd H T o) := h _ (Same.new nT) upd_same
end My
namespace My
open PySem L2
section
variable {X : Cx} {K : PySem.W.Frag} {H : Hp} {Q : VK} {a b : Addr} {xs ys zs : List V}
theorem ko_catA (h : X.K = K) : OpR X (binaryOp .Add) (rCatA K) := h ▸ op_catA
set_option Elab.async true in
theorem r_catA (ha : SqT K H a xs) (hb : SqT K H b ys) (hz : xs ++ ys = zs) (hn : decide (xs.length + ys.length ≤ 100000) = true) (h : ∀ p H1, Same H H1 → SqT K H1 p zs → Q (.ref p) H1) : rCatA K (.ref a) (.ref b) H Q := by
  refine ⟨a, b, xs, ys, rfl, rfl, ha, hb, Nat.le_trans (of_decide_eq_true hn) (by decide), fun e => h b H (Same.refl _) ?_, fun _ e => h a H (Same.refl _) ?_, fun _ _ p np => h p _ (Same.new np) (SqT.of ?_)⟩
  · rw [e] at hz
    rw [← hz]
    exact hb
  · rw [e, List.append_nil] at hz
    rw [← hz]
    exact ha
  · rw [← hz]
    exact upd_same
in #guard_msgs in universe u_z
theorem r_slT {lo hi : Option Int} (q : SqT K H a xs) (hw : ¬ (HT.sIx xs.length 0 lo = 0 ∧ HT.sIx xs.length xs.length hi = xs.length)) (e : cutV xs lo hi = ys) (h : ∀ p H1, H p = none → Same H H1 → H1 p = some (.tup ys) → Q (.ref p) H1) : rSlT K (.ref a) lo hi H Q :=
  ⟨a, xs, rfl, q, hw, fun p np => h p _ np (Same.new np) (by rw [e]; exact upd_same)⟩
end
/-- a row whose doubles are small integers -/
def HalfRow (p : V3) : Prop := ∃ N0 N1 N2 : Int, B 6 N0 ∧ B 6 N1 ∧ B 6 N2 ∧ p.x * 2 = (N0 : Rat) ∧ p.y * 2 = (N1 : Rat) ∧ p.z * 2 = (N2 : Rat)
theorem half_int {a b c : Int} (ha : -32 < a ∧ a < 32) (hb : -32 < b ∧ b < 32) (hc : -32 < c ∧ c < 32) : HalfRow ⟨(a : Rat), (b : Rat), (c : Rat)⟩ := by
  refine ⟨a * 2, b * 2, c * 2, B.rng (by omega) (by omega), B.rng (by omega) (by omega), B.rng (by omega) (by omega), ?_, ?_, ?_⟩ <;> (rw [Rat.intCast_mul]; rfl)
theorem HalfRow.vn {p : V3} (h : HalfRow p) : VN 6 2 p := by
  obtain ⟨N0, N1, N2, b0, b1, b2, e0, e1, e2⟩ := h
  have d2 : B 2 (2 : Int) := B.lit (by decide)
  exact ⟨BN.ofD (by decide) d2 b0 e0, BN.ofD (by decide) d2 b1 e1, BN.ofD (by decide) d2 b2 e2⟩
/-- a side of a stretching matrix -/
def Sd (q : Rat) : Prop := q ≠ 0 ∧ ∃ N : Int, B 6 N ∧ q * 2 = (N : Rat)
theorem sd_mk (q : Rat) (N : Int) (h1 : decide (q = 0) = false) (h2 : decide (N.natAbs < 2 ^ 6) = true) (h3 : decide (q * 2 = (N : Rat)) = true) : Sd q := ⟨of_decide_eq_false h1, N, B.lit h2, of_decide_eq_true h3⟩
theorem b60 : B 6 (0 : Int) := B.lit (by decide)
theorem half_x {q : Rat} (h : Sd q) : HalfRow ⟨q, ((0 : Int) : Rat), ((0 : Int) : Rat)⟩ := by
  obtain ⟨_, N, b, e⟩ := h
  exact ⟨N, 0, 0, b, b60, b60, e, by simp, by simp⟩
theorem half_y {q : Rat} (h : Sd q) : HalfRow ⟨((0 : Int) : Rat), q, ((0 : Int) : Rat)⟩ := by
  obtain ⟨_, N, b, e⟩ := h
  exact ⟨0, N, 0, b60, b, b60, by simp, e, by simp⟩
theorem half_z {q : Rat} (h : Sd q) : HalfRow ⟨((0 : Int) : Rat), ((0 : Int) : Rat), q⟩ := by
  obtain ⟨_, N, b, e⟩ := h
  exact ⟨0, 0, N, b60, b60, b, by simp, by simp, e⟩
theorem det_diag {p q r : Rat} (hp : p ≠ 0) (hq : q ≠ 0) (hr : r ≠ 0) : dt ⟨p, ((0 : Int) : Rat), ((0 : Int) : Rat)⟩ (cr ⟨((0 : Int) : Rat), q, ((0 : Int) : Rat)⟩ ⟨((0 : Int) : Rat), ((0 : Int) : Rat), r⟩) ≠ 0 := by
  simp only [dt, cr, Rat.intCast_zero]
  intro h
  have h2 : p * q * r = 0 := by grind
  grind
theorem det_ints {a0 a1 a2 b0 b1 b2 c0 c1 c2 : Int} (h : a0 * (b1 * c2 - b2 * c1) + a1 * (b2 * c0 - b0 * c2) + a2 * (b0 * c1 - b1 * c0) ≠ 0) : dt ⟨(a0 : Rat), (a1 : Rat), (a2 : Rat)⟩ (cr ⟨(b0 : Rat), (b1 : Rat), (b2 : Rat)⟩ ⟨(c0 : Rat), (c1 : Rat), (c2 : Rat)⟩) ≠ 0 := fun e => h (by
  simp only [dt, cr] at e
  exact_mod_cast e)
/-- three vectors in a tuple -/
theorem Rw.same' {K : PySem.W.Frag} {H H' : Hp} {r : Addr} {p q s : V3} (e : Same H H') (h : Rw K H r p q s) : Rw K H' r p q s := h.tk (TK.same e)
structure SmM (A : M3) : Prop where
  ha : HalfRow A.a
  hb : HalfRow A.b
  hc : HalfRow A.c
  hs : VN 6 6 A.s
  nz : det3 A ≠ 0
theorem SmM.mn {A : M3} (h : SmM A) : MN 6 6 A := ⟨h.ha.vn.le (by decide) (by decide), h.hb.vn.le (by decide) (by decide), h.hc.vn.le (by decide) (by decide), h.hs⟩
theorem VN.int3 {a b c : Int} {n : Nat} (ha : B n a) (hb : B n b) (hc : B n c) : VN n 1 ⟨(a : Rat), (b : Rat), (c : Rat)⟩ := ⟨BN.int ha, BN.int hb, BN.int hc⟩
end My
namespace My
open PySem L2
theorem at_0129 {r : Int} (h0 : 0 ≤ r) (h1 : r < 4) : ∃ n : Int, atI ([.int 0, .int 1, .int 2, .int 39] : List V) r = some (.int n) ∧ 0 ≤ n ∧ n ≤ 39 := by
  obtain rfl | rfl | rfl | rfl : r = 0 ∨ r = 1 ∨ r = 2 ∨ r = 3 := by omega
  all_goals exact ⟨_, rfl, by decide, by decide⟩
theorem div_mul_c {t b : Int} (hb : b ≠ 0) : (t : Rat) / (b : Rat) * (b : Rat) = (t : Rat) := by
  have := icz hb
  grind
theorem at_sgn {v : V} {i : Nat} (h : ([.int 1, .int (-1), .int 2] : List V)[i]? = some v) : ∃ u : Int, v = .int u ∧ (u = 1 ∨ u = -1 ∨ u = 2) := by
  rcases i with _ | _ | _ | i
  · cases h
    exact ⟨_, rfl, .inl rfl⟩
  · cases h
    exact ⟨_, rfl, .inr (.inl rfl)⟩
  · cases h
    exact ⟨_, rfl, .inr (.inr rfl)⟩
  · simp at h
/-- the tops of three ratios over one bottom -/
def TpA (K : PySem.W.Frag) (b : Int) (i : Nat) (acc : List V) (H : Hp) : Prop := ∃ ns : List Int, TsA K (ns.map fun (t : Int) => [.int ((t : Rat) / (b : Rat)).num, .int (((t : Rat) / (b : Rat)).den : Int)]) acc H ∧ ns.length = i ∧ ∀ t, t ∈ ns → B 134 t
theorem TpA.tk {K : PySem.W.Frag} {b : Int} {i : Nat} {acc : List V} {H H' : Hp} (e : TK K H H') (h : TpA K b i acc H) : TpA K b i acc H' := by
  obtain ⟨ns, h1, h2, h3⟩ := h
  exact ⟨ns, TsA.tk e h1, h2, h3⟩
theorem TpA.snoc {K : PySem.W.Frag} {b t : Int} {i : Nat} {acc : List V} {a : Addr} {H : Hp} (h : TpA K b i acc H) (q : SqT K H a [.int ((t : Rat) / (b : Rat)).num, .int (((t : Rat) / (b : Rat)).den : Int)]) (bt : B 134 t) : TpA K b (i + 1) (acc ++ [.ref a]) H := by
  obtain ⟨ns, h1, h2, h3⟩ := h
  refine ⟨ns ++ [t], by rw [List.map_append]; exact TsA.snoc h1 q, by simp [h2], all_snoc h3 bt⟩
set_option Elab.async true in
theorem TpA.three {K : PySem.W.Frag} {b : Int} {acc : List V} {H : Hp} (h : TpA K b 3 acc H) : ∃ (x y z : Addr) (t0 t1 t2 : Int), acc = [.ref x, .ref y, .ref z] ∧ B 134 t0 ∧ B 134 t1 ∧ B 134 t2 ∧ SqT K H x [.int ((t0 : Rat) / (b : Rat)).num, .int (((t0 : Rat) / (b : Rat)).den : Int)] ∧ SqT K H y [.int ((t1 : Rat) / (b : Rat)).num, .int (((t1 : Rat) / (b : Rat)).den : Int)] ∧ SqT K H z [.int ((t2 : Rat) / (b : Rat)).num, .int (((t2 : Rat) / (b : Rat)).den : Int)] := by
  obtain ⟨ns, h1, h2, h3⟩ := h
  match ns, h2 with
  | [t0, t1, t2], _ =>
    obtain ⟨x, y, z, e, g0, g1, g2⟩ := TsA.three h1
    exact ⟨x, y, z, t0, t1, t2, e, h3 _ (by simp), h3 _ (by simp), h3 _ (by simp), g0, g1, g2⟩
in #guard_msgs in universe u_z
end My

namespace My
open PySem L2
theorem r_tplV {K : PySem.W.Frag} {H : Hp} {Q : VK} {a : Addr} {p q r : V3} (h : VL K H a [p, q, r]) (k : ∀ (x y z t : Addr) (H1 : Hp), H t = none → Same H H1 → H1 t = some (.tup [.ref x, .ref y, .ref z]) → Vc K H1 x p → Vc K H1 y q → Vc K H1 z r → Q (.ref t) H1) : rTpl K [.ref a] H Q := by
  obtain ⟨acc, h1, h2⟩ := h
  obtain ⟨x, y, z, rfl, g0, g1, g2⟩ := VcL.three' h2
  exact r_tplL (SqL.of h1) fun t H1 n s ht => k x y z t H1 n s ht (g0.same s) (g1.same s) (g2.same s)
end My
namespace My
open PySem L2
/-- a vector over one denominator, all of g bits -/
structure RowG (g : Nat) (p : V3) : Prop where
  ex : ∃ D N0 N1 N2 : Int, 0 < D ∧ B g D ∧ B g N0 ∧ B g N1 ∧ B g N2 ∧ p.x * (D : Rat) = N0 ∧ p.y * (D : Rat) = N1 ∧ p.z * (D : Rat) = N2
theorem RowG.le {g g' : Nat} {p : V3} (h : RowG g p) (e : g ≤ g') : RowG g' p := by
  obtain ⟨D, N0, N1, N2, h0, h1, h2, h3, h4, r⟩ := h.ex
  exact ⟨D, N0, N1, N2, h0, h1.le e, h2.le e, h3.le e, h4.le e, r⟩
theorem RowG.half {p : V3} (h : HalfRow p) : RowG 6 p := by
  obtain ⟨N0, N1, N2, h0, h1, h2, e⟩ := h
  exact ⟨2, N0, N1, N2, by decide, B.lit (by decide), h0, h1, h2, e⟩
set_option Elab.async true in
theorem RowG.of {n d : Nat} {p : V3} (h : VN n d p) : RowG (n + 3 * d) p := by
  refine ⟨(p.x.den : Int) * (p.y.den : Int) * (p.z.den : Int), p.x.num * ((p.y.den : Int) * (p.z.den : Int)), p.y.num * ((p.x.den : Int) * (p.z.den : Int)), p.z.num * ((p.x.den : Int) * (p.y.den : Int)),
    Int.mul_pos (Int.mul_pos (denP _) (denP _)) (denP _), (B.mul (B.mul h.x.d h.y.d) h.z.d).le (by omega), (B.mul h.x.n (B.mul h.y.d h.z.d)).le (by omega), (B.mul h.y.n (B.mul h.x.d h.z.d)).le (by omega), (B.mul h.z.n (B.mul h.x.d h.y.d)).le (by omega), ?_, ?_, ?_⟩
  all_goals
    have e0 := numc p.x
    have e1 := numc p.y
    have e2 := numc p.z
    simp only [Rat.intCast_mul]
    grind
in #guard_msgs in universe u_z
theorem RowG.vn {g : Nat} {p : V3} (h : RowG g p) : VN g g p := by
  obtain ⟨D, N0, N1, N2, h0, h1, h2, h3, h4, e0, e1, e2⟩ := h.ex
  exact ⟨BN.ofD h0 h1 h2 e0, BN.ofD h0 h1 h3 e1, BN.ofD h0 h1 h4 e2⟩
structure GD (A : M3) : Prop where
  ex : ∃ g0 g1 g2 : Nat, RowG g0 A.a ∧ RowG g1 A.b ∧ RowG g2 A.c ∧ RowG 134 A.s ∧ g0 + g1 + g2 ≤ 146 ∧ g0 ≤ 134 ∧ g1 ≤ 134 ∧ g2 ≤ 134
theorem SmM.gd {A : M3} (h : SmM A) : GD A := ⟨6, 6, 6, RowG.half h.ha, RowG.half h.hb, RowG.half h.hc, (RowG.of h.hs).le (by decide), by decide, by decide, by decide, by decide⟩
theorem GD.mn {A : M3} (h : GD A) : MN 134 134 A := by
  obtain ⟨g0, g1, g2, h0, h1, h2, h3, _, l0, l1, l2⟩ := h.ex
  exact ⟨(h0.le l0).vn, (h1.le l1).vn, (h2.le l2).vn, h3.vn⟩
set_option Elab.async true in
theorem RowG.rd {g : Nat} {p z : V3} {t : Rat} (h : RowG g p) (hz : RowG 134 z) (ht : t = z.x ∨ t = z.y ∨ t = z.z) : RD (134 + g) (134 + g) p t := by
  obtain ⟨D, N0, N1, N2, h0, h1, h2, h3, h4, e0, e1, e2⟩ := h.ex
  obtain ⟨S, T0, T1, T2, s0, s1, s2, s3, s4, d0, d1, d2⟩ := hz.ex
  obtain ⟨T, bT, eT⟩ : ∃ T : Int, B 134 T ∧ t * (S : Rat) = T := by
    rcases ht with rfl | rfl | rfl
    · exact ⟨T0, s2, d0⟩
    · exact ⟨T1, s3, d1⟩
    · exact ⟨T2, s4, d2⟩
  refine ⟨S * D, S * N0, S * N1, S * N2, T * D, Int.mul_pos s0 h0, B.mul s1 h1, B.mul s1 h2, B.mul s1 h3, B.mul s1 h4, B.mul bT h1, ?_, ?_, ?_, ?_⟩
  all_goals
    simp only [Rat.intCast_mul]
    grind
in #guard_msgs in universe u_z
set_option Elab.async true in
theorem dotD {c0 c1 c2 a0 a1 a2 : Rat} {Dc D0 D1 D2 M0 M1 M2 N0 N1 N2 : Int} (m0 : c0 * (Dc : Rat) = M0) (m1 : c1 * (Dc : Rat) = M1) (m2 : c2 * (Dc : Rat) = M2) (n0 : a0 * (D0 : Rat) = N0) (n1 : a1 * (D1 : Rat) = N1) (n2 : a2 * (D2 : Rat) = N2) :
    (c0 * a0 + c1 * a1 + c2 * a2) * ((Dc * (D0 * D1 * D2) : Int) : Rat) = ((M0 * (N0 * (D1 * D2)) + M1 * (N1 * (D0 * D2)) + M2 * (N2 * (D0 * D1)) : Int) : Rat) := by
  simp only [Rat.intCast_mul, Rat.intCast_add]
  rw [← m0, ← m1, ← m2, ← n0, ← n1, ← n2]
  grind
in #guard_msgs in universe u_z
theorem dotB {g g0 g1 g2 : Nat} {c0 c1 c2 a0 a1 a2 : Rat} {Dc D0 D1 D2 M0 M1 M2 N0 N1 N2 : Int} (hg : g ≤ 134) (hs : g0 + g1 + g2 ≤ 146) (pc : 0 < Dc) (p0 : 0 < D0) (p1 : 0 < D1) (p2 : 0 < D2) (bc : B g Dc) (b0 : B g0 D0) (b1 : B g1 D1) (b2 : B g2 D2)
    (bm0 : B g M0) (bm1 : B g M1) (bm2 : B g M2) (bn0 : B g0 N0) (bn1 : B g1 N1) (bn2 : B g2 N2) (m0 : c0 * (Dc : Rat) = M0) (m1 : c1 * (Dc : Rat) = M1) (m2 : c2 * (Dc : Rat) = M2) (n0 : a0 * (D0 : Rat) = N0) (n1 : a1 * (D1 : Rat) = N1) (n2 : a2 * (D2 : Rat) = N2) : BN 410 402 (c0 * a0 + c1 * a1 + c2 * a2) :=
  BN.ofD (Int.mul_pos pc (Int.mul_pos (Int.mul_pos p0 p1) p2)) ((B.mul bc (B.mul (B.mul b0 b1) b2)).le (by omega))
    ((B.add (B.add (B.mul bm0 (B.mul bn0 (B.mul b1 b2))) (B.mul bm1 (B.mul bn1 (B.mul b0 b2)))) (B.mul bm2 (B.mul bn2 (B.mul b0 b1)))).le (by omega)) (dotD m0 m1 m2 n0 n1 n2)
set_option Elab.async true in
theorem shiftB {c0 c1 c2 s0 s1 s2 t : Rat} {Dc S U M0 M1 M2 T0 T1 T2 W : Int} (pc : 0 < Dc) (ps : 0 < S) (pu : 0 < U) (bc : B 134 Dc) (bs : B 134 S) (bu : B 134 U) (bm0 : B 134 M0) (bm1 : B 134 M1) (bm2 : B 134 M2) (bt0 : B 134 T0) (bt1 : B 134 T1) (bt2 : B 134 T2) (bw : B 134 W)
    (m0 : c0 * (Dc : Rat) = M0) (m1 : c1 * (Dc : Rat) = M1) (m2 : c2 * (Dc : Rat) = M2) (n0 : s0 * (S : Rat) = T0) (n1 : s1 * (S : Rat) = T1) (n2 : s2 * (S : Rat) = T2) (n3 : t * (U : Rat) = W) : BN 410 402 (c0 * s0 + c1 * s1 + c2 * s2 + t) := by
  refine BN.ofD (D := Dc * (S * U)) (N := M0 * (T0 * U) + M1 * (T1 * U) + M2 * (T2 * U) + W * (Dc * S)) (Int.mul_pos pc (Int.mul_pos ps pu)) ((B.mul bc (B.mul bs bu)).le (by omega)) ((B.add (B.add (B.add (B.mul bm0 (B.mul bt0 bu)) (B.mul bm1 (B.mul bt1 bu))) (B.mul bm2 (B.mul bt2 bu))) (B.mul bw (B.mul bc bs))).le (by omega)) ?_
  simp only [Rat.intCast_mul, Rat.intCast_add]
  rw [← m0, ← m1, ← m2, ← n0, ← n1, ← n2, ← n3]
  grind
in #guard_msgs in universe u_z
set_option Elab.async true in
theorem GD.comb {A C : M3} (hA : GD A) (hC : GD C) : MN 410 402 (My.comb A C) := by
  obtain ⟨g0, g1, g2, h0, h1, h2, h3, hs, l0, l1, l2⟩ := hA.ex
  obtain ⟨k0, k1, k2, i0, i1, i2, i3, _, j0, j1, j2⟩ := hC.ex
  obtain ⟨D0, a0, a1, a2, p0, b0, x0, x1, x2, y0, y1, y2⟩ := h0.ex
  obtain ⟨D1, b0', b1, b2, p1, c0, z0, z1, z2, w0, w1, w2⟩ := h1.ex
  obtain ⟨D2, c0', c1, c2, p2, d0, u0, u1, u2, v0, v1, v2⟩ := h2.ex
  obtain ⟨S, T0, T1, T2, ps, bs, t0, t1, t2, q0, q1, q2⟩ := h3.ex
  obtain ⟨U, W0, W1, W2, pu, bu, m0, m1, m2, n0, n1, n2⟩ := i3.ex
  have go : ∀ {k : Nat} {r : V3}, k ≤ 134 → RowG k r → VN 410 402 (rowx r A) := fun hk hr => by
    obtain ⟨E, M0, M1, M2, pe, be, e0, e1, e2, f0, f1, f2⟩ := hr.ex
    exact ⟨dotB hk hs pe p0 p1 p2 be b0 c0 d0 e0 e1 e2 x0 z0 u0 f0 f1 f2 y0 w0 v0, dotB hk hs pe p0 p1 p2 be b0 c0 d0 e0 e1 e2 x1 z1 u1 f0 f1 f2 y1 w1 v1, dotB hk hs pe p0 p1 p2 be b0 c0 d0 e0 e1 e2 x2 z2 u2 f0 f1 f2 y2 w2 v2⟩
  have gs : ∀ {k : Nat} {r : V3} {t : Rat} {W : Int}, k ≤ 134 → RowG k r → B 134 W → t * (U : Rat) = W → BN 410 402 (dt r A.s + t) := fun hk hr hW ht => by
    obtain ⟨E, M0, M1, M2, pe, be, e0, e1, e2, f0, f1, f2⟩ := hr.ex
    exact shiftB pe ps pu (be.le hk) bs bu (e0.le hk) (e1.le hk) (e2.le hk) t0 t1 t2 hW f0 f1 f2 q0 q1 q2 ht
  exact ⟨go j0 i0, go j1 i1, go j2 i2, ⟨gs j0 i0 m0 n0, gs j1 i1 m1 n1, gs j2 i2 m2 n2⟩⟩
in #guard_msgs in universe u_z
theorem GD.rds {A : M3} (h : GD A) : ∃ g0 g1 g2 : Nat, RD (134 + g0) (134 + g0) A.a A.s.x ∧ RD (134 + g1) (134 + g1) A.b A.s.y ∧ RD (134 + g2) (134 + g2) A.c A.s.z ∧ g0 + g1 + g2 ≤ 146 := by
  obtain ⟨g0, g1, g2, h0, h1, h2, h3, hs, _⟩ := h.ex
  exact ⟨g0, g1, g2, h0.rd h3 (.inl rfl), h1.rd h3 (.inr (.inl rfl)), h2.rd h3 (.inr (.inr rfl)), hs⟩
end My
namespace My
open PySem L2
theorem GD.mk' {p q r z : V3} {g0 g1 g2 : Nat} (h0 : RowG g0 p) (h1 : RowG g1 q) (h2 : RowG g2 r) (h3 : RowG 134 z) (hs : g0 + g1 + g2 ≤ 146) (l : g0 ≤ 134 ∧ g1 ≤ 134 ∧ g2 ≤ 134) : GD ⟨p, q, r, z⟩ := ⟨g0, g1, g2, h0, h1, h2, h3, hs, l.1, l.2.1, l.2.2⟩
theorem RowG.mk' {p : V3} {D N0 N1 N2 : Int} (h0 : 0 < D) (h1 : B 134 D) (h2 : B 134 N0) (h3 : B 134 N1) (h4 : B 134 N2) (e0 : p.x * (D : Rat) = N0) (e1 : p.y * (D : Rat) = N1) (e2 : p.z * (D : Rat) = N2) : RowG 134 p := ⟨D, N0, N1, N2, h0, h1, h2, h3, h4, e0, e1, e2⟩
theorem det_num {A : M3} (h : ¬ (det3 A).num = 0) : det3 A ≠ 0 := fun e => h (by rw [e]; rfl)
end My
namespace My
open PySem L2
set_option Elab.async true in
theorem mn_still : MN 6 6 still := by
  have bi : ∀ a b c : Int, B 6 a → B 6 b → B 6 c → VN 6 6 (⟨(a : Rat), (b : Rat), (c : Rat)⟩ : V3) := fun a b c h1 h2 h3 => (VN.int3 h1 h2 h3).le (by decide) (by decide)
  refine ⟨?_, ?_, ?_, ?_⟩
  · have := bi 1 0 0 (B.lit (by decide)) (B.lit (by decide)) (B.lit (by decide))
    simpa [still, e0] using this
  · have := bi 0 1 0 (B.lit (by decide)) (B.lit (by decide)) (B.lit (by decide))
    simpa [still, e1] using this
  · have := bi 0 0 1 (B.lit (by decide)) (B.lit (by decide)) (B.lit (by decide))
    simpa [still, e2] using this
  · have := bi 0 0 0 (B.lit (by decide)) (B.lit (by decide)) (B.lit (by decide))
    simpa [still, o3] using this
in #guard_msgs in universe u_z
end My
namespace My
open PySem L2 PySem.Calls PyProof.Rows
theorem run_gcd4 (a b c d : Int) (t1 t2 t3 t4 : Tok) : Gives (Builtin.«math.gcd» ⟨[.int a t1, .int b t2, .int c t3, .int d t4], []⟩) (.int (((((Nat.gcd 0 a.natAbs).gcd b.natAbs).gcd c.natAbs).gcd d.natAbs : Nat) : Int)) :=
  .of_wp fun M A E s Q h => by obtain ⟨hp, g, dd, tk, os⟩ := s; wp_walk; exact ⟨_, rfl, h⟩
theorem args_gcd4 (a b c d : Value) : argsOk "math.gcd" ⟨[a, b, c, d], []⟩ := by unfold argsOk; kernel_rfl
/-- the gcd of a list -/
def gl (xs : List Int) : Nat := xs.foldl (fun g x => Nat.gcd g x.natAbs) 0
def rGcd4 : List V → Hp → VK → Prop := fun xs H Q => ∃ a b c d : Int, xs = [.int a, .int b, .int c, .int d] ∧ Q (.int ((gl [a, b, c, d] : Nat) : Int)) H
theorem cr_gcd4 {X : Cx} : CallR X (.builtin "math.gcd") rGcd4 := by
  intro pins s σ H vs us Q I r h
  obtain ⟨a, b, c, d, rfl, q⟩ := h
  obtain ⟨t1, t2, t3, t4, rfl⟩ := Vals.int4 r
  exact call_function_meets PySem.W.MGF.kind_gcd PySem.W.MGF.plain_gcd PySem.W.MGF.entry_gcd (args_gcd4 _ _ _ _) (run_gcd4 a b c d t1 t2 t3 t4).meets ⟨.int _, H, I.tok _, ⟨_, rfl⟩, q⟩
theorem r_gcd4 {H : Hp} {Q : VK} {a b c d : Int} (q : Q (.int ((gl [a, b, c, d] : Nat) : Int)) H) : rGcd4 [.int a, .int b, .int c, .int d] H Q := ⟨a, b, c, d, rfl, q⟩
theorem gl4 (a b c d : Int) : gl [a, b, c, d] = Nat.gcd (Nat.gcd (Nat.gcd (a.natAbs) b.natAbs) c.natAbs) d.natAbs := by simp [gl]
set_option Elab.async true in
theorem gl_dvd (a b c d : Int) : ((gl [a, b, c, d] : Nat) : Int) ∣ a ∧ ((gl [a, b, c, d] : Nat) : Int) ∣ b ∧ ((gl [a, b, c, d] : Nat) : Int) ∣ c ∧ ((gl [a, b, c, d] : Nat) : Int) ∣ d := by
  rw [gl4]
  refine ⟨Int.ofNat_dvd_left.2 ?_, Int.ofNat_dvd_left.2 ?_, Int.ofNat_dvd_left.2 ?_, Int.ofNat_dvd_left.2 ?_⟩
  · exact Nat.dvd_trans (Nat.gcd_dvd_left _ _) (Nat.dvd_trans (Nat.gcd_dvd_left _ _) (Nat.gcd_dvd_left _ _))
  · exact Nat.dvd_trans (Nat.gcd_dvd_left _ _) (Nat.dvd_trans (Nat.gcd_dvd_left _ _) (Nat.gcd_dvd_right _ _))
  · exact Nat.dvd_trans (Nat.gcd_dvd_left _ _) (Nat.gcd_dvd_right _ _)
  · exact Nat.gcd_dvd_right _ _
in #guard_msgs in universe u_z
theorem gl_pos {a b c d : Int} (h : ¬ (a = 0 ∧ b = 0 ∧ c = 0)) : 0 < gl [a, b, c, d] := by
  refine Nat.pos_of_ne_zero fun e => h ?_
  obtain ⟨h1, h2, h3, _⟩ := gl_dvd a b c d
  rw [e] at h1 h2 h3
  exact ⟨Int.zero_dvd.1 h1, Int.zero_dvd.1 h2, Int.zero_dvd.1 h3⟩
theorem gl_mul (k : Nat) (a b c d : Int) : gl [a * k, b * k, c * k, d * k] = gl [a, b, c, d] * k := by
  simp only [gl4, Int.natAbs_mul, Int.natAbs_natCast, Nat.gcd_mul_right]
theorem gl_neg (a b c d : Int) : gl [-a, -b, -c, -d] = gl [a, b, c, d] := by simp only [gl4, Int.natAbs_neg]
/-- the first of three is positive, zeros left out -/
def Fst (a b c : Int) : Prop := 0 < a ∨ (a = 0 ∧ (0 < b ∨ (b = 0 ∧ 0 < c)))
structure PlF (a b c d : Int) : Prop where
  g : gl [a, b, c, d] = 1
  f : Fst a b c
/-- a half in lowest form of four integers -/
structure HF (a b c d p0 p1 p2 p3 sd g : Int) : Prop where
  pos : 0 < g
  s : sd = 1 ∨ sd = -1
  e0 : a = p0 * (sd * g)
  e1 : b = p1 * (sd * g)
  e2 : c = p2 * (sd * g)
  e3 : d = p3 * (sd * g)
  p : PlF p0 p1 p2 p3
theorem Fst.mul {a b c g : Int} (hg : 0 < g) (h : Fst a b c) : Fst (a * g) (b * g) (c * g) := by
  rcases h with h | ⟨rfl, h | ⟨rfl, h⟩⟩
  · exact .inl (Int.mul_pos h hg)
  · exact .inr ⟨Int.zero_mul _, .inl (Int.mul_pos h hg)⟩
  · exact .inr ⟨Int.zero_mul _, .inr ⟨Int.zero_mul _, Int.mul_pos h hg⟩⟩
theorem Fst.neg {a b c : Int} (h : Fst a b c) (h2 : Fst (-a) (-b) (-c)) : False := by
  simp only [Fst] at h h2
  omega
set_option Elab.async true in
/-- lowest forms of fours on one ray are one -/
theorem HF.uniq {a b c d p0 p1 p2 p3 sd g a' b' c' d' q0 q1 q2 q3 sd' g' l m : Int} (h : HF a b c d p0 p1 p2 p3 sd g) (h' : HF a' b' c' d' q0 q1 q2 q3 sd' g') (hl : 0 < l) (hm : 0 < m) (x0 : a * l = a' * m) (x1 : b * l = b' * m) (x2 : c * l = c' * m) (x3 : d * l = d' * m) :
    q0 = p0 ∧ q1 = p1 ∧ q2 = p2 ∧ q3 = p3 ∧ sd' = sd := by
  obtain ⟨u, hu⟩ := Int.eq_ofNat_of_zero_le (Int.le_of_lt (Int.mul_pos h.pos hl))
  obtain ⟨v, hv⟩ := Int.eq_ofNat_of_zero_le (Int.le_of_lt (Int.mul_pos h'.pos hm))
  have u0 : 0 < (u : Int) := hu ▸ Int.mul_pos h.pos hl
  have v0 : 0 < (v : Int) := hv ▸ Int.mul_pos h'.pos hm
  rw [h.e0, h'.e0] at x0
  rw [h.e1, h'.e1] at x1
  rw [h.e2, h'.e2] at x2
  rw [h.e3, h'.e3] at x3
  have fin : ∀ t : Int, (t = 1 ∨ t = -1) → p0 * u = q0 * v * t → p1 * u = q1 * v * t → p2 * u = q2 * v * t → p3 * u = q3 * v * t → t = 1 ∧ q0 = p0 ∧ q1 = p1 ∧ q2 = p2 ∧ q3 = p3 := by
    intro t ht y0 y1 y2 y3
    have t1 : t = 1 := by
      rcases ht with rfl | rfl
      · rfl
      · refine (Fst.neg (h'.p.f.mul v0) ?_).elim
        have := h.p.f.mul u0
        rw [y0, y1, y2] at this
        simpa using this
    subst t1
    rw [Int.mul_one] at y0 y1 y2 y3
    have e1 := gl_mul u p0 p1 p2 p3
    have e2 := gl_mul v q0 q1 q2 q3
    rw [y0, y1, y2, y3, e2, h'.p.g, h.p.g] at e1
    have e : v = u := by omega
    subst e
    have z : (v : Int) ≠ 0 := by omega
    exact ⟨rfl, (Int.eq_of_mul_eq_mul_right z y0).symm, (Int.eq_of_mul_eq_mul_right z y1).symm, (Int.eq_of_mul_eq_mul_right z y2).symm, (Int.eq_of_mul_eq_mul_right z y3).symm⟩
  have go : ∀ p q : Int, p * (sd * g) * l = q * (sd' * g') * m → p * u = q * v * (sd * sd') := fun p q e => by
    rw [← hu, ← hv]
    rcases h.s with rfl | rfl <;> rcases h'.s with rfl | rfl <;> grind
  obtain ⟨t1, r⟩ := fin (sd * sd') (by rcases h.s with rfl | rfl <;> rcases h'.s with rfl | rfl <;> simp) (go _ _ x0) (go _ _ x1) (go _ _ x2) (go _ _ x3)
  refine ⟨r.1, r.2.1, r.2.2.1, r.2.2.2, ?_⟩
  rcases h.s with rfl | rfl <;> rcases h'.s with rfl | rfl <;> simp at t1 ⊢
in #guard_msgs in universe u_z
theorem Fst.div {a b c g : Int} (hg : 0 < g) (h : Fst (a * g) (b * g) (c * g)) : Fst a b c := by
  have p : ∀ x : Int, 0 < x * g → 0 < x := fun x hx => Int.pos_of_mul_pos_left hx hg
  have z : ∀ x : Int, x * g = 0 → x = 0 := fun x hx => (Int.mul_eq_zero.1 hx).resolve_right (by omega)
  rcases h with h | ⟨e, h | ⟨e2, h⟩⟩
  · exact .inl (p _ h)
  · exact .inr ⟨z _ e, .inl (p _ h)⟩
  · exact .inr ⟨z _ e, .inr ⟨z _ e2, p _ h⟩⟩
set_option Elab.async true in
theorem gl_B {k : Nat} {a b c d : Int} (h : ¬ (a = 0 ∧ b = 0 ∧ c = 0)) (ba : B k a) (bb : B k b) (bc : B k c) : B k ((gl [a, b, c, d] : Nat) : Int) := by
  obtain ⟨h1, h2, h3, _⟩ := gl_dvd a b c d
  have go : ∀ x : Int, x ≠ 0 → ((gl [a, b, c, d] : Nat) : Int) ∣ x → B k x → B k ((gl [a, b, c, d] : Nat) : Int) := fun x hx hd hb => B.of_le (y := x) (by
    have := Nat.le_of_dvd (by omega) (Int.natAbs_dvd_natAbs.2 hd)
    omega) hb
  by_cases ha : a = 0
  · by_cases hb : b = 0
    · exact go c (fun e => h ⟨ha, hb, e⟩) h3 bc
    · exact go b hb h2 bb
  · exact go a ha h1 ba
in #guard_msgs in universe u_z
set_option Elab.async true in
theorem hf_mk {a b c d sd : Int} (h0 : ¬ (a = 0 ∧ b = 0 ∧ c = 0)) (hs : (sd = 1 ∧ Fst a b c) ∨ (sd = -1 ∧ Fst (-a) (-b) (-c))) :
    HF a b c d (a.fdiv (sd * ((gl [a, b, c, d] : Nat) : Int))) (b.fdiv (sd * ((gl [a, b, c, d] : Nat) : Int))) (c.fdiv (sd * ((gl [a, b, c, d] : Nat) : Int))) (d.fdiv (sd * ((gl [a, b, c, d] : Nat) : Int))) sd ((gl [a, b, c, d] : Nat) : Int) := by
  have gp := gl_pos (d := d) h0
  obtain ⟨⟨x, ex⟩, ⟨y, ey⟩, ⟨z, ez⟩, ⟨t, et⟩⟩ := gl_dvd a b c d
  have e1 := gl_mul (gl [a, b, c, d]) x y z t
  generalize hg : gl [a, b, c, d] = g at *
  have g0 : 0 < (g : Int) := by omega
  have hx : a = x * g := by rw [ex, Int.mul_comm]
  have hy : b = y * g := by rw [ey, Int.mul_comm]
  have hz : c = z * g := by rw [ez, Int.mul_comm]
  have ht : d = t * g := by rw [et, Int.mul_comm]
  rw [← hx, ← hy, ← hz, ← ht, hg] at e1
  have g1 : gl [x, y, z, t] = 1 := by
    have : 1 * g = gl [x, y, z, t] * g := by omega
    exact (Nat.eq_of_mul_eq_mul_right gp this).symm
  have sn : sd = 1 ∨ sd = -1 := hs.imp And.left And.left
  have nz : sd * (g : Int) ≠ 0 := by
    rcases sn with rfl | rfl <;> omega
  have dv : ∀ u v : Int, u = v * g → u.fdiv (sd * g) = sd * v := fun u v e => by
    have : u = (sd * v) * (sd * g) := by rcases sn with rfl | rfl <;> grind
    rw [this, Int.mul_fdiv_cancel _ nz]
  rw [dv a x hx, dv b y hy, dv c z hz, dv d t ht]
  have bk : ∀ u v : Int, u = v * g → u = sd * v * (sd * g) := fun u v e => by rcases sn with rfl | rfl <;> grind
  refine ⟨g0, sn, bk _ _ hx, bk _ _ hy, bk _ _ hz, bk _ _ ht, ⟨?_, ?_⟩⟩
  · rcases sn with rfl | rfl
    · simpa using g1
    · have e : gl [-1 * x, -1 * y, -1 * z, -1 * t] = gl [x, y, z, t] := by
        rw [← gl_neg]
        congr 1 <;> simp
      rw [e, g1]
  · rcases hs with ⟨rfl, f⟩ | ⟨rfl, f⟩
    · rw [hx, hy, hz] at f
      simpa using f.div g0
    · rw [hx, hy, hz, ← Int.neg_mul, ← Int.neg_mul, ← Int.neg_mul] at f
      simpa using f.div g0
in #guard_msgs in universe u_z
end My
namespace My
open PySem L2 PySem.Calls PyProof.Rows
section
variable {X : Cx} {K : PySem.W.Frag} {a b : Expr} {ta tb : TE} {rst : List Expr} {pos : Pos} {σ : L2.St} {H : Hp} {Q : VK}
theorem kp_orT (hK : X.K = K) (ha : PE X a ta) (hb : PE X (.BoolOp .Or (b :: rst) pos) tb) : PE X (.BoolOp .Or (a :: b :: rst) pos) (tOrT K ta tb) := hK ▸ pe_orT ha hb
theorem w_orT (h : ta σ H fun x H1 => ∃ k, TruV K x H1 k ∧ if k = true then Q x H1 else tb σ H1 Q) : tOrT K ta tb σ H Q := h
theorem r_orI {i : Int} {A B : Prop} (h1 : i ≠ 0 → A) (h2 : i = 0 → B) : ∃ k, TruV K (.int i) H k ∧ if k = true then A else B := by
  by_cases e : i = 0
  · exact ⟨false, by simp [TruV, e], by simpa using h2 e⟩
  · exact ⟨true, by simp [TruV, e], by simpa using h1 e⟩
end
end My
namespace My
open PySem L2 PySem.Calls PyProof.Rows
section
variable {X : Cx} {K : PySem.W.Frag} {H H' : Hp} {Q : VK}
theorem PG.or {e : Expr} {t1 t2 : TG} (h1 : PG X e t1) (h2 : PG X e t2) : PG X e (fun v σ H Q => t1 v σ H Q ∨ t2 v σ H Q) := ⟨fun pins s σ H v u Q I r hw => hw.elim (h1.run pins s σ H v u Q I r) (h2.run pins s σ H v u Q I r)⟩
def gAny (K : PySem.W.Frag) (n : Nat) (t : TGs) : TG := fun v σ H Q => gTup K n t v σ H Q ∨ gUnL K n t v σ H Q
theorem kg_any (hK : X.K = K) {es : List Expr} {k n : Nat} {t : TGs} {pos : Pos} (hc : X.calm = true) (h : PGs X es t)
    (hn : (assignEach es X.env).length = n := by rfl) (hst : (assignEach es X.env).findIdx? (·.1) = none := by rfl) : PG X (.Tuple es k pos) (gAny K n t) := PG.or (kg_tup hK hc h hn hst) (kg_lst hK hc h hn hst)
/-- a tuple or a list -/
def SqA (K : PySem.W.Frag) (H : Hp) (a : Addr) (xs : List V) : Prop := SqT K H a xs ∨ SqL K H a xs
theorem SqA.t {a : Addr} {xs : List V} (h : SqT K H a xs) : SqA K H a xs := .inl h
theorem SqA.l {a : Addr} {xs : List V} (h : SqL K H a xs) : SqA K H a xs := .inr h
theorem SqA.same {a : Addr} {xs : List V} (e : Same H H') (h : SqA K H a xs) : SqA K H' a xs := h.imp (fun q => Same.tup e q) (fun q => Same.seq e q)
theorem w_gAny {σ : L2.St} {Q : L2.St → Hp → Prop} {n : Nat} {gs : TGs} {a : Addr} {xs : List V} (q : SqA K H a xs) (hn : xs.length = n) (h : gs xs σ H Q) : gAny K n gs (.ref a) σ H Q := q.imp (fun q => ⟨a, xs, rfl, q, hn, h⟩) (fun q => ⟨a, xs, rfl, q, hn, h⟩)
theorem r_ixSA {p : Addr} {xs : List V} {i : Int} {v : V} (q : SqA K H p xs) (a : atI xs i = some v) (h : Q v H) : rIxA K (.ref p) (.int i) H Q := q.elim (fun q => r_ixAT q a h) (fun q => r_ixAL q a h)
/-- a point in a tuple or a list -/
def VcA (K : PySem.W.Frag) (H : Hp) (v : Addr) (p : V3) : Prop := ∃ x y z : Addr, SqA K H v [.ref x, .ref y, .ref z] ∧ SqT K H x [.int p.x.num, .int (p.x.den : Int)] ∧ SqT K H y [.int p.y.num, .int (p.y.den : Int)] ∧ SqT K H z [.int p.z.num, .int (p.z.den : Int)]
end
/-- the sign of a ratio -/
def sg (q : Rat) : Int := if 0 < q then 1 else if q < 0 then -1 else 0
/-- the value of a plane at a point -/
def pval (a b c d : Int) (p : V3) : Rat := (a : Rat) * p.x + (b : Rat) * p.y + (c : Rat) * p.z + (d : Rat)
set_option Elab.async true in
theorem side_sg {a b c d g : Int} {p : V3} (e : g = a * p.x.num * (p.y.den : Int) * (p.z.den : Int) + b * p.y.num * (p.x.den : Int) * (p.z.den : Int) + c * p.z.num * (p.x.den : Int) * (p.y.den : Int) + d * (p.x.den : Int) * (p.y.den : Int) * (p.z.den : Int)) :
    ((if 0 < g then 1 else 0) - (if g < 0 then 1 else 0) : Int) = sg (pval a b c d p) := by
  have e0 := numc p.x
  have e1 := numc p.y
  have e2 := numc p.z
  have dp : (0 : Rat) < ((p.x.den : Int) : Rat) * ((p.y.den : Int) : Rat) * ((p.z.den : Int) : Rat) := by
    have q : ∀ r : Rat, (0 : Rat) < ((r.den : Int) : Rat) := fun r => by exact_mod_cast denP r
    exact Rat.mul_pos (Rat.mul_pos (q _) (q _)) (q _)
  have eg : (g : Rat) = pval a b c d p * (((p.x.den : Int) : Rat) * ((p.y.den : Int) : Rat) * ((p.z.den : Int) : Rat)) := by
    rw [e]
    simp only [Rat.intCast_add, Rat.intCast_mul, pval]
    rw [← e0, ← e1, ← e2]
    grind
  generalize ((p.x.den : Int) : Rat) * ((p.y.den : Int) : Rat) * ((p.z.den : Int) : Rat) = D at *
  generalize pval a b c d p = q at *
  clear e e0 e1 e2
  have g1 : 0 < g → (0 : Rat) < (g : Rat) := fun h => by exact_mod_cast h
  have g2 : g < 0 → (g : Rat) < 0 := fun h => by exact_mod_cast h
  have g3 : g = 0 → (g : Rat) = 0 := fun h => by exact_mod_cast h
  have t : ∀ x y : Rat, 0 < y → 0 < x * y → 0 < x := fun x y hy h => by
    by_cases h2 : x = 0
    · rw [h2] at h
      grind
    · by_cases h1 : 0 < x
      · exact h1
      · have := Rat.mul_pos (show 0 < -x by grind) hy
        grind
  simp only [sg]
  rcases Int.lt_trichotomy g 0 with h | h | h
  · have n := g2 h
    have m : 0 < -q := t (-q) D dp (by grind)
    rw [if_neg (show ¬ (0 < g) by omega), if_pos h, if_neg (show ¬ (0 < q) by grind), if_pos (show q < 0 by grind)]
    rfl
  · have n := g3 h
    have m : q = 0 := by
      rw [eg] at n
      rcases Rat.mul_eq_zero.1 n with n | n
      · exact n
      · grind
    rw [m, h]
    rfl
  · have n := g1 h
    have m : 0 < q := t q D dp (by grind)
    rw [if_pos h, if_neg (show ¬ (g < 0) by omega), if_pos m]
    rfl
in #guard_msgs in universe u_z
end My
namespace My
open PySem L2
theorem VcA.of {K : PySem.W.Frag} {H : Hp} {v : Addr} {p : V3} (h : Vc K H v p) : VcA K H v p := by
  obtain ⟨x, y, z, h1, h2, h3, h4⟩ := h
  exact ⟨x, y, z, .inl h1, h2, h3, h4⟩
theorem VcA.same {K : PySem.W.Frag} {H H' : Hp} {v : Addr} {p : V3} (e : Same H H') (h : VcA K H v p) : VcA K H' v p := by
  obtain ⟨x, y, z, h1, h2, h3, h4⟩ := h
  exact ⟨x, y, z, h1.same e, Same.tup e h2, Same.tup e h3, Same.tup e h4⟩
theorem VcA.fr {K : PySem.W.Frag} {H H' : Hp} {s v : Addr} {p : V3} (e : Fr s H H') (st : St K H s) (h : VcA K H v p) : VcA K H' v p := by
  obtain ⟨x, y, z, h1, h2, h3, h4⟩ := h
  exact ⟨x, y, z, h1.imp (fun q => Fr.tup e st q) (fun q => Fr.seq e st q rfl), Fr.tup e st h2, Fr.tup e st h3, Fr.tup e st h4⟩
end My
namespace My
open PySem L2
theorem HF.out {k : Nat} {a b c d p0 p1 p2 p3 sd g : Int} (h : HF a b c d p0 p1 p2 p3 sd g) (ba : B k a) (bb : B k b) (bc : B k c) (bd : B k d) : PlF p0 p1 p2 p3 ∧ B k p0 ∧ B k p1 ∧ B k p2 ∧ B k p3 := by
  have nz : sd * g ≠ 0 := by
    have := h.pos
    rcases h.s with rfl | rfl <;> omega
  exact ⟨h.p, B.of_le (nat_le_mul nz h.e0) ba, B.of_le (nat_le_mul nz h.e1) bb, B.of_le (nat_le_mul nz h.e2) bc, B.of_le (nat_le_mul nz h.e3) bd⟩
theorem gl_form (a b c d : Int) : Nat.gcd ((a.natAbs.gcd b.natAbs : Nat) : Int).natAbs ((c.natAbs.gcd d.natAbs : Nat) : Int).natAbs = gl [a, b, c, d] := by
  rw [gl4, Int.natAbs_natCast, Int.natAbs_natCast, Nat.gcd_assoc, Nat.gcd_assoc, Nat.gcd_assoc]
set_option Elab.async true in
/-- a ratio of integers that is a plane's value -/
theorem pval_q {a b c d : Int} {p : V3} {t m : Int} (em : m = (p.x.den : Int) * (p.y.den : Int) * (p.z.den : Int)) (et : t = a * p.x.num * (p.y.den : Int) * (p.z.den : Int) + b * p.y.num * (p.x.den : Int) * (p.z.den : Int) + c * p.z.num * (p.x.den : Int) * (p.y.den : Int) + d * m) : (t : Rat) / (m : Rat) = pval a b c d p := by
  have e0 := numc p.x
  have e1 := numc p.y
  have e2 := numc p.z
  have b0 := icz (denI p.x)
  have b1 := icz (denI p.y)
  have b2 := icz (denI p.z)
  rw [et, em]
  simp only [Rat.intCast_add, Rat.intCast_mul, pval]
  rw [← e0, ← e1, ← e2]
  grind
in #guard_msgs in universe u_z
end My
namespace My
open PySem L2
/-- what is known of a, b, c after i steps of a search, at t -/
def PI3 (a b c : Int) (i : Nat) (t : Int) : Prop := (t = 0 ∧ a ≠ 0) ∨ (t = 1 ∧ b ≠ 0) ∨ (t = 2 ∧ c ≠ 0) ∨ i = 0 ∨ (i ≤ 1 ∧ ((t = 0 ∧ c = 0) ∨ (t = 1 ∧ a = 0) ∨ (t = 2 ∧ b = 0))) ∨ (i ≤ 2 ∧ ((t = 0 ∧ b = 0 ∧ c = 0) ∨ (t = 1 ∧ c = 0 ∧ a = 0) ∨ (t = 2 ∧ a = 0 ∧ b = 0)))
theorem PI3.s0 {a b c : Int} {i : Nat} (nz : ¬ (a = 0 ∧ b = 0 ∧ c = 0)) (h : PI3 a b c i 0) (e : a = 0) : PI3 a b c (i + 1) 1 := by unfold PI3 at h ⊢; omega
theorem PI3.s1 {a b c : Int} {i : Nat} (nz : ¬ (a = 0 ∧ b = 0 ∧ c = 0)) (h : PI3 a b c i 1) (e : b = 0) : PI3 a b c (i + 1) 2 := by unfold PI3 at h ⊢; omega
theorem PI3.s2 {a b c : Int} {i : Nat} (nz : ¬ (a = 0 ∧ b = 0 ∧ c = 0)) (h : PI3 a b c i 2) (e : c = 0) : PI3 a b c (i + 1) 0 := by unfold PI3 at h ⊢; omega
theorem PI3.k0 {a b c : Int} {i : Nat} (e : a ≠ 0) : PI3 a b c (i + 1) 0 := .inl ⟨rfl, e⟩
theorem PI3.k1 {a b c : Int} {i : Nat} (e : b ≠ 0) : PI3 a b c (i + 1) 1 := .inr (.inl ⟨rfl, e⟩)
theorem PI3.k2 {a b c : Int} {i : Nat} (e : c ≠ 0) : PI3 a b c (i + 1) 2 := .inr (.inr (.inl ⟨rfl, e⟩))
theorem PI3.end {a b c t : Int} (h : PI3 a b c 3 t) : (t = 0 ∧ a ≠ 0) ∨ (t = 1 ∧ b ≠ 0) ∨ (t = 2 ∧ c ≠ 0) := by unfold PI3 at h; omega
theorem pval_x {a b c d : Int} {p : V3} (h : (a : Rat) ≠ 0) : pval a b c d ⟨p.x - pval a b c d p / (a : Rat), p.y, p.z⟩ = 0 := by simp only [pval]; grind
theorem pval_y {a b c d : Int} {p : V3} (h : (b : Rat) ≠ 0) : pval a b c d ⟨p.x, p.y - pval a b c d p / (b : Rat), p.z⟩ = 0 := by simp only [pval]; grind
theorem pval_z {a b c d : Int} {p : V3} (h : (c : Rat) ≠ 0) : pval a b c d ⟨p.x, p.y, p.z - pval a b c d p / (c : Rat)⟩ = 0 := by simp only [pval]; grind
end My
namespace My
open PySem L2
theorem r_setT {K : PySem.W.Frag} {H H0 : Hp} {l : Addr} {xs ys : List V} {v : V} {Q : Hp → Prop} {k : Int} {j : Nat} (nl : H0 l = none) (e : Same H0 H) (h : H l = some (.lst xs)) (ix : ixN xs.length k = some j) (ey : xs.set j v = ys)
    (q : ∀ H1, Same H0 H1 → TK K H H1 → H1 l = some (.lst ys) → Q H1) : rSetL (.ref l) (.int k) v H Q :=
  r_setL h ix ey (q _ (Same.mut e nl) (TK.upd h) upd_same)
theorem bn_qd {n d k : Nat} {q : Rat} {a : Int} (h : BN n d q) (ha : a ≠ 0) (ba : B k a) : BN n (d + k) (q / (a : Rat)) := by
  have e : q / (a : Rat) = (q.num : Rat) / (((q.den : Int) * a : Int) : Rat) := by
    have a1 := numc q
    have b1 := icz (denI q)
    have b2 := icz ha
    rw [← a1, Rat.intCast_mul]
    grind
  rw [e]
  exact BN.dv (Int.mul_ne_zero (denI q) ha) h.n (B.mul h.d ba)
end My

set_option Elab.async false
set_option maxRecDepth 100000
set_option linter.all false
namespace My
open PySem L2
/-! moved halves -/
/-- the half that the move A makes of the half a b c d, s -/
structure MH (A : M3) (a b c d s q0 q1 q2 q3 t : Int) : Prop where
  p : PlF q0 q1 q2 q3
  ts : t = 1 ∨ t = -1
  ex : ∃ l : Rat, 0 < l ∧ ∀ v : V3, (t : Rat) * pval q0 q1 q2 q3 (app A v) = l * ((s : Rat) * pval a b c d v)
theorem app_inv {A : M3} (h : det3 A ≠ 0) (v : V3) : app A (app (minv A) v) = v := by
  rw [← app_comb, minv_comb h, app_still]
theorem pval_o {a b c d : Int} : pval a b c d o3 = (d : Rat) := by simp only [pval, o3]; grind
theorem pval_e0 {a b c d : Int} : pval a b c d e0 = (a : Rat) + (d : Rat) := by simp only [pval, e0]; grind
theorem pval_e1 {a b c d : Int} : pval a b c d e1 = (b : Rat) + (d : Rat) := by simp only [pval, e1]; grind
theorem pval_e2 {a b c d : Int} : pval a b c d e2 = (c : Rat) + (d : Rat) := by simp only [pval, e2]; grind
set_option Elab.async true in
theorem rat_int {l m : Rat} {x y : Int} (h : l * (x : Rat) = m * (y : Rat)) : x * (l.num * (m.den : Int)) = y * (m.num * (l.den : Int)) := by
  have e1 := numc l
  have e2 := numc m
  have k : ((x * (l.num * (m.den : Int)) : Int) : Rat) = ((y * (m.num * (l.den : Int)) : Int) : Rat) := by
    simp only [Rat.intCast_mul]
    rw [← e1, ← e2]
    generalize ((l.den : Int) : Rat) = ld at *
    generalize ((m.den : Int) : Rat) = md at *
    clear e1 e2
    have : (x : Rat) * (l * ld * md) = (l * (x : Rat)) * (ld * md) := by grind
    rw [this, h]
    grind
  exact_mod_cast k
in #guard_msgs in universe u_z
theorem HF.self {q0 q1 q2 q3 t : Int} (p : PlF q0 q1 q2 q3) (ht : t = 1 ∨ t = -1) : HF (t * q0) (t * q1) (t * q2) (t * q3) q0 q1 q2 q3 t 1 :=
  ⟨by decide, ht, by rw [Int.mul_one, Int.mul_comm], by rw [Int.mul_one, Int.mul_comm], by rw [Int.mul_one, Int.mul_comm], by rw [Int.mul_one, Int.mul_comm], p⟩
set_option Elab.async true in
theorem MH.uniq {A : M3} {a b c d s q0 q1 q2 q3 t r0 r1 r2 r3 u : Int} (hA : det3 A ≠ 0) (h : MH A a b c d s q0 q1 q2 q3 t) (h' : MH A a b c d s r0 r1 r2 r3 u) :
    r0 = q0 ∧ r1 = q1 ∧ r2 = q2 ∧ r3 = q3 ∧ u = t := by
  obtain ⟨l, hl, e⟩ := h.ex
  obtain ⟨m, hm, f⟩ := h'.ex
  have g : ∀ v : V3, m * ((t : Rat) * pval q0 q1 q2 q3 v) = l * ((u : Rat) * pval r0 r1 r2 r3 v) := fun v => by
    have e1 := e (app (minv A) v)
    have f1 := f (app (minv A) v)
    rw [app_inv hA] at e1 f1
    rw [e1, f1]
    grind
  have g0 := g o3
  have g1 := g e0
  have g2 := g e1
  have g3 := g e2
  rw [pval_o, pval_o] at g0
  rw [pval_e0, pval_e0] at g1
  rw [pval_e1, pval_e1] at g2
  rw [pval_e2, pval_e2] at g3
  have x3 : m * (((t * q3 : Int)) : Rat) = l * ((u * r3 : Int) : Rat) := by simp only [Rat.intCast_mul]; exact g0
  have x0 : m * (((t * q0 : Int)) : Rat) = l * ((u * r0 : Int) : Rat) := by simp only [Rat.intCast_mul]; grind
  have x1 : m * (((t * q1 : Int)) : Rat) = l * ((u * r1 : Int) : Rat) := by simp only [Rat.intCast_mul]; grind
  have x2 : m * (((t * q2 : Int)) : Rat) = l * ((u * r2 : Int) : Rat) := by simp only [Rat.intCast_mul]; grind
  have pl := num_pos.2 hl
  have pm := num_pos.2 hm
  exact HF.uniq (HF.self h.p h.ts) (HF.self h'.p h'.ts) (Int.mul_pos pm (denP l)) (Int.mul_pos pl (denP m)) (rat_int x0) (rat_int x1) (rat_int x2) (rat_int x3)
in #guard_msgs in universe u_z
theorem MH.comb {A C : M3} {a b c d s q0 q1 q2 q3 t r0 r1 r2 r3 u : Int} (h : MH A a b c d s q0 q1 q2 q3 t) (h' : MH C q0 q1 q2 q3 t r0 r1 r2 r3 u) : MH (comb A C) a b c d s r0 r1 r2 r3 u := by
  obtain ⟨l, hl, e⟩ := h.ex
  obtain ⟨m, hm, f⟩ := h'.ex
  refine ⟨h'.p, h'.ts, m * l, Rat.mul_pos hm hl, fun v => ?_⟩
  rw [app_comb, f, e]
  grind
theorem MH.neg {A : M3} {a b c d s q0 q1 q2 q3 t : Int} (h : MH A a b c d s q0 q1 q2 q3 t) : MH A a b c d (-s) q0 q1 q2 q3 (-t) := by
  obtain ⟨l, hl, e⟩ := h.ex
  refine ⟨h.p, by rcases h.ts with h | h <;> omega, l, hl, fun v => ?_⟩
  have := e v
  rw [Rat.intCast_neg, Rat.intCast_neg]
  grind
theorem MH.still {a b c d s : Int} (p : PlF a b c d) (hs : s = 1 ∨ s = -1) : MH still a b c d s a b c d s :=
  ⟨p, hs, 1, by decide, fun v => by rw [app_still]; grind⟩
theorem sg_pos {x : Rat} (h : 0 < x) : sg x = 1 := by simp only [sg, if_pos h]
theorem sg_neg {x : Rat} (h : x < 0) : sg x = -1 := by
  have : ¬ 0 < x := by grind
  simp only [sg, if_neg this, if_pos h]
theorem sg_0 : sg 0 = 0 := by decide
theorem sg_mul {l x : Rat} (h : 0 < l) : sg (l * x) = sg x := by
  rcases rat_tri 0 x with e | e | e
  · rw [sg_pos e, sg_pos (Rat.mul_pos h e)]
  · rw [← e, Rat.mul_zero]
  · have : 0 < l * (-x) := Rat.mul_pos h (by grind)
    rw [sg_neg e, sg_neg (by grind)]
theorem sg_opp {x : Rat} : sg (-x) = - sg x := by
  rcases rat_tri 0 x with e | e | e
  · rw [sg_pos e, sg_neg (by grind)]
  · rw [← e, sg_0]; decide
  · rw [sg_neg e, sg_pos (by grind)]; decide
theorem sg_s {s : Int} {x : Rat} (h : s = 1 ∨ s = -1) : sg ((s : Rat) * x) = s * sg x := by
  rcases h with rfl | rfl
  · rw [show ((1 : Int) : Rat) * x = x by grind]; omega
  · rw [show ((-1 : Int) : Rat) * x = -x by grind, sg_opp]; omega
set_option Elab.async true in
theorem MH.sg {A : M3} {a b c d s q0 q1 q2 q3 t : Int} (h : MH A a b c d s q0 q1 q2 q3 t) (hs : s = 1 ∨ s = -1) (v : V3) : My.sg (pval q0 q1 q2 q3 (app A v)) = My.sg (pval a b c d v) * s * t := by
  obtain ⟨l, hl, e⟩ := h.ex
  have e1 := congrArg My.sg (e v)
  rw [sg_mul hl, sg_s hs, sg_s h.ts] at e1
  have ht := h.ts
  have : t * t = 1 := by rcases ht with rfl | rfl <;> rfl
  have e2 : t * (t * My.sg (pval q0 q1 q2 q3 (app A v))) = t * (s * My.sg (pval a b c d v)) := by rw [e1]
  rw [← Int.mul_assoc, this, Int.one_mul] at e2
  rw [e2]
  grind
in #guard_msgs in universe u_z
theorem sg_val {x : Rat} : sg x = 1 ∨ sg x = 0 ∨ sg x = -1 := by
  rcases rat_tri 0 x with e | e | e
  · exact .inl (sg_pos e)
  · rw [← e]; exact .inr (.inl sg_0)
  · exact .inr (.inr (sg_neg e))
set_option Elab.async true in
/-- what moved_half makes of a half, as four integers -/
theorem mh_of {A : M3} {e0 f0 e1 f1 e2 f2 : Nat} {a0 a1 a2 a3 a4 b0 b1 b2 b3 b4 c0 c1 c2 c3 c4 D p q r d s z n0 n1 n2 n3 : Int} (wa : WR e0 f0 A.a A.s.x a0 a1 a2 a3 a4) (wb : WR e1 f1 A.b A.s.y b0 b1 b2 b3 b4) (wc : WR e2 f2 A.c A.s.z c0 c1 c2 c3 c4)
    (hD : D = a0 * (b1 * c2 - b2 * c1) + a1 * (b2 * c0 - b0 * c2) + a2 * (b0 * c1 - b1 * c0)) (hn : D ≠ 0) (hz : (D > 0 → z = 1) ∧ (D < 0 → z = -1))
    (h0 : n0 = s * z * (p * (b1 * c2 - b2 * c1) + q * (b2 * c0 - b0 * c2) + r * (b0 * c1 - b1 * c0)) * a4)
    (h1 : n1 = s * z * (p * (c1 * a2 - c2 * a1) + q * (c2 * a0 - c0 * a2) + r * (c0 * a1 - c1 * a0)) * b4)
    (h2 : n2 = s * z * (p * (a1 * b2 - a2 * b1) + q * (a2 * b0 - a0 * b2) + r * (a0 * b1 - a1 * b0)) * c4)
    (h3 : n3 = s * z * d * D - (s * z * (p * (b1 * c2 - b2 * c1) + q * (b2 * c0 - b0 * c2) + r * (b0 * c1 - b1 * c0)) * a3 + (s * z * (p * (c1 * a2 - c2 * a1) + q * (c2 * a0 - c0 * a2) + r * (c0 * a1 - c1 * a0)) * b3 + (s * z * (p * (a1 * b2 - a2 * b1) + q * (a2 * b0 - a0 * b2) + r * (a0 * b1 - a1 * b0)) * c3 + 0)))) :
    ∃ l : Rat, 0 < l ∧ ∀ v : V3, pval n0 n1 n2 n3 (app A v) = l * ((s : Rat) * pval p q r d v) := by
  refine ⟨((z * D : Int) : Rat), ?_, fun v => ?_⟩
  · have : 0 < z * D := by
      rcases Int.lt_or_gt_of_ne hn with h | h
      · rw [hz.2 h]; omega
      · rw [hz.1 h]; omega
    exact_mod_cast this
  · have pa0 := wa.e0; have pa1 := wa.e1; have pa2 := wa.e2; have pa3 := wa.e3
    have pb0 := wb.e0; have pb1 := wb.e1; have pb2 := wb.e2; have pb3 := wb.e3
    have pc0 := wc.e0; have pc1 := wc.e1; have pc2 := wc.e2; have pc3 := wc.e3
    rw [h0, h1, h2, h3, hD]
    clear h0 h1 h2 h3 hD hn hz wa wb wc
    simp only [pval, app, mvec, va, dt, Rat.intCast_add, Rat.intCast_sub, Rat.intCast_mul]
    have y0 : (A.a.x * v.x + A.a.y * v.y + A.a.z * v.z + A.s.x) * (a4 : Rat) = (a0 : Rat) * v.x + a1 * v.y + a2 * v.z + a3 := by rw [← pa0, ← pa1, ← pa2, ← pa3]; grind
    have y1 : (A.b.x * v.x + A.b.y * v.y + A.b.z * v.z + A.s.y) * (b4 : Rat) = (b0 : Rat) * v.x + b1 * v.y + b2 * v.z + b3 := by rw [← pb0, ← pb1, ← pb2, ← pb3]; grind
    have y2 : (A.c.x * v.x + A.c.y * v.y + A.c.z * v.z + A.s.z) * (c4 : Rat) = (c0 : Rat) * v.x + c1 * v.y + c2 * v.z + c3 := by rw [← pc0, ← pc1, ← pc2, ← pc3]; grind
    clear pa0 pa1 pa2 pa3 pb0 pb1 pb2 pb3 pc0 pc1 pc2 pc3
    generalize A.a.x * v.x + A.a.y * v.y + A.a.z * v.z + A.s.x = X at *
    generalize A.b.x * v.x + A.b.y * v.y + A.b.z * v.z + A.s.y = Y at *
    generalize A.c.x * v.x + A.c.y * v.y + A.c.z * v.z + A.s.z = Z at *
    generalize (a4 : Rat) = a4 at *
    generalize (b4 : Rat) = b4 at *
    generalize (c4 : Rat) = c4 at *
    have w : ∀ k m n : Rat, k * m * n = k * (n * m) := fun k m n => by grind
    rw [w _ a4 X, w _ b4 Y, w _ c4 Z, y0, y1, y2]
    clear y0 y1 y2 w
    grind
in #guard_msgs in universe u_z
set_option Elab.async true in
theorem mh_nz {a0 a1 a2 a4 b0 b1 b2 b4 c0 c1 c2 c4 D p q r s z : Int}
    (hD : D = a0 * (b1 * c2 - b2 * c1) + a1 * (b2 * c0 - b0 * c2) + a2 * (b0 * c1 - b1 * c0)) (hn : D ≠ 0) (hs : s ≠ 0) (hz : z ≠ 0) (h4 : a4 ≠ 0 ∧ b4 ≠ 0 ∧ c4 ≠ 0) (hp : ¬ (p = 0 ∧ q = 0 ∧ r = 0)) :
    ¬ (s * z * (p * (b1 * c2 - b2 * c1) + q * (b2 * c0 - b0 * c2) + r * (b0 * c1 - b1 * c0)) * a4 = 0 ∧ s * z * (p * (c1 * a2 - c2 * a1) + q * (c2 * a0 - c0 * a2) + r * (c0 * a1 - c1 * a0)) * b4 = 0 ∧
      s * z * (p * (a1 * b2 - a2 * b1) + q * (a2 * b0 - a0 * b2) + r * (a0 * b1 - a1 * b0)) * c4 = 0) := by
  rintro ⟨x, y, w⟩
  have sz := mul0 hs hz
  have k : ∀ {t u : Int}, s * z * t * u = 0 → u ≠ 0 → t = 0 := fun h hu => ((Int.mul_eq_zero.1 ((Int.mul_eq_zero.1 h).resolve_right hu)).resolve_left sz)
  have x' := k x h4.1
  have y' := k y h4.2.1
  have w' := k w h4.2.2
  clear x y w k
  have g : ∀ t : Int, D * t = 0 → t = 0 := fun t h => (Int.mul_eq_zero.1 h).resolve_left hn
  refine hp ⟨g p ?_, g q ?_, g r ?_⟩
  · have : D * p = (p * (b1 * c2 - b2 * c1) + q * (b2 * c0 - b0 * c2) + r * (b0 * c1 - b1 * c0)) * a0 + (p * (c1 * a2 - c2 * a1) + q * (c2 * a0 - c0 * a2) + r * (c0 * a1 - c1 * a0)) * b0 + (p * (a1 * b2 - a2 * b1) + q * (a2 * b0 - a0 * b2) + r * (a0 * b1 - a1 * b0)) * c0 := by rw [hD]; grind
    rw [this, x', y', w']; omega
  · have : D * q = (p * (b1 * c2 - b2 * c1) + q * (b2 * c0 - b0 * c2) + r * (b0 * c1 - b1 * c0)) * a1 + (p * (c1 * a2 - c2 * a1) + q * (c2 * a0 - c0 * a2) + r * (c0 * a1 - c1 * a0)) * b1 + (p * (a1 * b2 - a2 * b1) + q * (a2 * b0 - a0 * b2) + r * (a0 * b1 - a1 * b0)) * c1 := by rw [hD]; grind
    rw [this, x', y', w']; omega
  · have : D * r = (p * (b1 * c2 - b2 * c1) + q * (b2 * c0 - b0 * c2) + r * (b0 * c1 - b1 * c0)) * a2 + (p * (c1 * a2 - c2 * a1) + q * (c2 * a0 - c0 * a2) + r * (c0 * a1 - c1 * a0)) * b2 + (p * (a1 * b2 - a2 * b1) + q * (a2 * b0 - a0 * b2) + r * (a0 * b1 - a1 * b0)) * c2 := by rw [hD]; grind
    rw [this, x', y', w']; omega
in #guard_msgs in universe u_z
set_option Elab.async true in
theorem MH.of {A : M3} {a b c d s n0 n1 n2 n3 q0 q1 q2 q3 t g : Int} (h : HF n0 n1 n2 n3 q0 q1 q2 q3 t g) (e : ∃ l : Rat, 0 < l ∧ ∀ v : V3, pval n0 n1 n2 n3 (app A v) = l * ((s : Rat) * pval a b c d v)) : MH A a b c d s q0 q1 q2 q3 t := by
  obtain ⟨l, hl, e⟩ := e
  have gp : (0 : Rat) < (g : Rat) := by exact_mod_cast h.pos
  have gz : (g : Rat) ≠ 0 := by grind
  refine ⟨h.p, h.s, l / (g : Rat), (by rw [Rat.lt_div_iff gp]; grind), fun v => ?_⟩
  have e1 := e v
  rw [h.e0, h.e1, h.e2, h.e3] at e1
  have tt : (t : Rat) * (t : Rat) = 1 := by rcases h.s with rfl | rfl <;> simp <;> grind
  have e2 : pval (q0 * (t * g)) (q1 * (t * g)) (q2 * (t * g)) (q3 * (t * g)) (app A v) = (g : Rat) * ((t : Rat) * pval q0 q1 q2 q3 (app A v)) := by
    simp only [pval, Rat.intCast_mul]
    grind
  rw [e2] at e1
  generalize (t : Rat) * pval q0 q1 q2 q3 (app A v) = L at *
  generalize (s : Rat) * pval a b c d v = R at *
  have : L = (g : Rat) * L / (g : Rat) := by grind
  rw [this, e1]
  grind
in #guard_msgs in universe u_z
end My
namespace My
open PySem L2
theorem B.sgn {s : Int} (h : s = 1 ∨ s = -1) : B 1 s := by rcases h with rfl | rfl <;> exact B.lit (by decide)
set_option Elab.async true in
theorem mh_bits {A : M3} {e0 f0 e1 f1 e2 f2 k : Nat} {a0 a1 a2 a3 a4 b0 b1 b2 b3 b4 c0 c1 c2 c3 c4 D p q r d s z : Int} (wa : WR e0 f0 A.a A.s.x a0 a1 a2 a3 a4) (wb : WR e1 f1 A.b A.s.y b0 b1 b2 b3 b4) (wc : WR e2 f2 A.c A.s.z c0 c1 c2 c3 c4)
    (hD : D = a0 * (b1 * c2 - b2 * c1) + a1 * (b2 * c0 - b0 * c2) + a2 * (b0 * c1 - b1 * c0)) (hs : s = 1 ∨ s = -1) (hz : z = 1 ∨ z = -1) (bp : B k p) (bq : B k q) (br : B k r) (bd : B k d) (he : e0 + e1 + e2 ≤ 548) (hf : f0 + f1 + f2 ≤ 548) :
    B (k + 1120) (s * z * (p * (b1 * c2 - b2 * c1) + q * (b2 * c0 - b0 * c2) + r * (b0 * c1 - b1 * c0)) * a4) ∧
    B (k + 1120) (s * z * (p * (c1 * a2 - c2 * a1) + q * (c2 * a0 - c0 * a2) + r * (c0 * a1 - c1 * a0)) * b4) ∧
    B (k + 1120) (s * z * (p * (a1 * b2 - a2 * b1) + q * (a2 * b0 - a0 * b2) + r * (a0 * b1 - a1 * b0)) * c4) ∧
    B (k + 1120) (s * z * d * D - (s * z * (p * (b1 * c2 - b2 * c1) + q * (b2 * c0 - b0 * c2) + r * (b0 * c1 - b1 * c0)) * a3 + (s * z * (p * (c1 * a2 - c2 * a1) + q * (c2 * a0 - c0 * a2) + r * (c0 * a1 - c1 * a0)) * b3 + (s * z * (p * (a1 * b2 - a2 * b1) + q * (a2 * b0 - a0 * b2) + r * (a0 * b1 - a1 * b0)) * c3 + 0)))) ∧
    B (k + 560) (p * (b1 * c2 - b2 * c1) + q * (b2 * c0 - b0 * c2) + r * (b0 * c1 - b1 * c0)) ∧ B (k + 560) (p * (c1 * a2 - c2 * a1) + q * (c2 * a0 - c0 * a2) + r * (c0 * a1 - c1 * a0)) ∧ B (k + 560) (p * (a1 * b2 - a2 * b1) + q * (a2 * b0 - a0 * b2) + r * (a0 * b1 - a1 * b0)) ∧ B 560 D ∧ B 2 (s * z) := by
  have bu : ∀ {x y z t : Int} {i j : Nat}, B i x → B j y → B i z → B j t → B (i + j + 1) (x * y - z * t) := fun h1 h2 h3 h4 => (B.sub (B.mul h1 h2) (B.mul h3 h4)).le (by omega)
  have u0 : B (e1 + e2 + 1) (b1 * c2 - b2 * c1) := bu wb.b1 wc.b2 wb.b2 wc.b1
  have u1 : B (e1 + e2 + 1) (b2 * c0 - b0 * c2) := bu wb.b2 wc.b0 wb.b0 wc.b2
  have u2 : B (e1 + e2 + 1) (b0 * c1 - b1 * c0) := bu wb.b0 wc.b1 wb.b1 wc.b0
  have v0 : B (e2 + e0 + 1) (c1 * a2 - c2 * a1) := bu wc.b1 wa.b2 wc.b2 wa.b1
  have v1 : B (e2 + e0 + 1) (c2 * a0 - c0 * a2) := bu wc.b2 wa.b0 wc.b0 wa.b2
  have v2 : B (e2 + e0 + 1) (c0 * a1 - c1 * a0) := bu wc.b0 wa.b1 wc.b1 wa.b0
  have w0 : B (e0 + e1 + 1) (a1 * b2 - a2 * b1) := bu wa.b1 wb.b2 wa.b2 wb.b1
  have w1 : B (e0 + e1 + 1) (a2 * b0 - a0 * b2) := bu wa.b2 wb.b0 wa.b0 wb.b2
  have w2 : B (e0 + e1 + 1) (a0 * b1 - a1 * b0) := bu wa.b0 wb.b1 wa.b1 wb.b0
  have bD : B (e0 + e1 + e2 + 3) D := by
    rw [hD]
    exact (B.add (B.add (B.mul wa.b0 u0) (B.mul wa.b1 u1)) (B.mul wa.b2 u2)).le (by omega)
  have bsz : B 2 (s * z) := B.mul (B.sgn hs) (B.sgn hz)
  have d0 : B (k + (e1 + e2 + 3)) (p * (b1 * c2 - b2 * c1) + q * (b2 * c0 - b0 * c2) + r * (b0 * c1 - b1 * c0)) := (B.add (B.add (B.mul bp u0) (B.mul bq u1)) (B.mul br u2)).le (by omega)
  have d1 : B (k + (e2 + e0 + 3)) (p * (c1 * a2 - c2 * a1) + q * (c2 * a0 - c0 * a2) + r * (c0 * a1 - c1 * a0)) := (B.add (B.add (B.mul bp v0) (B.mul bq v1)) (B.mul br v2)).le (by omega)
  have d2 : B (k + (e0 + e1 + 3)) (p * (a1 * b2 - a2 * b1) + q * (a2 * b0 - a0 * b2) + r * (a0 * b1 - a1 * b0)) := (B.add (B.add (B.mul bp w0) (B.mul bq w1)) (B.mul br w2)).le (by omega)
  refine ⟨(B.mul (B.mul bsz d0) wa.b4).le (by omega), (B.mul (B.mul bsz d1) wb.b4).le (by omega), (B.mul (B.mul bsz d2) wc.b4).le (by omega), ?_, d0.le (by omega), d1.le (by omega), d2.le (by omega), bD.le (by omega), bsz⟩
  have g0 : B (k + (e0 + e1 + e2 + 5)) _ := (B.mul (B.mul bsz d0) wa.b3).le (by omega)
  have g1 : B (k + (e0 + e1 + e2 + 5)) _ := (B.mul (B.mul bsz d1) wb.b3).le (by omega)
  have g2 : B (k + (e0 + e1 + e2 + 5)) _ := (B.mul (B.mul bsz d2) wc.b3).le (by omega)
  have z0 : B 1 (0 : Int) := B.lit (by decide)
  exact (B.sub (B.mul (B.mul bsz bd) bD) (B.add g0 (B.add g1 (B.add g2 z0)))).le (by omega)
in #guard_msgs in universe u_z
section
variable {X : Cx} {K : PySem.W.Frag} {σ : L2.St} {H : Hp} {D : Ends} {te : TE} {ta : TA} {a b : Addr} {xs ys : List V}
theorem r_zL {R : It → Hp → Prop} (q : SqL K H a xs) (q2 : SqL K H b ys) (h : R (Itz K a b) H) : zipP K [.ref a, .ref b] H R := ⟨a, b, xs, ys, rfl, .inl ⟨q, q2, h⟩⟩
set_option Elab.async true in
/-- a comprehension over zip of two lists -/
theorem lc_zipL {g : TG} {vs : List Nat} {Da : Addr} {Qd : Hp → Prop} (G : Hp → Prop) (J : Nat → List V → Hp → Prop) (hl : xs.length = ys.length) (h0 : G (upd H Da (.lst []))) (hj : J 0 [] (upd H Da (.lst [])))
    (hq : ∀ H1 acc, H1 Da = some (.lst acc) → G H1 → SqL K H1 a xs ∧ SqL K H1 b ys)
    (hs : ∀ i x y T acc H1, xs[i]? = some x → ys[i]? = some y → acc.length = i → H1 Da = some (.lst acc) → G H1 → J i acc H1 → H1 T = none →
      g (.ref T) (wipe σ vs) (upd H1 T (.tup [x, y])) fun σ2 H2 => wipe σ2 vs = wipe σ vs ∧ te σ2 H2 fun y H3 => lcQ Da G J i y H3)
    (hd : ∀ acc H1, acc.length = xs.length → H1 Da = some (.lst acc) → G H1 → J xs.length acc H1 → Qd H1) : lcT (Itz K a b) g tYes te vs σ H Da Qd := by
  refine ⟨fun i m H1 => m = xs.length - i ∧ i ≤ xs.length ∧ lcPv Da G J i H1, ⟨_, rfl, Nat.zero_le _, [], rfl, upd_same, h0, hj⟩, ?_⟩
  rintro i m H1 ⟨rfl, hi, acc, ha, hD, hG, hJ⟩
  obtain ⟨q1, q2⟩ := hq H1 acc hD hG
  rcases Nat.lt_or_ge i xs.length with hlt | hge
  · have e1 : xs[i]? = some xs[i] := List.getElem?_eq_getElem hlt
    have e2 : ys[i]? = some ys[i] := List.getElem?_eq_getElem (by omega)
    refine .inr ⟨⟨xs, ys, _, _, q1, q2, e1, e2⟩, lcPv Da G J (i + 1), fun H' p => ⟨xs.length - (i + 1), by omega, rfl, hlt, p⟩, ?_⟩
    rintro v H' ⟨T, x, y, rfl, nT, rfl, f1, f2⟩
    have z := hs i x y T acc H1 (f1 _ q1) (f2 _ q2) ha hD hG hJ nT
    exact z
  · have e : i = xs.length := by omega
    subst e
    exact .inl ⟨⟨xs, ys, q1, q2, .inl (Nat.le_refl _)⟩, hd acc H1 ha hD hG hJ⟩
in #guard_msgs in universe u_z
end
end My
namespace My
open PySem L2
set_option Elab.async true in
theorem r_appW {K : PySem.W.Frag} {H H0 : Hp} {l b : Addr} {ps : List V3} {p : V3} {Q : VK} (nl : H0 l = none) (e : Same H0 H) (q : VL K H l ps) (hv : Vc K H b p) (hz : ps.length < 100000)
    (h : ∀ H1, Same H0 H1 → TK K H H1 → (∀ b ys, b ≠ l → H b = some (.lst ys) → H1 b = some (.lst ys)) → VL K H1 l (ps ++ [p]) → Q .non H1) : rAppend (.ref l) [.ref b] H Q := by
  obtain ⟨acc, h1, h2⟩ := q
  have hl := h2.len
  exact r_app h1 (by omega) (h _ (Same.mut e nl) (TK.upd h1) (fun b ys n hb => (upd_ne n).trans hb) ⟨_, upd_same, (h2.snoc hv).tk (TK.upd h1)⟩)
in #guard_msgs in universe u_z
theorem pval_w {a b c d w0 w1 w2 : Int} {q : V3} (h : pval a b c d q = 0) (e : a * w0 + b * w1 + c * w2 = 0) : pval a b c d (va q ⟨(w0 : Rat), (w1 : Rat), (w2 : Rat)⟩) = 0 := by
  have e2 : (a : Rat) * (w0 : Rat) + (b : Rat) * (w1 : Rat) + (c : Rat) * (w2 : Rat) = 0 := by exact_mod_cast e
  simp only [pval, va] at *
  grind
end My
namespace My
open PySem L2
theorem B.sg {x : Rat} : B 1 (sg x) := by
  rcases sg_val (x := x) with h | h | h <;> rw [h] <;> exact B.lit (by decide)
/-- a ratio that need not be in lowest terms -/
def QU (K : PySem.W.Frag) (H : Hp) (y : Addr) (q : Rat) (n d : Nat) : Prop := ∃ t b : Int, SqT K H y [.int t, .int b] ∧ b ≠ 0 ∧ (t : Rat) / (b : Rat) = q ∧ B n t ∧ B d b
theorem QU.of {K : PySem.W.Frag} {H : Hp} {y : Addr} {q : Rat} {n d : Nat} (h : SqT K H y [.int q.num, .int (q.den : Int)]) (b : BN n d q) : QU K H y q n d := ⟨_, _, h, denI q, ndd q, b.n, b.d⟩
/-- moves one behind another -/
def apps (ms : List M3) (p : V3) : V3 := ms.foldl (fun p A => app A p) p
theorem apps_take {ms : List M3} {j : Nat} {A : M3} {p : V3} (h : ms[j]? = some A) : apps (ms.take (j + 1)) p = app A (apps (ms.take j) p) := by
  obtain ⟨l, e⟩ := List.getElem?_eq_some_iff.mp h
  unfold apps
  rw [List.take_succ_eq_append_getElem l, e, List.foldl_append]
  rfl
def MvL (K : PySem.W.Frag) (H : Hp) (acc : List V) (ms : List M3) : Prop := Paired (fun v A => ∃ a : Addr, v = V.ref a ∧ Mv K H a A) acc ms
theorem MvL.tk {K : PySem.W.Frag} {H H' : Hp} {acc : List V} {ms : List M3} (e : TK K H H') (h : MvL K H acc ms) : MvL K H' acc ms := Paired.mapP h fun v p ⟨a, e1, e2⟩ => ⟨a, e1, e2.tk e⟩
theorem MvL.len {K : PySem.W.Frag} {H : Hp} {acc : List V} {ms : List M3} (h : MvL K H acc ms) : acc.length = ms.length := Paired.length h
theorem MvL.get' {K : PySem.W.Frag} {H : Hp} {acc : List V} {ms : List M3} (h : MvL K H acc ms) {i : Nat} {x : V} (e : acc[i]? = some x) : ∃ (a : Addr) (A : M3), x = .ref a ∧ ms[i]? = some A ∧ Mv K H a A := by
  unfold MvL at h
  induction h generalizing i with
  | nil => simp at e
  | cons r _ ih =>
    cases i with
    | zero =>
      cases e
      obtain ⟨a, rfl, q⟩ := r
      exact ⟨a, _, rfl, rfl, q⟩
    | succ i => exact ih (by simpa using e)
theorem MvL.one {K : PySem.W.Frag} {H : Hp} {x : Addr} {A : M3} (h : Mv K H x A) : MvL K H [.ref x] [A] := .cons ⟨_, rfl, h⟩ .nil
theorem MvL.two {K : PySem.W.Frag} {H : Hp} {x y : Addr} {A C : M3} (h : Mv K H x A) (h2 : Mv K H y C) : MvL K H [.ref x, .ref y] [A, C] := .cons ⟨_, rfl, h⟩ (.cons ⟨_, rfl, h2⟩ .nil)
end My

namespace My
open PySem L2
section
variable {X : Cx} {K : PySem.W.Frag} {H : Hp} {Q : VK}
def rInsert : V → List V → Hp → VK → Prop := fun x vs H Q => ∃ (l : Addr) (xs : List V) (i : Int) (y : V), x = .ref l ∧ vs = [.int i, y] ∧ H l = some (.lst xs) ∧ xs.length < sizeLine ∧ 0 ≤ i ∧ i < 2 ^ 63 ∧ Q .non (upd H l (.lst (xs.take i.toNat ++ [y] ++ xs.drop i.toNat)))
theorem km_insert : MtR X "list.insert" rInsert := mt_insert
/-- an own list gets an item put in -/
theorem r_insM {H0 : Hp} {s l : Addr} {xs ys : List V} {i : Int} {y : V} (nl : H0 l = none) (st0 : St K H0 s) (e : Fr s H0 H) (st : St K H s) (h : H l = some (.lst xs)) (hz : decide (xs.length < 100000) = true) (h0 : 0 ≤ i ∧ i ≤ 1000) (ey : xs.take i.toNat ++ [y] ++ xs.drop i.toNat = ys)
    (q : ∀ H1, Fr s H0 H1 → St K H1 s → H1 l = some (.lst ys) → TK K H H1 → Q .non H1) : rInsert (.ref l) [.int i, y] H Q :=
  ⟨l, xs, i, y, rfl, rfl, h, Nat.lt_of_lt_of_le (of_decide_eq_true hz) (by decide), h0.1, by omega, ey ▸ q _ (Fr.mut e nl st0.some) (St.mut st0 e st nl) upd_same (TK.upd h)⟩
end
/-- four quarter turns move nothing -/
def tw4 (p q r : V3) : Prop := comb (comb ⟨p, q, r, o3⟩ ⟨p, q, r, o3⟩) (comb ⟨p, q, r, o3⟩ ⟨p, q, r, o3⟩) = still
def tw2 (p q r : V3) : Prop := comb ⟨p, q, r, o3⟩ ⟨p, q, r, o3⟩ = still
theorem tw4_0 : tw4 ⟨((1 : Int) : Rat), ((0 : Int) : Rat), ((0 : Int) : Rat)⟩ ⟨((0 : Int) : Rat), ((0 : Int) : Rat), ((-1 : Int) : Rat)⟩ ⟨((0 : Int) : Rat), ((1 : Int) : Rat), ((0 : Int) : Rat)⟩ := by
  refine M3.ext' ?_ ?_ ?_ ?_ <;> apply V3.ext' <;> simp only [comb, still, rowx, va, sc, app, mvec, dt, e0, e1, e2, o3] <;> simp <;> grind
theorem tw4_1 : tw4 ⟨((0 : Int) : Rat), ((0 : Int) : Rat), ((1 : Int) : Rat)⟩ ⟨((0 : Int) : Rat), ((1 : Int) : Rat), ((0 : Int) : Rat)⟩ ⟨((-1 : Int) : Rat), ((0 : Int) : Rat), ((0 : Int) : Rat)⟩ := by
  refine M3.ext' ?_ ?_ ?_ ?_ <;> apply V3.ext' <;> simp only [comb, still, rowx, va, sc, app, mvec, dt, e0, e1, e2, o3] <;> simp <;> grind
theorem tw4_2 : tw4 ⟨((0 : Int) : Rat), ((-1 : Int) : Rat), ((0 : Int) : Rat)⟩ ⟨((1 : Int) : Rat), ((0 : Int) : Rat), ((0 : Int) : Rat)⟩ ⟨((0 : Int) : Rat), ((0 : Int) : Rat), ((1 : Int) : Rat)⟩ := by
  refine M3.ext' ?_ ?_ ?_ ?_ <;> apply V3.ext' <;> simp only [comb, still, rowx, va, sc, app, mvec, dt, e0, e1, e2, o3] <;> simp <;> grind
theorem tw2_m : tw2 ⟨((-1 : Int) : Rat), ((0 : Int) : Rat), ((0 : Int) : Rat)⟩ ⟨((0 : Int) : Rat), ((1 : Int) : Rat), ((0 : Int) : Rat)⟩ ⟨((0 : Int) : Rat), ((0 : Int) : Rat), ((1 : Int) : Rat)⟩ := by
  refine M3.ext' ?_ ?_ ?_ ?_ <;> apply V3.ext' <;> simp only [comb, still, rowx, va, sc, app, mvec, dt, e0, e1, e2, o3] <;> simp <;> grind

set_option Elab.async true in
theorem mh_four {p q r : V3} {a b c d s a1 b1 c1 d1 s1 a2 b2 c2 d2 s2 a3 b3 c3 d3 s3 a4 b4 c4 d4 s4 : Int} (t : tw4 p q r) (P : PlF a b c d) (hs : s = 1 ∨ s = -1)
    (h1 : MH ⟨p, q, r, o3⟩ a b c d s a1 b1 c1 d1 s1) (h2 : MH ⟨p, q, r, o3⟩ a1 b1 c1 d1 s1 a2 b2 c2 d2 s2) (h3 : MH ⟨p, q, r, o3⟩ a2 b2 c2 d2 s2 a3 b3 c3 d3 s3) (h4 : MH ⟨p, q, r, o3⟩ a3 b3 c3 d3 s3 a4 b4 c4 d4 s4) : a4 = a ∧ b4 = b ∧ c4 = c ∧ d4 = d ∧ s4 = s := by
  have h := (h1.comb h2).comb (h3.comb h4)
  rw [show My.comb (My.comb ⟨p, q, r, o3⟩ ⟨p, q, r, o3⟩) (My.comb ⟨p, q, r, o3⟩ ⟨p, q, r, o3⟩) = My.still from t] at h
  exact MH.uniq (by rw [det_still]; decide) (MH.still P hs) h
in #guard_msgs in universe u_z
theorem mh_two {p q r : V3} {a b c d s a1 b1 c1 d1 s1 a2 b2 c2 d2 s2 : Int} (t : tw2 p q r) (P : PlF a b c d) (hs : s = 1 ∨ s = -1)
    (h1 : MH ⟨p, q, r, o3⟩ a b c d s a1 b1 c1 d1 s1) (h2 : MH ⟨p, q, r, o3⟩ a1 b1 c1 d1 s1 a2 b2 c2 d2 s2) : a2 = a ∧ b2 = b ∧ c2 = c ∧ d2 = d ∧ s2 = s := by
  have h := h1.comb h2
  rw [show My.comb ⟨p, q, r, o3⟩ ⟨p, q, r, o3⟩ = My.still from t] at h
  exact MH.uniq (by rw [det_still]; decide) (MH.still P hs) h
def hD (a b c d s : Int) : PyData := .tuple [.tuple [.int a, .int b, .int c, .int d], .int s]
theorem ti_h {n : Nat} (a b c d s : Int) : TI (n + 3) (.tuple [.tuple [.int a, .int b, .int c, .int d], .int s]) := by
  refine ⟨(by decide : 2 ≤ 1000), fun x hx => ?_⟩
  simp only [List.mem_cons, List.not_mem_nil, or_false] at hx
  rcases hx with rfl | rfl
  · refine ⟨(by decide : 4 ≤ 1000), fun x hx => ?_⟩
    simp only [List.mem_cons, List.not_mem_nil, or_false] at hx
    rcases hx with rfl | rfl | rfl | rfl <;> exact trivial
  · exact trivial
theorem PlF.nz {a b c d : Int} (h : PlF a b c d) : ¬ (a = 0 ∧ b = 0 ∧ c = 0) := by
  have := h.f
  simp only [Fst] at this
  omega
end My
namespace My
open PySem L2
/-- sums and products of ratios -/
def sm : List Rat → Rat
  | [] => 0
  | a :: r => a + sm r
def pm : List Rat → Rat
  | [] => 1
  | a :: r => a * pm r
theorem sm_app (xs ys : List Rat) : sm (xs ++ ys) = sm xs + sm ys := by
  induction xs with
  | nil => show sm ys = 0 + sm ys; grind
  | cons a r ih => show a + sm (r ++ ys) = a + sm r + sm ys; rw [ih]; grind
theorem pm_app (xs ys : List Rat) : pm (xs ++ ys) = pm xs * pm ys := by
  induction xs with
  | nil => show pm ys = 1 * pm ys; grind
  | cons a r ih => show a * pm (r ++ ys) = a * pm r * pm ys; rw [ih]; grind
theorem sm_take {xs : List Rat} {i : Nat} {x : Rat} (h : xs[i]? = some x) : sm (xs.take (i + 1)) = sm (xs.take i) + x := by
  obtain ⟨l, e⟩ := List.getElem?_eq_some_iff.mp h
  rw [List.take_succ_eq_append_getElem l, e, sm_app]
  show _ + (x + 0) = _
  grind
theorem pm_take {xs : List Rat} {i : Nat} {x : Rat} (h : xs[i]? = some x) : pm (xs.take (i + 1)) = pm (xs.take i) * x := by
  obtain ⟨l, e⟩ := List.getElem?_eq_some_iff.mp h
  rw [List.take_succ_eq_append_getElem l, e, pm_app]
  show _ * (x * 1) = _
  grind
theorem sm_drop {xs : List Rat} {j : Nat} {x : Rat} (h : xs[j]? = some x) : sm (xs.drop j) = x + sm (xs.drop (j + 1)) := by
  obtain ⟨l, e⟩ := List.getElem?_eq_some_iff.mp h
  rw [List.drop_eq_getElem_cons l, e]
  rfl
theorem pm_drop {xs : List Rat} {j : Nat} {x : Rat} (h : xs[j]? = some x) : pm (xs.drop j) = x * pm (xs.drop (j + 1)) := by
  obtain ⟨l, e⟩ := List.getElem?_eq_some_iff.mp h
  rw [List.drop_eq_getElem_cons l, e]
  rfl
/-- lists of ratios -/
def QtL (K : PySem.W.Frag) (H : Hp) (acc : List V) (qs : List Rat) : Prop := Paired (fun v q => ∃ a : Addr, v = V.ref a ∧ SqT K H a [.int q.num, .int (q.den : Int)]) acc qs
section
variable {K : PySem.W.Frag} {H H' : Hp} {acc : List V} {qs : List Rat}
theorem QtL.tk (e : TK K H H') (h : QtL K H acc qs) : QtL K H' acc qs := Paired.mapP h fun v p ⟨a, e1, e2⟩ => ⟨a, e1, e _ _ e2⟩
theorem QtL.len (h : QtL K H acc qs) : acc.length = qs.length := Paired.length h
theorem QtL.get {i : Nat} {q : Rat} (h : QtL K H acc qs) (e : qs[i]? = some q) : ∃ a : Addr, acc[i]? = some (.ref a) ∧ SqT K H a [.int q.num, .int (q.den : Int)] := by
  unfold QtL at h
  induction h generalizing i with
  | nil => simp at e
  | cons r _ ih =>
    cases i with
    | zero =>
      cases e
      obtain ⟨a, rfl, q⟩ := r
      exact ⟨a, rfl, q⟩
    | succ i => exact ih (by simpa using e)
theorem QtL.get' {i : Nat} {x : V} (h : QtL K H acc qs) (e : acc[i]? = some x) : ∃ (a : Addr) (q : Rat), x = .ref a ∧ qs[i]? = some q ∧ SqT K H a [.int q.num, .int (q.den : Int)] := by
  have hl := h.len
  have hi : i < acc.length := (List.getElem?_eq_some_iff.mp e).1
  have e2 : qs[i]? = some qs[i] := List.getElem?_eq_getElem (by omega)
  obtain ⟨a, e3, q⟩ := h.get e2
  rw [e] at e3
  cases e3
  exact ⟨a, _, rfl, e2, q⟩
theorem QtL.snoc {a : Addr} {q : Rat} (h : QtL K H acc qs) (r : SqT K H a [.int q.num, .int (q.den : Int)]) : QtL K H (acc ++ [.ref a]) (qs ++ [q]) := by
  unfold QtL at *
  induction h with
  | nil => exact .cons ⟨a, rfl, r⟩ .nil
  | cons r _ ih => exact .cons r ih
end
theorem atI_neg {α : Type} {xs : List α} {j : Nat} {x : α} {i : Int} (h : xs[j]? = some x) (e : i = (j : Int) - (xs.length : Int)) : atI xs i = some x := by
  have hl := (List.getElem?_eq_some_iff.mp h).1
  unfold atI ixN
  rw [if_neg (by omega), if_pos (by omega)]
  simp only [Option.bind_some]
  rw [show (i + (xs.length : Int)).toNat = j by omega]
  exact h
end My
namespace My
open PySem L2
def QL (K : PySem.W.Frag) (H : Hp) (l : Addr) (qs : List Rat) : Prop := ∃ acc, H l = some (.lst acc) ∧ QtL K H acc qs
theorem BN.div {n d n' d' : Nat} {p q : Rat} (hp : BN n d p) (hq : BN n' d' q) (h : q ≠ 0) : BN (n + d') (d + n') (p / q) := by
  rw [← div_q p q h]
  exact BN.dv (mul0 (denI p) (numz h)) (B.mul hp.n hq.d) (B.mul hp.d hq.n)
theorem QtL.notS {K : PySem.W.Frag} {H : Hp} {acc : List V} {qs : List Rat} (h : QtL K H acc qs) : notS acc = true := by
  unfold QtL at h
  cases h with
  | nil => rfl
  | cons r t =>
    obtain ⟨a, rfl, _⟩ := r
    cases t with
    | nil => rfl
    | cons r2 t =>
      obtain ⟨a2, rfl, _⟩ := r2
      rfl
end My
namespace My
open PySem L2
theorem BN.dvz {n d : Nat} {t b : Int} (h1 : B n t) (h2 : B d b) (hd : 1 ≤ d) : BN n d ((t : Rat) / b) := by
  by_cases h : b = 0
  · have e : (t : Rat) / (b : Rat) = ((0 : Int) : Rat) := by rw [h]; simp [Rat.div_def]
    rw [e]
    exact ⟨by rw [numI]; exact B.of_le (y := t) (by simp) h1, by rw [denII]; exact (B.lit (k := 1) (by decide)).le hd⟩
  · exact BN.dv h h1 h2
end My

set_option Elab.async false
set_option maxRecDepth 100000
set_option linter.all false
/-! errors: raised without words, caught, told apart, handed to another def while they are handled -/
namespace My
open PySem L2 L2H PyProof.Rows PySem.Spec
section
variable {X : Cx} {C D : Addr} {bmB : List Value} {B newId initId : String}
set_option Elab.async true in
/-- X() of an own class without own __init__ -/
theorem pmk0 {x : Str} {p pos : Pos} (F : ExcBaseFacts B newId initId bmB) (q : PySem.W.excIn X.K C bmB newId = true) (gC : X.mg x = some (.ref C)) (kC : PySem.W.keepIn X.K (.ref C) = true)
    (r : Raises X (.ref C)) (hg : Gl X x) (hdb : (x == ("__debug__" : Str)) = false := by decide) : L2N.PMk X (.Call (.Name x p) [] [] pos) (fun _ H Q => Q (.ref C) none H) := fun pins s σ H Q I h => by
  refine wpAny_Call_Name_kw (ld_glob I hg gC (PySem.W.callWith_K0 I.kIn kC ?_) hdb)
  obtain ⟨bm, N, nm, qn, bs, hdct, sn, sub, ab, col, dd, k0, k1, k2, k3, k5, mN, c1, c2, c3, T⟩ := exc_obj I.kIn q
  exact wpAny_call_exc_subT F T c1 c2 c3 (fun h' e made => L2N.mk_of I made r h (I.hok.gone made.new)) (Nat.zero_le _)
in #guard_msgs in universe u_z
set_option Elab.async true in
/-- isinstance(e, c) of the exception that is pinned -/
theorem call_isP {p : Addr × Obj} (hp : p ∈ X.pn) (hx : ExcC X.K D) (hc : p.2.cls = .ref D) (hd : p.2.dict = none) (hf : ∃ vs, p.2.data = .fields vs) : CallR X (.builtin "isinstance") (rIsE X.K D p.1) := fun pins s σ H xs us Q I r h => by
  obtain ⟨c, cv, b, rfl, hcv, e, q⟩ := h
  obtain ⟨u1, u2, rfl, r1, r2⟩ := vals2 r
  cases r1
  have e2 := hcv _ r2
  subst e2
  have g := (I.pin p (List.mem_append_left _ hp)).1
  have at_ : PySem.W.InstAt s.heap p.1 p.2 D none := by
    obtain ⟨vs, hv⟩ := hf
    obtain ⟨a, oc, od, oda, osl⟩ := p
    simp only at hc hd hv
    subst hc hd hv
    exact ⟨g, rfl, rfl, trivial⟩
  exact PySem.W.kia_one (PySem.W.handS_kitx_exc hx.hg hx.hk hx.hs hx.hd hx.ha hx.hn hx.ht hx.hm) I.kIn at_ e (fun z => nomatch z) (fun tk => ⟨.bl b, H, I.tok tk, rfl, q⟩)
in #guard_msgs in universe u_z
end
/-- the block of a comprehension while an exception is handled: it stays pinned -/
abbrev hblk (X : Cx) (p : Addr × Obj) (s : Shared) (H : Hp) (scope : Scope) (ce : Env) (fp : List Addr) : Cx := { X.blk s H scope ce fp with pn := [p] }
section
variable {X : Cx} {p : Addr × Obj} {s s' : Shared} {H H' : Hp} {scope : Scope} {ce : Env} {fp : List Addr} {pins : List (Addr × Obj)} {σ : L2.St}
set_option Elab.async true in
theorem to_hblk (I : Inv (X.blk s H scope ce fp) pins σ H' s') (h : s'.heap.get? p.1 = some p.2 ∧ H' p.1 = none ∧ p.1 ≠ ce.locals ∧ p.1 ∉ frs X.stack ∧ ∀ v, p.2.data ≠ .cell v) : Inv (hblk X p s H scope ce fp) pins σ H' s' where
  ok := ⟨I.ok.mod, I.ok.kind, I.ok.glob, I.ok.blt, I.ok.above, I.ok.inj, I.ok.has, I.ok.cab, I.ok.hd, I.ok.frames, I.ok.stk, I.ok.exf, I.ok.bs, I.ok.bsz, I.ok.noex, I.ok.exfs, I.ok.funs, I.ok.frf⟩
  os := I.os
  bare := I.bare
  base := I.base
  loc := I.loc
  cell := I.cell
  free := I.free
  freeC := I.freeC
  pin := fun q hq => by
    rcases List.mem_cons.mp (show q ∈ p :: pins from hq) with z | z
    · rw [z]
      exact h
    · exact I.pin q z
  hok := I.hok
  len := I.len
in #guard_msgs in universe u_z
end
end My
namespace My
open PySem L2 L2H PyProof.Rows PySem.Spec
set_option Elab.async true in
/-- [elt for tg in iter if ..] while an exception is handled -/
theorem lc_hot {X : Cx} {p : Addr × Obj} (hot : Hot1 X.A p) (hp : p ∈ X.pn) {elt tg iter : Expr} {ifs : List Expr} {scope : Scope} {own : List (Str × Nat)} {pos : Pos} {wi : L2.TI} {g : TG} {tt : TT} {te : TE}
    (hN : X.N.Nodup) (hi : PIH X tg iter wi) (ok : BlkOk X.N X.env.scope scope own)
    (hg : ∀ s H C cl fp, PG (hblk X p s H scope (compEnvC scope cl C X.env) fp) tg g) (ht : ∀ s H C cl fp, PTs (hblk X p s H scope (compEnvC scope cl C X.env) fp) ifs tt)
    (he : ∀ s H C cl fp, PE (hblk X p s H scope (compEnvC scope cl C X.env) fp) elt te) (hs : ∀ x, foldedSetIterable iter X.env x = pure x := by intro _; rfl) :
    PE X (.ListComp elt [⟨tg, iter, ifs, 0⟩] scope pos) (tLc wi g tt te (own.map (·.2))) := ⟨fun pins s σ H Q I h => by
  have captured : ∀ y ∈ scope.names, y.2 = .free → ∃ c, X.env.cells.lookup y.1 = some c := fun y hy e => (ok.free y hy e).elim (fun k => I.ok.has _ (.inl k)) (fun k => I.ok.has _ (.inr k))
  rw [eval_ListComp]
  refine wpAny_comprehension_free (use := none) rfl hs (closure_ok captured) ok.kind (fun y hy e => (ok.uniq y hy).trans (by rw [e])) (thn (hi.run pins s σ H _ I h) (fun xv s1 hx => thn hx (fun itv s2 h2 => ?_)))
  obtain ⟨it, fp, tn, J, H2, e, I2, T, t2, f2, q⟩ := h2
  subst e
  refine wpAny_newObj_type (newEnv_comp ?_) (Nat.zero_le _)
  -- the new list stands at D
  obtain ⟨D, hD⟩ : ∃ D, D = s2.heap.objs.size := ⟨_, rfl⟩
  have fresh : H2 D = none := I2.hok.fresh (Nat.le_of_eq hD.symm)
  obtain ⟨W, ⟨m0, w0⟩, turn⟩ := q D fresh
  obtain ⟨s3, hs3⟩ : ∃ s3 : Shared, s3 = { s2 with heap := s2.heap.push { cls := .type "list", data := .seq ([] : List Value).toArray } } := ⟨_, rfl⟩
  have up3 : ∀ b o, s2.heap.get? b = some o → s3.heap.get? b = some o := fun b o z => by
    rw [hs3]
    exact Heap.get?_push_of_some _ z
  have I3 : Inv X pins σ (upd H2 D (.lst [])) s3 := by
    rw [hs3]
    exact I2.laid (t' := s2.toks) (fun b o z => Heap.get?_push_of_some _ z) (Nat.le_of_eq hD.symm) ⟨Nat.zero_le _, [], 0, .nil, by rw [hD]; exact Heap.get?_push_size _ rfl⟩
  have big : s3.heap.objs.size = s2.heap.objs.size + 1 := by
    rw [hs3]
    exact Heap.size_push _ _
  have old : ∀ b ∈ fp, b < s2.heap.objs.size := fun b hb => by
    obtain ⟨o, z, _⟩ := T.obj _ _ t2 b hb
    exact Heap.lt_size z
  have f3 : ∀ b ∈ fp, FpOk X pins (upd H2 D (.lst [])) b ∧ b < s3.heap.objs.size := fun b hb => by
    have lt := old b hb
    have ne : b ≠ D := by
      rw [hD]
      exact Nat.ne_of_lt lt
    exact ⟨⟨(upd_ne ne).trans (f2 b hb).1, (f2 b hb).2⟩, by rw [big]; exact Nat.lt_succ_of_lt lt⟩
  have t3 : tn 0 s3.heap := T.keep _ _ _ t2 (fun b _ o z => up3 b o z)
  have I4 := block_start I3 ok hN f3
  have pin3 := I3.pin p (List.mem_append_left _ hp)
  have pg := hg s3 (upd H2 D (.lst [])) s3.heap.objs.size (cellsFrom (s3.heap.objs.size + 1) scope.names (cloFrom X.env.cells scope.names [])) fp
  have pt := ht s3 (upd H2 D (.lst [])) s3.heap.objs.size (cellsFrom (s3.heap.objs.size + 1) scope.names (cloFrom X.env.cells scope.names [])) fp
  have pe := he s3 (upd H2 D (.lst [])) s3.heap.objs.size (cellsFrom (s3.heap.objs.size + 1) scope.names (cloFrom X.env.cells scope.names [])) fp
  rw [← hD]
  rw [← hs3]
  obtain ⟨ce, hce⟩ : ∃ ce, ce = compEnvC scope (cellsFrom (s3.heap.objs.size + 1) scope.names (cloFrom X.env.cells scope.names [])) s3.heap.objs.size X.env := ⟨_, rfl⟩
  obtain ⟨s4, hs4⟩ : ∃ s4 : Shared, s4 = { s3 with heap := pushCells (s3.heap.push { cls := .type "dict", data := .dict #[] }) scope.names } := ⟨_, rfl⟩
  have kept4 : ∀ b o, s3.heap.get? b = some o → s4.heap.get? b = some o := fun b o z => by
    rw [hs4]
    exact pushCells_keeps _ _ _ _ (Heap.get?_push_of_some _ z)
  show codeAny _ _ (.compStart (.ListComp elt [⟨tg, iter, ifs, 0⟩] scope pos) 0 (.ref it) (.ref D) (compEnvC scope (cellsFrom (s3.heap.objs.size + 1) scope.names (cloFrom X.env.cells scope.names [])) s3.heap.objs.size X.env)) (compPost (model X.prog X.w) X.A X.xe none (EP X pins σ Q) (.ref D) s3.heap.objs.size) { s3 with heap := pushCells (s3.heap.push { cls := .type "dict", data := .dict #[] }) scope.names }
  rw [← hce, ← hs4]
  rw [← hce] at pg pt pe I4
  rw [← hs4] at I4
  have cL : ce.locals = s3.heap.objs.size := by rw [hce]; rfl
  obtain ⟨H3, hH3⟩ : ∃ H3, H3 = upd H2 D (.lst []) := ⟨_, rfl⟩
  rw [← hH3] at I3 I4 pg pt pe w0 f3 pin3
  have K4 : Inv (hblk X p s3 H3 scope ce fp) [] (wipe σ (own.map (·.2))) H3 s4 := to_hblk I4 ⟨kept4 _ _ pin3.1, pin3.2.1, by
    rw [cL]
    exact Nat.ne_of_lt (Heap.lt_size pin3.1), fun hm => (List.mem_cons.mp (I3.stkSub p.1 hm)).elim pin3.2.2.1 pin3.2.2.2.1, pin3.2.2.2.2⟩
  have hc : HotC (hblk X p s3 H3 scope ce fp) := ⟨p, hot, List.mem_singleton.mpr rfl⟩
  have npf : ∀ b ∈ fp, p.1 ≠ b := fun b hb => (f3 b hb).1.2.2.2.2.2 p (List.mem_append_left _ hp)
  have foot : ∀ {σ' : L2.St} {H' : Hp} {s' : Shared}, Inv (hblk X p s3 H3 scope ce fp) [] σ' H' s' → (∀ b ∈ fp, H' b = none) → ∀ b ∈ fp, FpOk (hblk X p s3 H3 scope ce fp) [] H' b := fun {σ' H' s'} J n b hb =>
    ⟨n b hb, (J.ok.exf b hb).1, J.ok.exfs b hb, .inl hb, fun x c z => (J.ok.exf b hb).2 x c z, fun y hy => by
      rw [List.mem_singleton.mp (show y ∈ [p] from hy)]
      exact npf b hb⟩
  have loop : codeAny (model X.prog X.w) X.A (.compLoop (.ListComp elt [⟨tg, iter, ifs, 0⟩] scope pos) 0 (.ref it) (.ref D) ce) (compPost (model X.prog X.w) X.A X.xe none (EP X pins σ Q) (.ref D) s3.heap.objs.size) s4 := by
    refine compLoop_any (fun n s' => ∃ i H', Inv (hblk X p s3 H3 scope ce fp) [] (wipe σ (own.map (·.2))) H' s' ∧ tn i s'.heap ∧ (∀ b ∈ fp, H' b = none) ∧ W i n H') ?_ m0 ⟨0, H3, K4, T.keep _ _ _ t3 (fun b _ o z => kept4 b o z), fun b hb => (f3 b hb).1.1, w0⟩
    intro n s5 hs5
    obtain ⟨i, H5, I5, t5, n5, w5⟩ := hs5
    cases turn i n H5 w5 with
    | inl z =>
      obtain ⟨stop, done⟩ := z
      refine thnF (T.done (hblk X p s3 H3 scope ce fp) rfl rfl rfl hc i [] s5 _ H5 (fun _ _ => False) I5 (foot I5 n5) t5 stop) (fun r s6 hr => ?_)
      obtain ⟨hr, I6⟩ := hr
      subst hr
      have I7 : Inv X pins σ H5 s6 := I3.call' (ch := fp) I6.os I6.base I6.hok I6.bare (fun b hb => ⟨(f3 b hb).1.2.2.2.1, (f3 b hb).1.2.1, (f3 b hb).1.2.2.2.2.1, (f3 b hb).1.2.2.2.2.2⟩)
      have nC : H5 s3.heap.objs.size = none := by
        rw [← cL]
        exact I6.free
      obtain ⟨m, hn, _⟩ := I6.loc
      have f7 := I3.fpOk (Nat.le_refl _) nC
      refine ⟨m, by rw [← cL]; exact hn, fun h'' sb => ?_⟩
      exact ⟨.ref D, H5, I7.turned (t' := s6.toks) (fun b o hb z => (sb.2 b hb).trans z) f7.1 f7.2.1 f7.2.2.2.1 f7.2.2.2.2.1 f7.2.2.2.2.2, rfl, done⟩
    | inr z =>
      obtain ⟨go, Nx, hNx, step⟩ := z
      refine thnF (T.item (hblk X p s3 H3 scope ce fp) rfl rfl rfl hc i [] s5 _ H5 (fun _ _ => False) I5 (foot I5 n5) t5 go) (fun r s6 hr => ?_)
      obtain ⟨u, hr, h6⟩ := hr
      subst hr
      refine thnF h6 (fun _ s7 h7 => ?_)
      obtain ⟨x, H7, I7, r7, y7, t7, n7⟩ := h7
      have J7 := I7.pinned (foot I7 n7) (T.obj _ _ t7)
      refine thnF (pg.run _ s7 _ H7 x u _ J7 r7 (step x H7 y7)) (fun _ s8 h8 => ?_)
      obtain ⟨σ8, H8, I8, w8, q8⟩ := h8
      refine thnF (pt.run _ s8 σ8 H8 _ I8 q8) (fun b s9 h9 => ?_)
      obtain ⟨H9, I9, q9⟩ := h9
      have back : ∀ {s' : Shared} {H' : Hp}, Inv (hblk X p s3 H3 scope ce fp) ([] ++ pinsAt fp s7.heap) σ8 H' s' → Nx H' →
          ∃ m, m < n ∧ ∃ i H', Inv (hblk X p s3 H3 scope ce fp) [] (wipe σ (own.map (·.2))) H' s' ∧ tn i s'.heap ∧ (∀ b ∈ fp, H' b = none) ∧ W i m H' := fun {s' H'} J nx => by
        obtain ⟨m', lt, w'⟩ := hNx H' nx
        have still : ∀ b ∈ fp, ∀ o, s7.heap.get? b = some o → s'.heap.get? b = some o ∧ H' b = none := fun b hb o z =>
          ⟨(J.pin (b, o) (List.mem_append_right _ (List.mem_append_right _ (mem_pinsAt hb z)))).1, (J.pin (b, o) (List.mem_append_right _ (List.mem_append_right _ (mem_pinsAt hb z)))).2.1⟩
        refine ⟨m', lt, i + 1, H', (J.unpinned (pins := [])).weak (by rw [← w8, wipe_length]) (fun j v z => ?_), T.keep _ _ _ t7 (fun b hb o z => (still b hb o z).1), fun b hb => ?_, w'⟩
        · rw [← w8] at z
          exact (wipe_some z).1
        · obtain ⟨o, z, _⟩ := T.obj _ _ t7 b hb
          exact (still b hb o z).2
      by_cases hb : b = true
      · subst hb
        rw [if_pos rfl] at q9 ⊢
        refine thnF (pe.run _ s9 σ8 H9 _ I9 q9) (fun z s10 h10 => ?_)
        obtain ⟨yv, H10, I10, r10, acc, a10, b10, nx⟩ := h10
        exact app_ok (X := hblk X p s3 H3 scope ce fp) I10 a10 b10 r10 (fun s11 I11 => back I11 nx)
      · rw [if_neg hb] at q9 ⊢
        exact back I9 q9
  exact codeAny_compStart_list loop (T.self X.A 0 _ _ _ (T.keep _ _ _ t3 (fun b _ o z => kept4 b o z)) loop)⟩
in #guard_msgs in universe u_z
end My
namespace My
open PySem L2 L2H PyProof.Rows PySem.Spec
/-- a def that is handed the exception that is handled, one of the class D -/
structure FnE (P : Program) (w : World) (K : PySem.W.Frag) (mg : Str → Option Value) (base : Heap) (CX : CXT) (k : Nat) (D f : Addr) (fd : FuncData) (ps : List Str) (sp : Sp) : Prop where
  one : ps.length = 1
  run : ∀ (A : Around) (outer : List Env) (s : Shared) (H : Hp) (args : Args) (us : List Value) (Q : VK) (E : XK) (p : Addr × Obj), RoomH k A → Hot1 A p → (p.2.cls = .ref D ∧ p.2.dict = none) → PinOk outer H s p → Env0 P w K mg base A outer s H →
    BindsTo s fd args (ps.zip us) → Vals [V.ref p.1] us → sp [.ref p.1] H Q E → codeAny (model P w) A (.call (.ref f) args) (CR CX outer P w H s Q E) s
set_option Elab.async true in
theorem fn_ofE {CX : CXT} {P : Program} {w : World} {K : PySem.W.Frag} {mg : Str → Option Value} {base : Heap} {k : Nat} {D f : Addr} {name qual : Str} {params : Arguments} {body : List Stmt} {scope : Scope} {dV kV doc pm cdv ct oc : Value} {an od : Option Addr}
    {osl : Array (Option Value)} {N ps : List Str} {sp : Sp} (lk : K.lookup f = some ⟨oc, od, .func (PySem.W.fnOf name qual params body scope dV kV doc pm an cdv ct), osl⟩) (hcd : PySem.W.codeIn K cdv qual = true) (S : FnScope N ps scope) (one : ps.length = 1)
    (hbody : ∀ (A : Around) (outer : List Env) (s : Shared) (H : Hp) (Q : VK) (E : XK) (p : Addr × Obj), Hot1 A p → (p.2.cls = .ref D ∧ p.2.dict = none) → RoomH k (A.deeper (envOfC qual scope s.heap.objs.size f cdv)) → sp [.ref p.1] H Q E →
      ∃ t, PSs (cxH CX P w K mg base N qual scope f cdv A outer s H E p) body t ∧ t { nx := fun _ H' => Q .non H', rt := Q } (L2.start N [.ref p.1]) H) :
    FnE P w K mg base CX (k + 1) D f (PySem.W.fnOf name qual params body scope dV kV doc pm an cdv ct) ps sp where
  one := one
  run := fun A outer s H args us Q E p room hot cls pin e0 hb r h => by
    have stays : ∀ b o, base.get? b = some o → s.heap.get? b = some o := fun b o e => (e0.bs b o e).1
    have KX : K.In s.heap := e0.mod.kin.keeps stays
    have names : ∀ y ∈ ps.zip us, scope.names.lookup y.1 = some .local ∨ (scope.names.lookup y.1 = some .cell ∧ ((cellsFrom (s.heap.objs.size + 1) scope.names []).lookup y.1).isSome = true) := fun y hy =>
      (S.par y.1 (List.of_mem_zip hy).1).imp id (fun q => ⟨q, PySem.W.cellsFrom_some _ _ _ (.inl q)⟩)
    refine codeAny_call_function room.depth (KX _ _ lk) rfl S.co S.gen rfl (PySem.W.codeRec_of KX hcd) (hb _ _ _ _ (wpAny_newFunctionEnv_cells S.kind names (fun env he s1 x => ?_)))
    subst he
    refine ⟨(e0.mod.nolimit.keeps stays).keeps x.toInCall.keep, codeAny_func ?_⟩
    obtain ⟨t, ht, hq⟩ := hbody A outer s H Q E p hot cls (room.deeper _) h
    have I := inv_startH (CX := CX) (E := E) S pin e0 (show [V.ref p.1].length = ps.length from one.symm) r x
    refine wpAny_mono (ht.run [] s1 _ H _ I hq) (fun fl s' hs => ?_) (fun e s' hs => hs)
    cases fl with
    | next =>
      obtain ⟨σ', H', J, q⟩ := hs
      exact ⟨.non, H', J.os, J.bare, J.base, J.hok, rfl, q⟩
    | ret u =>
      obtain ⟨v, σ', H', J, rv, q⟩ := hs
      exact ⟨v, H', J.os, J.bare, J.base, J.hok, rv, q⟩
    | brk =>
      obtain ⟨_, _, _, q⟩ := hs
      exact False.elim q
    | cont =>
      obtain ⟨_, _, _, q⟩ := hs
      exact False.elim q
in #guard_msgs in universe u_z
/-- its call where the exception is handled -/
def tCallE (a : Addr) (sp : Sp) (t : TA) : TE := fun σ H Q => t σ H fun vs H1 => vs = [.ref a] ∧ sp [.ref a] H1 Q E0
section
variable {X : Cx} {k : Nat} {D f : Addr} {fd : FuncData} {ps : List Str} {sp : Sp} {x : Str} {q pos : Pos} {e : Expr} {es : List Expr} {t : TA} {p : Addr × Obj}
set_option Elab.async true in
theorem pe_callE (F : FnE X.prog X.w X.K X.mg X.base CX0 k D f fd ps sp) (hr : RoomH k X.A) (hot : Hot1 X.A p) (hp : p ∈ X.pn) (cls : p.2.cls = .ref D ∧ p.2.dict = none) (hg : Gl X x) (hm : X.mg x = some (.ref f)) (hk : PySem.W.keepIn X.K (.ref f) = true) (hb : Binds X.K fd ps [])
    (ha : PA X (e :: es) t) (hdb : (x == ("__debug__" : Str)) = false := by decide) (h1 : starEach (e :: es) X.env = (false, eval e X.env) :: starEach es X.env := by rfl) (h2 : (backTo pos (starEach es X.env)).any (·.1) = false := by rfl) :
    PE X (.Call (.Name x q) (e :: es) [] pos) (tCallE p.1 sp t) := ⟨fun pins s σ H Q I h => by
  refine wpAny_Call_Name_kw (ld_glob I hg hm ?_ hdb)
  refine PySem.W.callWith_K (h₀ := X.base) I.ok.mod.kin hk (thn (ha.run pos pins s σ H _ I h) (fun us s1 hh => ?_)) h1 h2
  obtain ⟨vs, H1, I1, r1, rfl, q1⟩ := hh
  refine ⟨I1.kIn, ?_⟩
  have b := hb s1 us I1.kIn (by rw [List.append_nil, ← r1.length]; exact F.one.symm)
  rw [List.append_nil] at b
  have P1 := I1.pin p (List.mem_append_left _ hp)
  have pin : PinOk X.stack H1 s1 p := ⟨P1.1, P1.2.1, fun hm => (List.mem_cons.mp (I1.stkSub p.1 hm)).elim P1.2.2.1 P1.2.2.2.1, P1.2.2.2.2⟩
  show wpAny _ _ (call (.ref f) us) _ _ _
  refine wpAny_call (codeAny_mono (F.run X.A X.stack s1 H1 ⟨us, []⟩ us Q E0 p hr hot cls pin I1.env0 b r1 q1) (fun r s' hq => ?_))
  cases r with
  | error er => exact pass0 pins σ H1 s1 er s' I1 hq
  | ok fl =>
    cases fl with
    | ret u => exact I1.after hq
    | next => exact False.elim hq
    | brk => exact False.elim hq
    | cont => exact False.elim hq⟩
in #guard_msgs in universe u_z
end
end My
namespace My
open PySem L2 L2H PyProof.Rows PySem.Spec
section
variable {P : Program} {w : World} {K : PySem.W.Frag} {mg : Str → Option Value} {base : Heap}
set_option Elab.async true in
/-- a def that may raise -/
theorem FunA.okX {x qual : Str} {st : Stmt} {f : Addr} {fd : FuncData} {N ps : List Str} {k : Nat} {sp : Sp} (F : FunA K x qual st f fd) (S : FnScope N ps (defScope st)) (len : ∀ vs H Q E, sp vs H Q E → vs.length = ps.length)
    (hbody : ∀ (cdv : Value) (A : Around) (outer : List Env) (s : Shared) (H : Hp) (vs : List V) (Q : VK) (E : XK), Room k (A.deeper (PyProof.Rows.envOfC qual (defScope st) s.heap.objs.size f cdv)) → sp vs H Q E →
      ∃ t, PSs (cxOf (L2N.CX P w) P w K mg base N qual (defScope st) f cdv A outer s H E) (defBody st) t ∧ t { nx := fun _ H' => Q .non H', rt := Q } (L2.start N vs) H) : FnOk P w K mg base (L2N.CX P w) (k + 1) f fd ps sp := by
  obtain ⟨oc, od, dV, kV, doc, pm, an, cdv, ct, osl, rfl, lk, hcd⟩ := F.ex
  exact fn_of lk hcd S len (hbody cdv)
in #guard_msgs in universe u_z
set_option Elab.async true in
/-- a def that is handed the exception -/
theorem FunA.okE {x qual : Str} {st : Stmt} {D f : Addr} {fd : FuncData} {N ps : List Str} {k : Nat} {sp : Sp} (F : FunA K x qual st f fd) (S : FnScope N ps (defScope st)) (one : ps.length = 1)
    (hbody : ∀ (cdv : Value) (A : Around) (outer : List Env) (s : Shared) (H : Hp) (Q : VK) (E : XK) (p : Addr × Obj), Hot1 A p → (p.2.cls = .ref D ∧ p.2.dict = none) → RoomH k (A.deeper (PyProof.Rows.envOfC qual (defScope st) s.heap.objs.size f cdv)) → sp [.ref p.1] H Q E →
      ∃ t, PSs (cxH CX0 P w K mg base N qual (defScope st) f cdv A outer s H E p) (defBody st) t ∧ t { nx := fun _ H' => Q .non H', rt := Q } (L2.start N [.ref p.1]) H) : FnE P w K mg base CX0 (k + 1) D f fd ps sp := by
  obtain ⟨oc, od, dV, kV, doc, pm, an, cdv, ct, osl, rfl, lk, hcd⟩ := F.ex
  exact fn_ofE lk hcd S one (hbody cdv)
in #guard_msgs in universe u_z
structure CalX (P : Program) (w : World) (K : PySem.W.Frag) (mg : Str → Option Value) (base : Heap) (x : Str) (k : Nat) (ps : List Str) (sp : Sp) : Prop where
  ex : ∃ (f : Addr) (fd : FuncData), FnOk P w K mg base (L2N.CX P w) k f fd ps sp ∧ mg x = some (.ref f) ∧ PySem.W.keepIn K (.ref f) = true ∧ Binds K fd ps []
structure CalE (P : Program) (w : World) (K : PySem.W.Frag) (mg : Str → Option Value) (base : Heap) (D : Addr) (x : Str) (k : Nat) (ps : List Str) (sp : Sp) : Prop where
  ex : ∃ (f : Addr) (fd : FuncData), FnE P w K mg base CX0 k D f fd ps sp ∧ mg x = some (.ref f) ∧ PySem.W.keepIn K (.ref f) = true ∧ Binds K fd ps []
end
section
variable {X : Cx} {x : Str} {p pos : Pos} {e : Expr} {es : List Expr} {t : TA} {k : Nat} {ps : List Str} {sp : Sp} {W : WX}
set_option Elab.async true in
/-- a call of a def that may raise -/
theorem pcS (C : CalX X.prog X.w X.K X.mg X.base x k ps sp) (hr : Room k X.A) (hg : Gl X x) (tk : L2N.Takes X W) (ha : PA X (e :: es) t) (hdb : (x == ("__debug__" : Str)) = false := by decide)
    (he : starEach (e :: es) X.env = (false, eval e X.env) :: starEach es X.env := by rfl) (hpl : (backTo pos (starEach es X.env)).any (·.1) = false := by rfl) :
    PE X (.Call (.Name x p) (e :: es) [] pos) (tCallS sp (WE W) t) := by
  obtain ⟨f, fd, F, hm, hk, hb⟩ := C.ex
  exact pe_callS F hr hg hm hk hb (fun σ => L2N.passAt tk σ) ha hdb he hpl
in #guard_msgs in universe u_z
set_option Elab.async true in
theorem pcE {q : Addr × Obj} {D : Addr} (C : CalE X.prog X.w X.K X.mg X.base D x k ps sp) (hr : RoomH k X.A) (hot : Hot1 X.A q) (hq : q ∈ X.pn) (cls : q.2.cls = .ref D ∧ q.2.dict = none) (hg : Gl X x) (ha : PA X (e :: es) t) (hdb : (x == ("__debug__" : Str)) = false := by decide)
    (h1 : starEach (e :: es) X.env = (false, eval e X.env) :: starEach es X.env := by rfl) (h2 : (backTo pos (starEach es X.env)).any (·.1) = false := by rfl) :
    PE X (.Call (.Name x p) (e :: es) [] pos) (tCallE q.1 sp t) := by
  obtain ⟨f, fd, F, hm, hk, hb⟩ := C.ex
  exact pe_callE F hr hot hq cls hg hm hk hb ha hdb h1 h2
in #guard_msgs in universe u_z
/-- a block's rule under a condition -/
theorem pss_if {R : Prop} {b : List Stmt} {t : TS} (h : R → PSs X b t) : PSs X b (fun D σ H => R ∧ t D σ H) := ⟨fun pins s σ H D I ⟨r, q⟩ => (h r).run pins s σ H D I q⟩
end
section
variable {K : PySem.W.Frag} {σ : L2.St} {H : Hp} {D : Ends} {te : TE} {tt : TT} {t : TA} {Q : VK}
theorem w_callS {sp : Sp} {E : L2.St → XK} (h : t σ H fun vs H1 => sp vs H1 Q (E σ)) : tCallS sp E t σ H Q := h
theorem w_callE {sp : Sp} {a : Addr} (h : t σ H fun vs H1 => vs = [.ref a] ∧ sp [.ref a] H1 Q E0) : tCallE a sp t σ H Q := h
theorem r_argE {a : Addr} {R : Prop} (h : R) : [V.ref a] = [V.ref a] ∧ R := ⟨rfl, h⟩
theorem r_isE {C a : Addr} {c : V} {cv : Value} {b : Bool} (hc : ClsV c cv) (e : PySem.W.kitOne K (.ref C) cv = some b) (h : Q (.bl b) H) : rIsE K C a [.ref a, c] H Q := ⟨c, cv, b, rfl, fun u r => hc.eq r, e, h⟩
set_option Elab.async true in
/-- [k for k in range(n) if ..], the tests known -/
theorem lc_rngF {n j : Nat} {vs : List Nat} {Da : Addr} {Qd : Hp → Prop} (b : Nat → Bool) (hw : ∀ x, wipe ((wipe σ vs).set j (some x)) vs = wipe σ vs) (hn : n ≤ 1000) (hD : H Da = none)
    (ht : ∀ i H1 (R : Bool → Hp → Prop), i < n → Same H H1 → R (b i) H1 → tt ((wipe σ vs).set j (some (.int (0 + (i : Int))))) H1 R)
    (he : ∀ i H1 (R : V → Hp → Prop), i < n → Same H H1 → R (.int (0 + (i : Int))) H1 → te ((wipe σ vs).set j (some (.int (0 + (i : Int))))) H1 R)
    (hd : ∀ H1, Same H H1 → H1 Da = some (.lst (((List.range n).filter b).map fun (k : Nat) => V.int (0 + (k : Int)))) → Qd H1) : lcT (Itr 0 n) (gName j) tt te vs σ H Da Qd := by
  have z := lc_range (lo := 0) (n := n) (g := gName j) (tt := tt) (te := te) (vs := vs) (σ := σ) (H1 := H) (D := Da) (Qd := Qd)
    (fun i H1 => i ≤ n ∧ Same H H1 ∧ H1 Da = some (.lst (((List.range i).filter b).map fun (k : Nat) => V.int (0 + (k : Int))))) ⟨Nat.zero_le _, Same.new hD, upd_same⟩ (by
    rintro i H1 hi ⟨_, s, e⟩
    refine ⟨hw _, ht i H1 _ hi s ?_⟩
    by_cases hb : b i = true
    · rw [if_pos hb]
      refine he i H1 _ hi s ⟨_, e, ?_, by omega, Same.mut s hD, ?_⟩
      · rw [List.length_map]
        have := List.length_filter_le b (List.range i)
        rw [List.length_range] at this
        exact Nat.lt_of_lt_of_le (m := 100000) (by omega) (by decide)
      · rw [upd_same, List.range_succ, List.filter_append]
        simp [hb]
    · rw [if_neg hb]
      refine ⟨by omega, s, ?_⟩
      rw [e, List.range_succ, List.filter_append]
      simp [hb]) (by
    rintro H1 ⟨_, s, e⟩
    exact hd H1 s e)
  exact z
in #guard_msgs in universe u_z
end
end My
namespace My
open PySem L2 L2H PyProof.Rows PySem.Spec
section
variable {K : PySem.W.Frag} {C D : Addr} {b : Bool}
set_option Elab.async true in
theorem kit_ref (h1 : PySem.W.hasDictIn K C = true) (ht : PySem.W.typeIn K (.ref C) = some (.type "type")) (h : PySem.W.subIn K (.ref D) (.ref C) = some b) (ne : (Value.ref D == Value.ref C) = false) : PySem.W.kitOne K (.ref D) (.ref C) = some b := by
  obtain ⟨cd, hc, _⟩ := PySem.W.any_some h1
  have e : ((PySem.W.clsIn K C).isSome && PySem.W.typeIn K (.ref C) == some (.type "type")) = true := by rw [hc, ht] <;> rfl
  show (if (Value.ref D == Value.ref C) = true then some true else if ((PySem.W.clsIn K C).isSome && PySem.W.typeIn K (.ref C) == some (.type "type")) = true then PySem.W.subIn K (.ref D) (.ref C) else none) = some b
  rw [ne, if_neg Bool.false_ne_true, if_pos e]
  exact h
in #guard_msgs in universe u_z
theorem kit_self : PySem.W.kitOne K (.ref D) (.ref D) = some true := by
  show (if (Value.ref D == Value.ref D) = true then some true else _) = some true
  rw [if_pos (by simp)]
theorem kit_b {T : String} (hm : PySem.W.kitMeta T = true) (h : PySem.W.subIn K (.ref D) (.type T) = some b) : PySem.W.kitOne K (.ref D) (.type T) = some b := by
  show (if (Value.ref D == Value.type T) = true then some true else if PySem.W.kitMeta T = true then PySem.W.subIn K (.ref D) (.type T) else none) = some b
  rw [show (Value.ref D == Value.type T) = false from rfl, if_neg Bool.false_ne_true, if_pos hm]
  exact h
end
/-- a raise -/
def tRaise (C : Addr) (W : WX) : TS := fun _ σ H => W (.ref C) none σ H
section
variable {X : Cx} {C : Addr} {W : WX} {x : Str} {p cpos pos : Pos} {bmB : List Value} {B newId initId : String}
theorem ps_raise0 (hc : X.calm = true) (tk : L2N.Takes X W) (F : ExcBaseFacts B newId initId bmB) (q : PySem.W.excIn X.K C bmB newId = true) (gC : X.mg x = some (.ref C)) (kC : PySem.W.keepIn X.K (.ref C) = true)
    (b : PySem.W.subIn X.K (.ref C) (.type "BaseException") = some true) (t : PySem.W.typeIn X.K (.ref C) = some (.type "type")) (hg : Gl X x) (hdb : (x == ("__debug__" : Str)) = false := by decide) :
    PS X (.Raise (some (.Call (.Name x p) [] [] cpos)) none pos) (tRaise C W) := L2N.ps_raise hc tk (pmk0 F q gC kC (raises_own b t) hg hdb)
theorem takesN {X : Cx} : L2N.Takes X (fun _ _ _ _ => False) := fun _ _ x => by
  obtain ⟨_, _, _, _, _, _, _, _, _, _, _, _, _, _, _, _, z⟩ := x
  exact z.elim
theorem roomH_mark {k : Nat} {A : Around} {v : Option Value} (r : Room k A) : RoomH k (A.mark v) := ⟨r.dp, r.un⟩
theorem hot_of {A : Around} {a : Addr} {oe : Obj} {cls : Value} {d : Option Addr} (hz : L2N.Zn cls d oe) (hf : ∃ vs, oe.data = .fields vs) : Hot1 (A.mark (some (.ref a))) (a, oe) := ⟨rfl, hf.elim fun vs e => ⟨vs, e, hz.2.2 vs e⟩⟩
end
section
variable {K : PySem.W.Frag} {σ : L2.St} {H : Hp} {D : Ends} {u : TS} {W : WX} {C : Addr}
theorem w_raise (h : W (.ref C) none σ H) : tRaise C W D σ H := h
theorem w_seqR (h : W (.ref C) none σ H) : tSeq (tRaise C W) u D σ H := h
theorem w_asY {c cls : Value} {i : Nat} {ts : Addr → Value → Option Addr → TS} {Wo : WX} {d : Option Addr} (e : PySem.W.exmOne K cls c = some true)
    (h : ∀ a, H a = none → ts a cls d { nx := fun σ' H' => D.nx (σ'.set i none) H', rt := D.rt, bk := fun σ' H' => D.bk (σ'.set i none) H', ct := fun σ' H' => D.ct (σ'.set i none) H' } (σ.set i (some (.ref a))) H) :
    WE (wAs K c i ts Wo D) σ cls d H := ⟨true, e, fun _ => h, fun q => Bool.noConfusion q⟩
theorem w_ifR {R : Prop} {t : TS} (r : R) (h : t D σ H) : (fun (D : Ends) (σ : L2.St) (H : Hp) => R ∧ t D σ H) D σ H := ⟨r, h⟩
end
end My
namespace My
open PySem L2 L2H PyProof.Rows PySem.Spec
def tTry (K : PySem.W.Frag) (c : Value) (i : Nat) (ts : Addr → Value → Option Addr → TS) (Wo : WX) (tb : WX → TS) : TS := fun D σ H => tb (wAs K c i ts Wo D) D σ H
def tIfR (R : Prop) (t : TS) : TS := fun D σ H => R ∧ t D σ H
section
variable {X : Cx} {K : PySem.W.Frag} {x n : Str} {c : Value} {i : Nat} {body suite : List Stmt} {b₀ : Stmt} {np pos pos' : Pos} {tb : WX → TS} {ts : Addr → Value → Option Addr → TS} {Wo : WX}
set_option Elab.async true in
theorem ps_try0 (hK : X.K = K) (hs : X.stack = X.env :: X.outer) (hf : X.env.frame = some X.env.locals) (hN : X.N.Nodup) (hi : X.N[i]? = some n) (hln : X.env.kindOf n = some .local) (hc : Names X x c) (tk : L2N.Takes X Wo)
    (hb : ∀ (W : WX) (pn : List (Addr × Obj)) (xe : Value → Shared → Prop), L2N.Takes (X.tr pn xe) W → PassesOwn (model X.prog X.w) X.A X.env xe → PSs (X.tr pn xe) body (tb W))
    (hsu : ∀ (a : Addr) (oe : Obj) (cls : Value) (d : Option Addr) (pn : List (Addr × Obj)), L2N.Zn cls d oe → (∃ vs, oe.data = .fields vs) → PSs (X.suite a ((a, oe) :: pn)) (b₀ :: suite) (ts a cls d)) :
    PS X (.Try body [.ExceptHandler (some (.Name x np)) (some n) (b₀ :: suite) pos'] [] [] pos) (tTry K c i ts Wo tb) := by
  subst hK
  exact L2N.ps_try_as hs hf hN hi hln hc tk hb hsu
in #guard_msgs in universe u_z
theorem pss_ifR {R : Prop} {b : List Stmt} {t : TS} (h : R → PSs X b t) : PSs X b (tIfR R t) := pss_if h
variable {σ : L2.St} {H : Hp} {D : Ends} {u : TS}
theorem w_try (h : tb (wAs K c i ts Wo D) D σ H) : tTry K c i ts Wo tb D σ H := h
theorem w_seqTry (h : tb (wAs K c i ts Wo { D with nx := u D }) { D with nx := u D } σ H) : tSeq (tTry K c i ts Wo tb) u D σ H := h
theorem w_tifR {R : Prop} {t : TS} (r : R) (h : t D σ H) : tIfR R t D σ H := ⟨r, h⟩
end
end My
namespace My
open PySem L2 L2H PyProof.Rows PySem.Spec
section
variable {X : Cx} {C D : Addr} {a : Addr} {oe : Obj} {x : Str} {p pos : Pos} {e : Expr} {es : List Expr} {t : TA} {k : Nat} {ps : List Str} {sp : Sp}
theorem call_isA (hp : (a, oe) ∈ X.pn) (hx : ExcC X.K D) (hc : oe.cls = .ref D) (hd : oe.dict = none) (hf : ∃ vs, oe.data = .fields vs) : CallR X (.builtin "isinstance") (rIsE X.K D a) := call_isP (p := (a, oe)) hp hx hc hd hf
theorem pcA (C : CalE X.prog X.w X.K X.mg X.base D x k ps sp) (hr : RoomH k X.A) (hot : Hot1 X.A (a, oe)) (hq : (a, oe) ∈ X.pn) (hc : oe.cls = .ref D) (hd : oe.dict = none) (hg : Gl X x) (ha : PA X (e :: es) t) (hdb : (x == ("__debug__" : Str)) = false := by decide)
    (h1 : starEach (e :: es) X.env = (false, eval e X.env) :: starEach es X.env := by rfl) (h2 : (backTo pos (starEach es X.env)).any (·.1) = false := by rfl) :
    PE X (.Call (.Name x p) (e :: es) [] pos) (tCallE a sp t) := pcE (q := (a, oe)) C hr hot hq ⟨hc, hd⟩ hg ha hdb h1 h2
end
end My
namespace My
open PySem L2 L2H PyProof.Rows PySem.Spec
section
variable {X : Cx} {K : PySem.W.Frag} {C D : Addr} {a : Addr} {oe : Obj}
theorem kc_isP (hK : X.K = K) {p : Addr × Obj} (hp : p ∈ X.pn) (hx : ExcC K D) (hc : p.2.cls = .ref D) (hd : p.2.dict = none) (hf : ∃ vs, p.2.data = .fields vs) : CallR X (.builtin "isinstance") (rIsE K D p.1) := hK ▸ call_isP hp (hK ▸ hx) hc hd hf
theorem kc_isA (hK : X.K = K) (hp : (a, oe) ∈ X.pn) (hx : ExcC K D) (hc : oe.cls = .ref D) (hd : oe.dict = none) (hf : ∃ vs, oe.data = .fields vs) : CallR X (.builtin "isinstance") (rIsE K D a) := kc_isP hK (p := (a, oe)) hp hx hc hd hf
theorem hu_mark {A : Around} {k : Nat} {v : Option Value} (hr : Room k A) : (A.mark v).units + 64 < cLine := (hu_of64 (k := k) hr : A.units + 64 < cLine)
end
end My

set_option Elab.async false
set_option linter.all false
namespace My
open PySem L2
/-! lcm of four, the last one wider -/
def rLcm4d : List V → Hp → VK → Prop := fun xs H Q => ∃ (a b c d : Int) (k k2 : Nat), xs = [.int a, .int b, .int c, .int d] ∧ 0 < a ∧ 0 < b ∧ 0 < c ∧ 0 < d ∧ B k a ∧ B k b ∧ B k c ∧ B k2 d ∧ 3 * k + k2 ≤ 13400 ∧
  ∀ L : Int, 0 < L → a ∣ L → b ∣ L → c ∣ L → d ∣ L → (∀ D : Int, a ∣ D → b ∣ D → c ∣ D → d ∣ D → L ∣ D) → Q (.int L) H
theorem cr_lcm4d {X : Cx} : CallR X (.builtin "math.lcm") rLcm4d := by
  intro pins s σ H vs us Q I r h
  obtain ⟨a, b, c, d, k, k2, rfl, pa, pb, pc, pd, ba, bb, bc, bd, hk, q⟩ := h
  obtain ⟨t1, t2, t3, t4, rfl⟩ := Vals.int4 r
  have e1 := ba.lt
  have e2 := bb.lt
  have e3 := bc.lt
  have e4 := bd.lt
  have m2 := lcm_lt e1 e2
  have m3 := lcm_lt m2 e3
  have m4 := lcm_lt m3 e4
  have up : ∀ {n i j : Nat}, n < 2 ^ i → i ≤ j → n < 2 ^ j := fun h hij => Nat.lt_of_lt_of_le h (Nat.pow_le_pow_right (by decide) hij)
  have o1 : (1 : Nat) < 2 ^ (13400 + 1) := up (i := 1) (by decide) (by decide)
  have g := run_lcm4 a b c d t1 t2 t3 t4 (log_mx o1 (up e1 (by omega)) (Nat.le_refl _))
    (by rw [l1]; exact log_mx (up e1 (by omega)) (up e2 (by omega)) (Nat.le_refl _)) (by rw [l1]; exact log_mx (up m2 (by omega)) (up e3 (by omega)) (Nat.le_refl _))
    (by rw [l1]; exact log_mx (up m3 (by omega)) (up e4 (by omega)) (Nat.le_refl _))
    (by rw [l1, Int.natAbs_natCast]
        refine Nat.lt_of_le_of_lt (log_lt (k := 13400) (up m4 (by omega))) ?_
        decide)
  rw [l1] at g
  refine call_function_meets PySem.W.MGF.kind_lcm PySem.W.MGF.plain_lcm PySem.W.MGF.entry_lcm (args_lcm4 _ _ _ _) g.meets ⟨.int _, H, I.tok _, ⟨_, rfl⟩, q _ ?_ ?_ ?_ ?_ ?_ ?_⟩
  · have z1 : 0 < a.natAbs.lcm b.natAbs := Nat.lcm_pos (by omega) (by omega)
    have z2 := Nat.lcm_pos z1 (show 0 < c.natAbs by omega)
    have z3 := Nat.lcm_pos z2 (show 0 < d.natAbs by omega)
    omega
  · exact Int.natAbs_dvd_natAbs.1 (Nat.dvd_trans (Nat.dvd_lcm_left _ _) (Nat.dvd_trans (Nat.dvd_lcm_left _ _) (Nat.dvd_lcm_left _ _)))
  · exact Int.natAbs_dvd_natAbs.1 (Nat.dvd_trans (Nat.dvd_lcm_right _ _) (Nat.dvd_trans (Nat.dvd_lcm_left _ _) (Nat.dvd_lcm_left _ _)))
  · exact Int.natAbs_dvd_natAbs.1 (Nat.dvd_trans (Nat.dvd_lcm_right _ _) (Nat.dvd_lcm_left _ _))
  · exact Int.natAbs_dvd_natAbs.1 (Nat.dvd_lcm_right _ _)
  · intro D h1 h2 h3 h4
    exact Int.natAbs_dvd_natAbs.1 (Nat.lcm_dvd (Nat.lcm_dvd (Nat.lcm_dvd (Int.natAbs_dvd_natAbs.2 h1) (Int.natAbs_dvd_natAbs.2 h2)) (Int.natAbs_dvd_natAbs.2 h3)) (Int.natAbs_dvd_natAbs.2 h4))
theorem r_lcm4d {H : Hp} {Q : VK} {a b c d : Int} {k k2 : Nat} (pa : 0 < a) (pb : 0 < b) (pc : 0 < c) (pd : 0 < d) (ba : B k a) (bb : B k b) (bc : B k c) (bd : B k2 d) (hk : 3 * k + k2 ≤ 13400)
    (q : ∀ L : Int, 0 < L → a ∣ L → b ∣ L → c ∣ L → d ∣ L → (∀ D : Int, a ∣ D → b ∣ D → c ∣ D → d ∣ D → L ∣ D) → Q (.int L) H) : rLcm4d [.int a, .int b, .int c, .int d] H Q := ⟨a, b, c, d, k, k2, rfl, pa, pb, pc, pd, ba, bb, bc, bd, hk, q⟩
set_option Elab.async true in
theorem RD.ofW {n d n2 d2 e f : Nat} {p : V3} {t : Rat} (h : VN n d p) (ht : BN n2 d2 t) (he : n + 2 * d + d2 ≤ e) (he2 : n2 + 3 * d ≤ e) (hf : 3 * d + d2 ≤ f) : RD e f p t := by
  refine ⟨(p.x.den : Int) * (p.y.den : Int) * (p.z.den : Int) * (t.den : Int), p.x.num * ((p.y.den : Int) * (p.z.den : Int) * (t.den : Int)), p.y.num * ((p.x.den : Int) * (p.z.den : Int) * (t.den : Int)), p.z.num * ((p.x.den : Int) * (p.y.den : Int) * (t.den : Int)), t.num * ((p.x.den : Int) * (p.y.den : Int) * (p.z.den : Int)),
    Int.mul_pos (Int.mul_pos (Int.mul_pos (denP _) (denP _)) (denP _)) (denP _), (B.mul (B.mul (B.mul h.x.d h.y.d) h.z.d) ht.d).le (by omega), (B.mul h.x.n (B.mul (B.mul h.y.d h.z.d) ht.d)).le (by omega), (B.mul h.y.n (B.mul (B.mul h.x.d h.z.d) ht.d)).le (by omega), (B.mul h.z.n (B.mul (B.mul h.x.d h.y.d) ht.d)).le (by omega), (B.mul ht.n (B.mul (B.mul h.x.d h.y.d) h.z.d)).le (by omega), ?_, ?_, ?_, ?_⟩
  all_goals
    have e0 := numc p.x
    have e1 := numc p.y
    have e2 := numc p.z
    have e3 := numc t
    simp only [Rat.intCast_mul]
    grind
in #guard_msgs in universe u_z
theorem SqT.ofNeg {K : PySem.W.Frag} {H : Hp} {a : Addr} {q : Rat} (h : SqT K H a [.int (-q.num), .int (q.den : Int)]) : SqT K H a [.int (-q).num, .int ((-q).den : Int)] := by
  rw [Rat.neg_num, Rat.neg_den]; exact h
/-! planes along a direction -/
structure Pla (n : V3) (t : Rat) (a b c d s : Int) : Prop where
  p : PlF a b c d
  hs : s = 1 ∨ s = -1
  ex : ∃ l : Rat, 0 < l ∧ ((s * a : Int) : Rat) = l * n.x ∧ ((s * b : Int) : Rat) = l * n.y ∧ ((s * c : Int) : Rat) = l * n.z ∧ ((s * d : Int) : Rat) = l * t
set_option Elab.async true in
theorem Pla.of {n : V3} {t : Rat} {e f : Nat} {n0 n1 n2 n3 n4 p0 p1 p2 p3 s g : Int} (w : WR e f n t n0 n1 n2 n3 n4) (h : HF n0 n1 n2 n3 p0 p1 p2 p3 s g) : Pla n t p0 p1 p2 p3 s := by
  have gp : (0 : Rat) < (g : Rat) := by exact_mod_cast h.pos
  have lp : (0 : Rat) < (n4 : Rat) := by exact_mod_cast w.pos
  refine ⟨h.p, h.s, (n4 : Rat) / (g : Rat), by rw [Rat.div_def]; exact Rat.mul_pos lp (Rat.inv_pos.2 gp), ?_, ?_, ?_, ?_⟩
  · have e := h.e0 ▸ w.e0
    simp only [Rat.intCast_mul] at *
    grind
  · have e := h.e1 ▸ w.e1
    simp only [Rat.intCast_mul] at *
    grind
  · have e := h.e2 ▸ w.e2
    simp only [Rat.intCast_mul] at *
    grind
  · have e := h.e3 ▸ w.e3
    simp only [Rat.intCast_mul] at *
    grind
in #guard_msgs in universe u_z
set_option Elab.async true in
theorem Pla.same {n m : V3} {t u k : Rat} {a b c d s a' b' c' d' s' : Int} (hk : k = 1 ∨ k = -1) (h : Pla n t a b c d s) (h' : Pla m u a' b' c' d' s') (ex : m.x = k * n.x) (ey : m.y = k * n.y) (ez : m.z = k * n.z) (et : u = k * t) : a' = a ∧ b' = b ∧ c' = c ∧ d' = d := by
  obtain ⟨l, hl, x0, x1, x2, x3⟩ := h.ex
  obtain ⟨j, hj, y0, y1, y2, y3⟩ := h'.ex
  have pl := num_pos.2 hl
  have pj := num_pos.2 hj
  rw [ex] at y0
  rw [ey] at y1
  rw [ez] at y2
  rw [et] at y3
  rcases hk with rfl | rfl
  · obtain ⟨r0, r1, r2, r3, _⟩ := HF.uniq (HF.self h.p h.hs) (HF.self h'.p h'.hs) (Int.mul_pos pj (denP l)) (Int.mul_pos pl (denP j)) (rat_int (by grind)) (rat_int (by grind)) (rat_int (by grind)) (rat_int (by grind))
    exact ⟨r0, r1, r2, r3⟩
  · have hs : -s = 1 ∨ -s = -1 := by rcases h.hs with h | h <;> omega
    have z0 : ((-s * a : Int) : Rat) = l * (-n.x) := by rw [Int.neg_mul, Rat.intCast_neg, x0]; grind
    have z1 : ((-s * b : Int) : Rat) = l * (-n.y) := by rw [Int.neg_mul, Rat.intCast_neg, x1]; grind
    have z2 : ((-s * c : Int) : Rat) = l * (-n.z) := by rw [Int.neg_mul, Rat.intCast_neg, x2]; grind
    have z3 : ((-s * d : Int) : Rat) = l * (-t) := by rw [Int.neg_mul, Rat.intCast_neg, x3]; grind
    obtain ⟨r0, r1, r2, r3, _⟩ := HF.uniq (HF.self h.p hs) (HF.self h'.p h'.hs) (Int.mul_pos pj (denP l)) (Int.mul_pos pl (denP j)) (rat_int (by grind)) (rat_int (by grind)) (rat_int (by grind)) (rat_int (by grind))
    exact ⟨r0, r1, r2, r3⟩
in #guard_msgs in universe u_z
def nrm (p q r : V3) : V3 := cr (vsb q p) (vsb r p)
def Lin (p q r : V3) : Prop := (nrm p q r).x = 0 ∧ (nrm p q r).y = 0 ∧ (nrm p q r).z = 0
def off (p q r v : V3) : Rat := dt (nrm p q r) (vsb v p)
def PTh (p q r : V3) (a b c d : Int) : Prop := ∃ s, Pla (nrm p q r) (-(dt (nrm p q r) p)) a b c d s
theorem Pla.val {n : V3} {t : Rat} {a b c d s : Int} (h : Pla n t a b c d s) : ∃ l : Rat, 0 < l ∧ ∀ v : V3, (s : Rat) * pval a b c d v = l * (dt n v + t) := by
  obtain ⟨l, hl, x0, x1, x2, x3⟩ := h.ex
  refine ⟨l, hl, fun v => ?_⟩
  simp only [Rat.intCast_mul] at *
  simp only [pval, dt]
  grind
set_option Elab.async true in
theorem PTh.val {p q r : V3} {a b c d : Int} (h : PTh p q r a b c d) : ∃ l : Rat, l ≠ 0 ∧ ∀ v : V3, pval a b c d v = l * off p q r v := by
  obtain ⟨s, h⟩ := h
  obtain ⟨l, hl, e⟩ := h.val
  have hs := h.hs
  refine ⟨(s : Rat) * l, ?_, fun v => ?_⟩
  · have : l ≠ 0 := by grind
    rcases hs with rfl | rfl
    · simp only [Rat.intCast_one, Rat.one_mul]; exact this
    · simp only [Rat.intCast_neg, Rat.intCast_one]; grind
  · have e1 := e v
    have e2 : dt (nrm p q r) v + -(dt (nrm p q r) p) = off p q r v := by simp only [off, dt, vsb]; grind
    rw [e2] at e1
    rcases hs with rfl | rfl
    · simp only [Rat.intCast_one, Rat.one_mul] at *; exact e1
    · simp only [Rat.intCast_neg, Rat.intCast_one] at *; grind
in #guard_msgs in universe u_z
theorem off_p {p q r : V3} : off p q r p = 0 := by simp only [off, dt, vsb]; grind
theorem off_q {p q r : V3} : off p q r q = 0 := by simp only [off, nrm, cr, dt, vsb]; grind
theorem off_r {p q r : V3} : off p q r r = 0 := by simp only [off, nrm, cr, dt, vsb]; grind
theorem off_rqp {p q r v : V3} : off r q p v = - off p q r v := by simp only [off, nrm, cr, dt, vsb]; grind
theorem PTh.on {p q r : V3} {a b c d : Int} (h : PTh p q r a b c d) : pval a b c d p = 0 ∧ pval a b c d q = 0 ∧ pval a b c d r = 0 := by
  obtain ⟨l, _, e⟩ := h.val
  refine ⟨?_, ?_, ?_⟩
  · rw [e, off_p, Rat.mul_zero]
  · rw [e, off_q, Rat.mul_zero]
  · rw [e, off_r, Rat.mul_zero]
theorem PTh.off0 {p q r v : V3} {a b c d : Int} (h : PTh p q r a b c d) : pval a b c d v = 0 ↔ off p q r v = 0 := by
  obtain ⟨l, hl, e⟩ := h.val
  rw [e, Rat.mul_eq_zero]
  exact ⟨fun h => h.resolve_left hl, .inr⟩
theorem PTh.same {p q r : V3} {a b c d a' b' c' d' : Int} (h : PTh p q r a b c d) (h' : PTh p q r a' b' c' d') : a' = a ∧ b' = b ∧ c' = c ∧ d' = d := by
  obtain ⟨s, h⟩ := h
  obtain ⟨s', h'⟩ := h'
  exact Pla.same (k := 1) (.inl rfl) h h' (by grind) (by grind) (by grind) (by grind)
theorem PTh.rqp {p q r : V3} {a b c d a' b' c' d' : Int} (h : PTh p q r a b c d) (h' : PTh r q p a' b' c' d') : a' = a ∧ b' = b ∧ c' = c ∧ d' = d := by
  obtain ⟨s, h⟩ := h
  obtain ⟨s', h'⟩ := h'
  exact Pla.same (k := -1) (.inr rfl) h h' (by simp only [nrm, cr, vsb]; grind) (by simp only [nrm, cr, vsb]; grind) (by simp only [nrm, cr, vsb]; grind) (by simp only [nrm, cr, dt, vsb]; grind)
theorem PTh.qrp {p q r : V3} {a b c d a' b' c' d' : Int} (h : PTh p q r a b c d) (h' : PTh q r p a' b' c' d') : a' = a ∧ b' = b ∧ c' = c ∧ d' = d := by
  obtain ⟨s, h⟩ := h
  obtain ⟨s', h'⟩ := h'
  exact Pla.same (k := 1) (.inl rfl) h h' (by simp only [nrm, cr, vsb]; grind) (by simp only [nrm, cr, vsb]; grind) (by simp only [nrm, cr, vsb]; grind) (by simp only [nrm, cr, dt, vsb]; grind)
theorem PTh.rpq {p q r : V3} {a b c d a' b' c' d' : Int} (h : PTh p q r a b c d) (h' : PTh r p q a' b' c' d') : a' = a ∧ b' = b ∧ c' = c ∧ d' = d := by
  obtain ⟨s, h⟩ := h
  obtain ⟨s', h'⟩ := h'
  exact Pla.same (k := 1) (.inl rfl) h h' (by simp only [nrm, cr, vsb]; grind) (by simp only [nrm, cr, vsb]; grind) (by simp only [nrm, cr, vsb]; grind) (by simp only [nrm, cr, dt, vsb]; grind)
theorem Lin.qrp {p q r : V3} (h : Lin p q r) : Lin q r p := by
  obtain ⟨h0, h1, h2⟩ := h
  simp only [nrm, cr, vsb] at h0 h1 h2
  refine ⟨?_, ?_, ?_⟩ <;> simp only [nrm, cr, vsb] <;> grind
theorem Lin.rqp {p q r : V3} : Lin p q r ↔ Lin r q p := by
  constructor <;>
  · rintro ⟨h0, h1, h2⟩
    simp only [nrm, cr, vsb] at h0 h1 h2
    refine ⟨?_, ?_, ?_⟩ <;> simp only [nrm, cr, vsb] <;> grind
theorem Lin.n_qrp {p q r : V3} (h : ¬ Lin p q r) : ¬ Lin q r p := fun e => h e.qrp.qrp
theorem Lin.n_rpq {p q r : V3} (h : ¬ Lin p q r) : ¬ Lin r p q := fun e => h e.qrp
theorem Lin.n_rqp {p q r : V3} (h : ¬ Lin p q r) : ¬ Lin r q p := fun e => h (Lin.rqp.2 e)
theorem Lin.pqp {p q : V3} : Lin p q p := by refine ⟨?_, ?_, ?_⟩ <;> simp only [nrm, cr, vsb] <;> grind
theorem Lin.pqq {p q : V3} : Lin p q q := by refine ⟨?_, ?_, ?_⟩ <;> simp only [nrm, cr, vsb] <;> grind
/-- the three dens -/
def dn (p : V3) : Int := (p.x.den : Int) * (p.y.den : Int) * (p.z.den : Int)
theorem dn_pos {p : V3} : 0 < dn p := Int.mul_pos (Int.mul_pos (denP _) (denP _)) (denP _)
/-- an integer that is a plane's value over a bottom -/
def VT (a b c d : Int) (p : V3) (t m : Int) : Prop := 0 < m ∧ (t : Rat) = pval a b c d p * (m : Rat)
theorem VT.zero {a b c d t m : Int} {p : V3} (h : VT a b c d p t m) : t = 0 ↔ pval a b c d p = 0 := by
  have mz : (m : Rat) ≠ 0 := by have := h.1; exact_mod_cast (show m ≠ 0 by omega)
  constructor
  · intro e
    have := h.2
    rw [e] at this
    exact (Rat.mul_eq_zero.1 this.symm).resolve_right mz
  · intro e
    have := h.2
    rw [e, Rat.zero_mul] at this
    exact_mod_cast this
theorem VT.pos {a b c d t m : Int} {p : V3} (h : VT a b c d p t m) : 0 < t ↔ 0 < pval a b c d p := by
  have mp : (0 : Rat) < (m : Rat) := by have := h.1; exact_mod_cast this
  have e := h.2
  constructor
  · intro ht
    have : (0 : Rat) < (t : Rat) := by exact_mod_cast ht
    rw [e] at this
    exact (Rat.mul_pos_iff_of_pos_right mp).1 this
  · intro hp
    have := Rat.mul_pos hp mp
    rw [← e] at this
    exact_mod_cast this
theorem VT.neg {a b c d t m : Int} {p : V3} (h : VT a b c d p t m) : t < 0 ↔ pval a b c d p < 0 := by
  have h1 := h.zero
  have h2 := h.pos
  constructor
  · intro ht
    have n1 : ¬ 0 < pval a b c d p := fun e => by have := h2.2 e; omega
    have n2 : pval a b c d p ≠ 0 := fun e => by have := h1.2 e; omega
    grind
  · intro hp
    have n1 : ¬ 0 < t := fun e => by have := h2.1 e; grind
    have n2 : t ≠ 0 := fun e => by have := h1.1 e; grind
    omega
theorem VT.sg {a b c d t m : Int} {p : V3} (h : VT a b c d p t m) {r : Int} (h1 : t > 0 → r = 1) (h2 : t < 0 → r = -1) (h3 : t = 0 → r = 0) : r = My.sg (pval a b c d p) := by
  rcases Int.lt_trichotomy t 0 with e | e | e
  · rw [h2 e, sg_neg (h.neg.1 e)]
  · rw [h3 e, h.zero.1 e, sg_0]
  · rw [h1 e, sg_pos (h.pos.1 e)]
theorem VT.over {a b c d : Int} {p : V3} : VT a b c d p (a * (p.x.num * (p.y.den : Int) * (p.z.den : Int)) + b * (p.y.num * (p.x.den : Int) * (p.z.den : Int)) + c * (p.z.num * (p.x.den : Int) * (p.y.den : Int)) + d * ((p.x.den : Int) * (p.y.den : Int) * (p.z.den : Int))) (dn p) := by
  refine ⟨dn_pos, ?_⟩
  have e0 := numc p.x
  have e1 := numc p.y
  have e2 := numc p.z
  simp only [dn, Rat.intCast_mul, Rat.intCast_add, pval]
  grind
theorem VT.q {a b c d t m : Int} {p : V3} (h : VT a b c d p t m) : (t : Rat) / (m : Rat) = pval a b c d p := by
  have mz : (m : Rat) ≠ 0 := by have := h.1; exact_mod_cast (show m ≠ 0 by omega)
  rw [h.2]
  grind
theorem BN.subM {n d n' d' : Nat} {p q : Rat} (m : Nat) (hp : BN n d p) (hq : BN n' d' q) (h1 : n + d' ≤ m) (h2 : n' + d ≤ m) : BN (m + 1) (d + d') (p - q) := by
  rw [← sub_q p q]
  exact BN.dv (mul0 (denI p) (denI q)) ((B.sub (B.mul hp.n hq.d) (B.mul hq.n hp.d)).le (by omega)) ((B.mul hp.d hq.d).le (by omega))
theorem BN.addM {n d n' d' : Nat} {p q : Rat} (m : Nat) (hp : BN n d p) (hq : BN n' d' q) (h1 : n + d' ≤ m) (h2 : n' + d ≤ m) : BN (m + 1) (d + d') (p + q) := by
  rw [← add_q p q]
  exact BN.dv (mul0 (denI p) (denI q)) ((B.add (B.mul hp.n hq.d) (B.mul hq.n hp.d)).le (by omega)) ((B.mul hp.d hq.d).le (by omega))
set_option Elab.async true in
theorem nrmB {p q r : V3} (hp : VN 134 134 p) (hq : VN 134 134 q) (hr : VN 134 134 r) : VN 1075 1072 (nrm p q r) := by
  have s : ∀ {a b : V3}, VN 134 134 a → VN 134 134 b → VN 269 268 (vsb a b) := fun ha hb => ⟨BN.subM 268 ha.x hb.x (by omega) (by omega), BN.subM 268 ha.y hb.y (by omega) (by omega), BN.subM 268 ha.z hb.z (by omega) (by omega)⟩
  have u := s hq hp
  have v := s hr hp
  exact ⟨BN.subM 1074 (BN.mul u.y v.z) (BN.mul u.z v.y) (by omega) (by omega), BN.subM 1074 (BN.mul u.z v.x) (BN.mul u.x v.z) (by omega) (by omega), BN.subM 1074 (BN.mul u.x v.y) (BN.mul u.y v.x) (by omega) (by omega)⟩
in #guard_msgs in universe u_z
theorem nrmD {n p : V3} (hn : VN 1075 1072 n) (hp : VN 134 134 p) : BN 3640 3630 (dt n p) :=
  BN.le (BN.addM 3622 (BN.addM 2415 (BN.mul hn.x hp.x) (BN.mul hn.y hp.y) (by omega) (by omega)) (BN.mul hn.z hp.z) (by omega) (by omega)) (by omega) (by omega)
theorem sg_z {x : Rat} (h : My.sg x = 0) : x = 0 := by
  rcases (show x < 0 ∨ x = 0 ∨ 0 < x by grind) with e | e | e
  · rw [sg_neg e] at h; cases h
  · exact e
  · rw [sg_pos e] at h; cases h
theorem VT.sgn {a b c d t m : Int} {p : V3} (h : VT a b c d p t m) : ((if decide (0 < t) = true then 1 else 0) - (if decide (t < 0) = true then 1 else 0) : Int) = My.sg (pval a b c d p) := by
  simp only [decide_eq_true_eq]
  refine h.sg ?_ ?_ ?_ <;> intro e
  · rw [if_pos (by omega), if_neg (by omega)]; rfl
  · rw [if_neg (by omega), if_pos (by omega)]; rfl
  · rw [if_neg (by omega), if_neg (by omega)]; rfl
theorem VT.cross {a b c d t : Int} {p : V3} (h : VT a b c d p t (dn p)) : (pval a b c d p).num * ((p.x.den : Int) * (p.y.den : Int) * (p.z.den : Int)) = t * ((pval a b c d p).den : Int) := by
  have e1 := numc (pval a b c d p)
  have e2 := h.2
  have e : (((pval a b c d p).num * dn p : Int) : Rat) = ((t * ((pval a b c d p).den : Int) : Int) : Rat) := by
    rw [Rat.intCast_mul, Rat.intCast_mul, ← e1, e2]
    grind
  exact_mod_cast e
theorem sg_one {x : Rat} (h : x ≠ 0) : My.sg x = 1 ∨ My.sg x = -1 := by
  rcases (show x < 0 ∨ 0 < x by grind) with e | e
  · exact .inr (sg_neg e)
  · exact .inl (sg_pos e)
theorem VT.sgp {a b c d t m : Int} {p : V3} (h : VT a b c d p t m) : ¬ My.sg (pval a b c d p) * t < 0 := by
  rcases Int.lt_trichotomy t 0 with e | e | e
  · rw [sg_neg (h.neg.1 e)]; omega
  · rw [e]; omega
  · rw [sg_pos (h.pos.1 e)]; omega
set_option Elab.async true in
theorem flat_of {p q r : V3} {u0 u1 u2 v0 v1 v2 : Int} {D E : Rat} (hD : D ≠ 0) (hE : E ≠ 0) (e0 : (u0 : Rat) = (q.x - p.x) * D) (e1 : (u1 : Rat) = (q.y - p.y) * D) (e2 : (u2 : Rat) = (q.z - p.z) * D) (f0 : (v0 : Rat) = (r.x - p.x) * E) (f1 : (v1 : Rat) = (r.y - p.y) * E) (f2 : (v2 : Rat) = (r.z - p.z) * E) :
    (u0 * v1 = u1 * v0 ∧ u0 * v2 = u2 * v0 ∧ u1 * v2 = u2 * v1) ↔ Lin p q r := by
  have go : ∀ a b c d : Int, (a * b = c * d) ↔ (a : Rat) * (b : Rat) = (c : Rat) * (d : Rat) := fun a b c d => by
    rw [← Rat.intCast_mul, ← Rat.intCast_mul]
    exact ⟨fun e => by rw [e], fun e => by exact_mod_cast e⟩
  have DE : D * E ≠ 0 := by
    intro e
    rcases Rat.mul_eq_zero.1 e with e | e
    · exact hD e
    · exact hE e
  rw [go, go, go, e0, e1, e2, f0, f1, f2]
  simp only [Lin, nrm, cr, vsb]
  have z : ∀ x y : Rat, x = y * (D * E) → (x = 0 ↔ y = 0) := fun x y e => by
    rw [e, Rat.mul_eq_zero]
    exact ⟨fun h => h.resolve_right DE, .inl⟩
  have z0 := z ((q.x - p.x) * D * ((r.y - p.y) * E) - (q.y - p.y) * D * ((r.x - p.x) * E)) ((q.x - p.x) * (r.y - p.y) - (q.y - p.y) * (r.x - p.x)) (by grind)
  have z1 := z ((q.z - p.z) * D * ((r.x - p.x) * E) - (q.x - p.x) * D * ((r.z - p.z) * E)) ((q.z - p.z) * (r.x - p.x) - (q.x - p.x) * (r.z - p.z)) (by grind)
  have z2 := z ((q.y - p.y) * D * ((r.z - p.z) * E) - (q.z - p.z) * D * ((r.y - p.y) * E)) ((q.y - p.y) * (r.z - p.z) - (q.z - p.z) * (r.y - p.y)) (by grind)
  constructor
  · rintro ⟨h0, h1, h2⟩
    exact ⟨z2.1 (by grind), z1.1 (by grind), z0.1 (by grind)⟩
  · rintro ⟨h0, h1, h2⟩
    have y0 := z0.2 h2
    have y1 := z1.2 h1
    have y2 := z2.2 h0
    exact ⟨by grind, by grind, by grind⟩
in #guard_msgs in universe u_z
theorem dnz (p q : V3) : (dn p : Rat) * (dn q : Rat) ≠ 0 := by
  have a := dn_pos (p := p)
  have b := dn_pos (p := q)
  intro e
  rcases Rat.mul_eq_zero.1 e with e | e
  · have : dn p = 0 := by exact_mod_cast e
    omega
  · have : dn q = 0 := by exact_mod_cast e
    omega
theorem over_x (p q : V3) : ((q.x.num * (q.y.den : Int) * (q.z.den : Int) * ((p.x.den : Int) * (p.y.den : Int) * (p.z.den : Int)) - p.x.num * (p.y.den : Int) * (p.z.den : Int) * ((q.x.den : Int) * (q.y.den : Int) * (q.z.den : Int)) : Int) : Rat) = (q.x - p.x) * ((dn p : Rat) * (dn q : Rat)) := by
  have e0 := numc p.x
  have e1 := numc q.x
  simp only [dn, Rat.intCast_mul, Rat.intCast_sub]
  grind
theorem over_y (p q : V3) : ((q.y.num * (q.x.den : Int) * (q.z.den : Int) * ((p.x.den : Int) * (p.y.den : Int) * (p.z.den : Int)) - p.y.num * (p.x.den : Int) * (p.z.den : Int) * ((q.x.den : Int) * (q.y.den : Int) * (q.z.den : Int)) : Int) : Rat) = (q.y - p.y) * ((dn p : Rat) * (dn q : Rat)) := by
  have e0 := numc p.y
  have e1 := numc q.y
  simp only [dn, Rat.intCast_mul, Rat.intCast_sub]
  grind
theorem over_z (p q : V3) : ((q.z.num * (q.x.den : Int) * (q.y.den : Int) * ((p.x.den : Int) * (p.y.den : Int) * (p.z.den : Int)) - p.z.num * (p.x.den : Int) * (p.y.den : Int) * ((q.x.den : Int) * (q.y.den : Int) * (q.z.den : Int)) : Int) : Rat) = (q.z - p.z) * ((dn p : Rat) * (dn q : Rat)) := by
  have e0 := numc p.z
  have e1 := numc q.z
  simp only [dn, Rat.intCast_mul, Rat.intCast_sub]
  grind
theorem eqv_w (a b c : Int) : PyData.eqv (vD ⟨(a : Rat), (b : Rat), (c : Rat)⟩) (.tuple [.tuple [.int a, .int 1], .tuple [.int b, .int 1], .tuple [.int c, .int 1]]) = true := by
  simp only [vD, qD, numI, denII, eqv_T, eqv_C, eqv_I, eqv_N, decide_true, Bool.and_self]
theorem eqv_4 (a b c d : Int) : PyData.eqv (.tuple [.int a, .int b, .int c, .int d]) (.tuple [.int a, .int b, .int c, .int d]) = true := by
  simp only [eqv_T, eqv_C, eqv_I, eqv_N, decide_true, Bool.and_self]
theorem eqv_h (a b c d s : Int) : PyData.eqv (.tuple [.tuple [.int a, .int b, .int c, .int d], .int s]) (.tuple [.tuple [.int a, .int b, .int c, .int d], .int s]) = true := by
  simp only [eqv_T, eqv_C, eqv_I, eqv_N, decide_true, Bool.and_self]
theorem eqv_vD (p : V3) : PyData.eqv (vD p) (vD p) = true := by
  simp only [vD, qD, eqv_V, and_self, decide_true]
theorem three_of {ps : List V3} (h : ps.length = 3) : ∃ p q r, ps = [p, q, r] := by
  match ps, h with
  | [p, q, r], _ => exact ⟨p, q, r, rfl⟩
section
variable {K : PySem.W.Frag} {H H0 : Hp} {s l : Addr}
theorem VcL.set {acc : List V} {ps : List V3} (h : VcL K H acc ps) {j : Nat} {x : Addr} {p : V3} (hv : Vc K H x p) : VcL K H (acc.set j (.ref x)) (ps.set j p) := by
  unfold VcL at *
  induction h generalizing j with
  | nil => exact .nil
  | cons r t ih =>
    cases j with
    | zero => exact .cons ⟨x, rfl, hv⟩ t
    | succ j => exact .cons r ih
theorem r_setV {ps : List V3} {p : V3} {x : Addr} {Q : Hp → Prop} {k : Int} {j : Nat} (nl : H0 l = none) (st0 : St K H0 s) (e : Fr s H0 H) (st : St K H s) (h : VL K H l ps) (hv : Vc K H x p) (ix : ixN ps.length k = some j)
    (q : ∀ H1, Fr s H0 H1 → St K H1 s → TK K H H1 → VL K H1 l (ps.set j p) → Q H1) : rSetL (.ref l) (.int k) (.ref x) H Q := by
  obtain ⟨acc, ha, hacc⟩ := h
  exact r_setK (K := K) nl st0 e st ha (by rw [hacc.len]; exact ix) rfl (fun H1 f1 s1 hl kp => q H1 f1 s1 kp ⟨_, hl, (hacc.tk kp).set (hv.tk kp)⟩)
end
theorem if_ltI {a b : Int} {A B : Prop} (h1 : a < b → A) (h2 : ¬ a < b → B) : if decide (a < b) = true then A else B := by
  by_cases h : a < b
  · rw [if_pos (decide_eq_true h)]; exact h1 h
  · rw [if_neg (by rw [decide_eq_false h]; decide)]; exact h2 h
theorem blend1 {p q : V3} {x : Rat} (hp : VN 134 134 p) (hq : VN 134 134 q) (hx : BN 6 6 x) : VN 410 408 (va p (sc x (vsb q p))) := by
  have a : VN 269 268 (vsb q p) := ⟨BN.subM 268 hq.x hp.x (by omega) (by omega), BN.subM 268 hq.y hp.y (by omega) (by omega), BN.subM 268 hq.z hp.z (by omega) (by omega)⟩
  have b := VN.sc hx a
  exact ⟨BN.addM 409 hp.x b.x (by omega) (by omega), BN.addM 409 hp.y b.y (by omega) (by omega), BN.addM 409 hp.z b.z (by omega) (by omega)⟩
theorem blend2 {b r : V3} {y : Rat} (hb : VN 410 408 b) (hr : VN 134 134 r) (hy : BN 6 6 y) : VN 960 956 (va b (sc y (vsb r b))) := by
  have a : VN 545 542 (vsb r b) := ⟨BN.subM 544 hr.x hb.x (by omega) (by omega), BN.subM 544 hr.y hb.y (by omega) (by omega), BN.subM 544 hr.z hb.z (by omega) (by omega)⟩
  have c := VN.sc hy a
  exact ⟨BN.addM 959 hb.x c.x (by omega) (by omega), BN.addM 959 hb.y c.y (by omega) (by omega), BN.addM 959 hb.z c.z (by omega) (by omega)⟩
theorem dvm {n d : Int} (h : d ≠ 0) : ((n : Rat) / (d : Rat)) * (d : Rat) = (n : Rat) := by
  have : (d : Rat) ≠ 0 := icz h
  grind
/-- an integer or a ratio -/
def RvQ (K : PySem.W.Frag) (H : Hp) (v : V) (q : Rat) : Prop := (∃ z : Int, v = .int z ∧ q = (z : Rat)) ∨ ∃ a : Addr, v = .ref a ∧ SqT K H a [.int q.num, .int (q.den : Int)]
end My

set_option Elab.async false
set_option linter.all false
set_option maxRecDepth 100000
/-! plain data of any shape: read, copied, bent -/
namespace My
open PySem L2 PySem.Spec PyProof.Rows
/-! data whose lists stand off the addresses N -/
mutual
inductive Dn (K : PySem.W.Frag) (N : List Addr) (H : Hp) : V → PyData → Prop
  | non : Dn K N H .non .none
  | bl (b : Bool) : Dn K N H (.bl b) (.bool b)
  | int (i : Int) : Dn K N H (.int i) (.int i)
  | str (x : Str) : Dn K N H (.str x) (.str x)
  | lst {a : Addr} {xs : List V} {ds : List PyData} : a ∉ N → H a = some (.lst xs) → DnA K N H xs ds → Dn K N H (.ref a) (.list ds)
  | tup {a : Addr} {xs : List V} {ds : List PyData} : SqT K H a xs → DnA K N H xs ds → Dn K N H (.ref a) (.tuple ds)
inductive DnA (K : PySem.W.Frag) (N : List Addr) (H : Hp) : List V → List PyData → Prop
  | nil : DnA K N H [] []
  | cons {v : V} {vs : List V} {d : PyData} {ds : List PyData} : Dn K N H v d → DnA K N H vs ds → DnA K N H (v :: vs) (d :: ds)
end
mutual
theorem Dn.mp {K : PySem.W.Frag} {N N' : List Addr} {H H' : Hp} (hl : ∀ a xs, a ∉ N → H a = some (.lst xs) → a ∉ N' ∧ H' a = some (.lst xs)) (ht : TK K H H') : ∀ {v : V} {d : PyData}, Dn K N H v d → Dn K N' H' v d
  | _, _, .non => .non
  | _, _, .bl b => .bl b
  | _, _, .int i => .int i
  | _, _, .str x => .str x
  | _, _, .lst n h a => .lst (hl _ _ n h).1 (hl _ _ n h).2 (DnA.mp hl ht a)
  | _, _, .tup h a => .tup (ht _ _ h) (DnA.mp hl ht a)
theorem DnA.mp {K : PySem.W.Frag} {N N' : List Addr} {H H' : Hp} (hl : ∀ a xs, a ∉ N → H a = some (.lst xs) → a ∉ N' ∧ H' a = some (.lst xs)) (ht : TK K H H') : ∀ {vs : List V} {ds : List PyData}, DnA K N H vs ds → DnA K N' H' vs ds
  | _, _, .nil => .nil
  | _, _, .cons h a => .cons (Dn.mp hl ht h) (DnA.mp hl ht a)
end
mutual
theorem Dn.dp {K : PySem.W.Frag} {N : List Addr} {H : Hp} : ∀ {v : V} {d : PyData}, Dn K N H v d → Dp K H v d
  | _, _, .non => .non
  | _, _, .bl b => .bl b
  | _, _, .int i => .int i
  | _, _, .str x => .str x
  | _, _, .lst n h a => .lst (SqL.of h) (DnA.dp a)
  | _, _, .tup h a => .tup h (DnA.dp a)
theorem DnA.dp {K : PySem.W.Frag} {N : List Addr} {H : Hp} : ∀ {vs : List V} {ds : List PyData}, DnA K N H vs ds → DpAll K H vs ds
  | _, _, .nil => .nil
  | _, _, .cons h a => .cons (Dn.dp h) (DnA.dp a)
end
section
variable {K : PySem.W.Frag} {N N' : List Addr} {H H' : Hp} {v : V} {d : PyData} {vs : List V} {ds : List PyData}
theorem Dn.same (e : Same H H') (h : Dn K N H v d) : Dn K N H' v d := h.mp (fun _ _ n h => ⟨n, e _ _ h⟩) (TK.same e)
theorem DnA.same (e : Same H H') (h : DnA K N H vs ds) : DnA K N H' vs ds := h.mp (fun _ _ n h => ⟨n, e _ _ h⟩) (TK.same e)
theorem Dn.upd {l : Addr} {xs : List V} {o : HO} (hN : l ∈ N) (hl : H l = some (.lst xs)) (h : Dn K N H v d) : Dn K N (L2.upd H l o) v d :=
  h.mp (fun a _ n h => ⟨n, (upd_ne (fun e => n (e ▸ hN))).trans h⟩) (TK.upd hl)
theorem DnA.upd {l : Addr} {xs : List V} {o : HO} (hN : l ∈ N) (hl : H l = some (.lst xs)) (h : DnA K N H vs ds) : DnA K N (L2.upd H l o) vs ds :=
  h.mp (fun a _ n h => ⟨n, (upd_ne (fun e => n (e ▸ hN))).trans h⟩) (TK.upd hl)
theorem Dn.add {l : Addr} (hl : H l = none) (h : Dn K N H v d) : Dn K (l :: N) H v d :=
  h.mp (fun a _ n h => ⟨fun e => (List.mem_cons.1 e).elim (fun e => by rw [e, hl] at h; cases h) n, h⟩) (TK.refl _ _)
theorem DnA.add {l : Addr} (hl : H l = none) (h : DnA K N H vs ds) : DnA K (l :: N) H vs ds :=
  h.mp (fun a _ n h => ⟨fun e => (List.mem_cons.1 e).elim (fun e => by rw [e, hl] at h; cases h) n, h⟩) (TK.refl _ _)
theorem Dn.mono (hN : ∀ a, a ∈ N' → a ∈ N) (h : Dn K N H v d) : Dn K N' H v d := h.mp (fun _ _ n h => ⟨fun q => n (hN _ q), h⟩) (TK.refl _ _)
theorem DnA.mono (hN : ∀ a, a ∈ N' → a ∈ N) (h : DnA K N H vs ds) : DnA K N' H vs ds := h.mp (fun _ _ n h => ⟨fun q => n (hN _ q), h⟩) (TK.refl _ _)
theorem Dn.fr {st : Addr} (e : Fr st H H') (hs : My.St K H st) (hN : st ∈ N) (h : Dn K N H v d) : Dn K N H' v d :=
  h.mp (fun a _ n h => ⟨n, e.keep _ _ (fun q => n (q ▸ hN)) h⟩) (TK.fr e hs)
theorem Dn.all (h : Dn K N H v d) : Dn K [] H v d := h.mono fun _ q => absurd q (by simp)
theorem DnA.len (h : DnA K N H vs ds) : vs.length = ds.length := DpAll.len h.dp
theorem DnA.get : ∀ {vs : List V} {ds : List PyData} (_ : DnA K N H vs ds) {i : Nat} {x : V} (_ : vs[i]? = some x), ∃ d, ds[i]? = some d ∧ Dn K N H x d
  | _, _, .nil, _, _, e => by simp at e
  | _, _, .cons a t, 0, _, e => by cases e; exact ⟨_, rfl, a⟩
  | _, _, .cons a t, i + 1, _, e => DnA.get t e
theorem DnA.snoc : ∀ {vs : List V} {ds : List PyData} (_ : DnA K N H vs ds) (_ : Dn K N H v d), DnA K N H (vs ++ [v]) (ds ++ [d])
  | _, _, .nil, h => .cons h .nil
  | _, _, .cons a t, h => .cons a (DnA.snoc t h)
theorem DnA.append {vs' : List V} {ds' : List PyData} : ∀ {vs : List V} {ds : List PyData} (_ : DnA K N H vs ds) (_ : DnA K N H vs' ds'), DnA K N H (vs ++ vs') (ds ++ ds')
  | _, _, .nil, h => h
  | _, _, .cons a t, h => .cons a (DnA.append t h)
theorem DnA.drop : ∀ {vs : List V} {ds : List PyData} (_ : DnA K N H vs ds) (n : Nat), DnA K N H (vs.drop n) (ds.drop n)
  | _, _, .nil, n => by simp only [List.drop_nil]; exact .nil
  | _, _, .cons a t, 0 => .cons a t
  | _, _, .cons a t, n + 1 => DnA.drop t n
theorem DnA.take : ∀ {vs : List V} {ds : List PyData} (_ : DnA K N H vs ds) (n : Nat), DnA K N H (vs.take n) (ds.take n)
  | _, _, .nil, n => by simp only [List.take_nil]; exact .nil
  | _, _, .cons a t, 0 => .nil
  | _, _, .cons a t, n + 1 => .cons a (DnA.take t n)
theorem DnA.rev : ∀ {vs : List V} {ds : List PyData} (_ : DnA K N H vs ds), DnA K N H vs.reverse ds.reverse
  | _, _, .nil => .nil
  | _, _, .cons a t => by simp only [List.reverse_cons]; exact (DnA.rev t).snoc a
/-- addresses that are there -/
def Al (H : Hp) (N : List Addr) : Prop := ∀ a, a ∈ N → H a ≠ none
theorem Al.same (e : Same H H') (h : Al H N) : Al H' N := fun a q z => by
  have := h a q
  cases hh : H a with
  | none => exact this hh
  | some o => rw [e _ _ hh] at z; cases z
theorem Al.fr {st : Addr} (e : Fr st H H') (hs : My.St K H st) (h : Al H N) : Al H' N := fun a q z => by
  have := h a q
  by_cases c : a = st
  · subst c
    obtain ⟨l, ns, i1, i2, i3, i4, i5, i6, hs⟩ := hs
    obtain ⟨ys, hy, _⟩ := e.hd _ hs.at_
    rw [hy] at z; cases z
  · cases hh : H a with
    | none => exact this hh
    | some o => rw [e.keep _ _ c hh] at z; cases z
theorem Al.nil : Al H [] := fun _ q => absurd q (by simp)
theorem Al.st {st : Addr} (hs : My.St K H st) : Al H [st] := fun a q => by
  rw [List.mem_singleton.1 q]; exact hs.some
theorem Al.cons {l : Addr} {o : HO} (hl : H l = some o) (h : Al H N) : Al H (l :: N) := fun a q z => by
  rcases List.mem_cons.1 q with rfl | q
  · rw [hl] at z; cases z
  · exact h a q z
theorem Al.new {p : Addr} (h : Al H N) (hp : H p = none) : p ∉ N := fun q => h p q hp
end
/-- what a value is made of: small ints, short texts, lists and tuples no deeper than n -/
def Pd : Nat → PyData → Prop
  | 0, _ => False
  | _ + 1, .none => True
  | _ + 1, .bool _ => True
  | _ + 1, .int i => B 1100 i
  | _ + 1, .str x => x.length ≤ 100
  | n + 1, .list ds => ds.length ≤ 150 ∧ ∀ d, d ∈ ds → Pd n d
  | n + 1, .tuple ds => ds.length ≤ 150 ∧ ∀ d, d ∈ ds → Pd n d
  | _ + 1, _ => False
/-- the same behind a bend -/
def Pe : Nat → PyData → Prop
  | 0, _ => False
  | _ + 1, .none => True
  | _ + 1, .bool _ => True
  | _ + 1, .int _ => True
  | _ + 1, .str _ => True
  | n + 1, .list ds => ds.length ≤ 400 ∧ ∀ d, d ∈ ds → Pe n d
  | n + 1, .tuple ds => ds.length ≤ 400 ∧ ∀ d, d ∈ ds → Pe n d
  | _ + 1, _ => False
theorem Pd.succ : ∀ {n : Nat} {d : PyData}, Pd n d → Pd (n + 1) d
  | 0, _, h => h.elim
  | n + 1, .none, _ => trivial
  | n + 1, .bool _, _ => trivial
  | n + 1, .int _, h => h
  | n + 1, .str _, h => h
  | n + 1, .list _, h => ⟨h.1, fun d q => (h.2 d q).succ⟩
  | n + 1, .tuple _, h => ⟨h.1, fun d q => (h.2 d q).succ⟩
theorem Pd.mono {n m : Nat} {d : PyData} (h : Pd n d) (e : n ≤ m) : Pd m d := by
  induction e with
  | refl => exact h
  | step _ ih => exact ih.succ
theorem Pe.succ : ∀ {n : Nat} {d : PyData}, Pe n d → Pe (n + 1) d
  | 0, _, h => h.elim
  | n + 1, .none, _ => trivial
  | n + 1, .bool _, _ => trivial
  | n + 1, .int _, h => trivial
  | n + 1, .str _, h => trivial
  | n + 1, .list _, h => ⟨h.1, fun d q => (h.2 d q).succ⟩
  | n + 1, .tuple _, h => ⟨h.1, fun d q => (h.2 d q).succ⟩
theorem Pe.mono {n m : Nat} {d : PyData} (h : Pe n d) (e : n ≤ m) : Pe m d := by
  induction e with
  | refl => exact h
  | step _ ih => exact ih.succ
theorem Pd.pe : ∀ {n : Nat} {d : PyData}, Pd n d → Pe n d
  | 0, _, h => h.elim
  | n + 1, .none, _ => trivial
  | n + 1, .bool _, _ => trivial
  | n + 1, .int _, h => trivial
  | n + 1, .str _, h => trivial
  | n + 1, .list _, h => ⟨Nat.le_trans h.1 (by decide), fun d q => (h.2 d q).pe⟩
  | n + 1, .tuple _, h => ⟨Nat.le_trans h.1 (by decide), fun d q => (h.2 d q).pe⟩
/-- some data no deeper than n -/
def Pn (K : PySem.W.Frag) (N : List Addr) (H : Hp) (n : Nat) (v : V) : Prop := ∃ d, Dn K N H v d ∧ Pe n d
def PnA (K : PySem.W.Frag) (N : List Addr) (H : Hp) (n m : Nat) (vs : List V) : Prop := ∃ ds, DnA K N H vs ds ∧ (∀ d, d ∈ ds → Pe n d) ∧ vs.length ≤ m
section
variable {K : PySem.W.Frag} {N N' : List Addr} {H H' : Hp} {v : V} {vs ws : List V} {n m m' : Nat} {a : Addr}
theorem Pn.same (e : Same H H') (h : Pn K N H n v) : Pn K N H' n v := let ⟨d, x, y⟩ := h; ⟨d, x.same e, y⟩
theorem Pn.mono (h : Pn K N H n v) {m : Nat} (e : n ≤ m) : Pn K N H m v := let ⟨d, x, y⟩ := h; ⟨d, x, y.mono e⟩
theorem Pn.up (h : Pn K N H n v) : Pn K N H (n + 1) v := h.mono (Nat.le_succ n)
theorem Pn.non : Pn K N H (n + 1) .non := ⟨_, .non, trivial⟩
theorem Pn.bl (b : Bool) : Pn K N H (n + 1) (.bl b) := ⟨_, .bl b, trivial⟩
theorem Pn.int (i : Int) : Pn K N H (n + 1) (.int i) := ⟨_, .int i, trivial⟩
theorem Pn.str (x : Str) : Pn K N H (n + 1) (.str x) := ⟨_, .str x, trivial⟩
theorem Pn.tup (q : SqT K H a vs) (h : PnA K N H n m vs) (l : m ≤ 400) : Pn K N H (n + 1) (.ref a) := let ⟨ds, x, y, z⟩ := h; ⟨_, .tup q x, by rw [← x.len]; omega, y⟩
theorem Pn.lst (hn : a ∉ N) (q : H a = some (.lst vs)) (h : PnA K N H n m vs) (l : m ≤ 400) : Pn K N H (n + 1) (.ref a) := let ⟨ds, x, y, z⟩ := h; ⟨_, .lst hn q x, by rw [← x.len]; omega, y⟩
theorem PnA.nil : PnA K N H n 0 [] := ⟨[], .nil, fun _ q => absurd q (by simp), Nat.le_refl _⟩
theorem PnA.cons (h : Pn K N H n v) (t : PnA K N H n m vs) : PnA K N H n (m + 1) (v :: vs) := let ⟨d, x, y⟩ := h; let ⟨ds, z, u, l⟩ := t; ⟨d :: ds, .cons x z, fun e q => (List.mem_cons.1 q).elim (fun q => q ▸ y) (u e), Nat.succ_le_succ l⟩
theorem PnA.append (h : PnA K N H n m vs) (t : PnA K N H n m' ws) : PnA K N H n (m + m') (vs ++ ws) := let ⟨ds, x, y, l⟩ := h; let ⟨es, z, u, l'⟩ := t; ⟨ds ++ es, x.append z, fun e q => (List.mem_append.1 q).elim (y e) (u e), by rw [List.length_append]; omega⟩
theorem PnA.snoc (h : PnA K N H n m vs) (t : Pn K N H n v) : PnA K N H n (m + 1) (vs ++ [v]) := h.append (.cons t .nil)
theorem PnA.cut (h : PnA K N H n m vs) (lo hi : Option Int) : PnA K N H n m (cutV vs lo hi) := let ⟨ds, x, y, l⟩ := h; ⟨_, (x.drop _).take _, fun e q => y e (List.mem_of_mem_drop (List.mem_of_mem_take q)), Nat.le_trans (cutV_length _ _ _) l⟩
theorem PnA.rev (h : PnA K N H n m vs) : PnA K N H n m vs.reverse := let ⟨ds, x, y, l⟩ := h; ⟨_, x.rev, fun e q => y e (List.mem_reverse.1 q), by rw [List.length_reverse]; exact l⟩
theorem PnA.same (e : Same H H') (h : PnA K N H n m vs) : PnA K N H' n m vs := let ⟨d, x, y⟩ := h; ⟨d, x.same e, y⟩
theorem PnA.mono (h : PnA K N H n m vs) {n' : Nat} (e : n ≤ n') : PnA K N H n' m vs := let ⟨d, x, y, z⟩ := h; ⟨d, x, fun z q => (y z q).mono e, z⟩
theorem PnA.upd {l : Addr} {xs : List V} {o : HO} (hN : l ∈ N) (hl : H l = some (.lst xs)) (h : PnA K N H n m vs) : PnA K N (L2.upd H l o) n m vs := let ⟨d, x, y⟩ := h; ⟨d, x.upd hN hl, y⟩
theorem PnA.less (hN : ∀ a, a ∈ N' → a ∈ N) (h : PnA K N H n m vs) : PnA K N' H n m vs := let ⟨d, x, y⟩ := h; ⟨d, x.mono hN, y⟩
theorem Pn.less (hN : ∀ a, a ∈ N' → a ∈ N) (h : Pn K N H n v) : Pn K N' H n v := let ⟨d, x, y⟩ := h; ⟨d, x.mono hN, y⟩
theorem Al.new' {p : Addr} (hp : H p = none) (h : Al H N) : p ∉ N := h.new hp
theorem r_ixM {Q : VK} {p : Addr} {xs : List V} {i : Int} (q : SqL K H p xs) (h0 : 0 ≤ i) (h1 : i < (xs.length : Int)) (h : ∀ v, v ∈ xs → Q v H) : rIxL K (.ref p) (.int i) H Q := by
  obtain ⟨v, ea, hm, _⟩ := atI_in h0 h1
  exact r_ixL q ea (h v hm)
theorem r_catB {Q : VK} {a b : Addr} {xs ys : List V} (ha : SqT K H a xs) (hb : SqT K H b ys) (hn : xs.length + ys.length ≤ 100000) (h : ∀ p H1, Same H H1 → SqT K H1 p (xs ++ ys) → Q (.ref p) H1) : rCatA K (.ref a) (.ref b) H Q := r_catA ha hb rfl (decide_eq_true hn) h
theorem r_catLB {H : Hp} {a b : Addr} {xs ys : List V} {Q : VK} (h1 : H a = some (.lst xs)) (h2 : H b = some (.lst ys)) (hn : xs.length + ys.length ≤ 100000) (h : ∀ p H1, H p = none → Same H H1 → H1 p = some (.lst (xs ++ ys)) → Q (.ref p) H1) : rCat (.ref a) (.ref b) H Q :=
  ⟨a, b, xs, ys, rfl, rfl, h1, h2, Nat.le_trans hn (by decide), fun p np => h p _ np (Same.new np) upd_same⟩
theorem p256 : ∀ n : Nat, (1 : Int) ≤ 256 ^ n
  | 0 => by decide
  | n + 1 => by
    have := p256 n
    rw [Int.pow_succ]
    omega
end
/-! kinds -/
def kdD : PyData → String
  | .none => "NoneType" | .bool _ => "bool" | .int _ => "int" | .str _ => "str" | .list _ => "list" | .tuple _ => "tuple" | _ => "dict"
section
variable {K : PySem.W.Frag} {N : List Addr} {H : Hp} {v : V} {d : PyData} {Q : VK}
set_option Elab.async true in
theorem _root_.My.Dp.ty (h : Dp K H v d) : TyX K H v (.type (kdD d)) := by
  cases h with
  | non => exact .base .non
  | bl b => exact .base (.bl b)
  | int i => exact .base (.int i)
  | str x => exact .base (.str x)
  | lst h _ =>
    rcases h with (h | ⟨o, h⟩) | ⟨o, its, n, ho, hc, _⟩
    · exact .base (.lst h)
    · exact .base (.frz h)
    · exact .kList ho hc
  | tup h _ =>
    rcases h with (h | ⟨o, h⟩) | ⟨o, its, n, ho, hc, _⟩
    · exact .base (.tup h)
    · exact .fTuple h
    · exact .kTuple ho hc
in #guard_msgs in universe u_z
theorem r_isD {n : String} {b : Bool} (h : Dp K H v d) (e : kitB (kdD d) n = some b) (q : Q (.bl b) H) : rIsi K [v, .ty n] H Q := ⟨v, .ty n, _, _, b, rfl, .ty n, Dp.ty h, kit_ty e, q⟩
theorem kd_tuple (d : PyData) : kitB (kdD d) "tuple" = some (match d with | .tuple _ => true | _ => false) := by cases d <;> (dsimp only [kdD]; decide +kernel)
theorem kd_list (d : PyData) : kitB (kdD d) "list" = some (match d with | .list _ => true | _ => false) := by cases d <;> (dsimp only [kdD]; decide +kernel)
theorem kd_str (d : PyData) : kitB (kdD d) "str" = some (match d with | .str _ => true | _ => false) := by cases d <;> (dsimp only [kdD]; decide +kernel)
theorem kd_bool (d : PyData) : kitB (kdD d) "bool" = some (match d with | .bool _ => true | _ => false) := by cases d <;> (dsimp only [kdD]; decide +kernel)
theorem kd_int (d : PyData) : kitB (kdD d) "int" = some (match d with | .bool _ => true | .int _ => true | _ => false) := by cases d <;> (dsimp only [kdD]; decide +kernel)
end
/-! isinstance(x, (A, B)) -/
section
variable {X : Cx} {K : PySem.W.Frag} {H : Hp} {Q : VK} {v : V} {d : PyData}
theorem kc_isiT (h : X.K = K) : CallR X (.builtin "isinstance") (rIsiT K) := h ▸ call_isiT
def seqD : PyData → Bool
  | .tuple _ => true
  | .list _ => true
  | _ => false
set_option Elab.async true in
theorem r_isLT {tp : Addr} {b : Bool} (ht : H tp = some (.tup [.ty "list", .ty "tuple"])) (h : Dp K H v d) (e : seqD d = b) (q : Q (.bl b) H) : rIsiT K [v, .ref tp] H Q := by
  refine ⟨v, tp, _, _, [.type "list", .type "tuple"], b, rfl, ht, .cons (.ty _) (.cons (.ty _) .nil), Dp.ty h, ?_, q⟩
  subst e
  cases d with
  | list _ => exact kitAny_cons (b := true) (kit_ty (by dsimp only [kdD]; decide +kernel)) (fun e => nomatch e) (fun _ => rfl)
  | tuple _ => exact kitAny_cons (b := false) (kit_ty (by dsimp only [kdD]; decide +kernel)) (fun _ => kitAny_cons (b := true) (kit_ty (by dsimp only [kdD]; decide +kernel)) (fun e => nomatch e) (fun _ => rfl)) (fun e => nomatch e)
  | _ => exact kitAny_cons (b := false) (kit_ty (by dsimp only [kdD]; decide +kernel)) (fun _ => kitAny_cons (b := false) (kit_ty (by dsimp only [kdD]; decide +kernel)) (fun _ => kitAny_nil) (fun e => nomatch e)) (fun e => nomatch e)
in #guard_msgs in universe u_z
/-! for x in a list or a tuple -/
theorem PI.or {tg e : Expr} {w1 w2 : L2.TI} (h1 : PI X tg e w1) (h2 : PI X tg e w2) : PI X tg e (fun σ H R => w1 σ H R ∨ w2 σ H R) := ⟨fun pins s σ H R I hw => hw.elim (h1.run pins s σ H R I) (h2.run pins s σ H R I)⟩
def iAny (K : PySem.W.Frag) (te : TE) : L2.TI := fun σ H R => iList K te σ H R ∨ iTup K te σ H R
theorem kp_any (h : X.K = K) {tg e : Expr} {te : TE} (he : PE X e te) : PI X tg e (iAny K te) := PI.or (kp_list h he) (kp_tup h he)
theorem w_iAL {te : TE} {σ : L2.St} {R : It → Hp → Prop} (h : te σ H fun x H1 => iL K x H1 R) : iAny K te σ H R := .inl h
theorem w_iAT {te : TE} {σ : L2.St} {R : It → Hp → Prop} (h : te σ H fun x H1 => iT K x H1 R) : iAny K te σ H R := .inr h
theorem ks_tupA (h : X.K = K) : SlR X (rSlA K) := h ▸ sl_tupA
theorem r_slA {a : Addr} {xs : List V} {lo hi : Option Int} (q : SqT K H a xs) (h : ∀ p H1, Same H H1 → SqT K H1 p (cutV xs lo hi) → Q (.ref p) H1) : rSlA K (.ref a) lo hi H Q := by
  refine ⟨a, xs, rfl, q, fun e => h a H (Same.refl _) ?_, fun _ p np => h p _ (Same.new np) (SqT.of upd_same)⟩
  unfold cutV
  rw [e.1, e.2, List.drop_zero, Nat.sub_zero, List.take_of_length_le (Nat.le_refl _)]
  exact q
/-! t[::-1] -/
def rRevT (K : PySem.W.Frag) : V → Option Int → Hp → VK → Prop := fun x o H Q => o = some (-1) ∧ ∃ a xs, x = .ref a ∧ SqT K H a xs ∧ ∀ p, H p = none → Q (.ref p) (L2.upd H p (.tup xs.reverse))
def tRevT (K : PySem.W.Frag) (te : TE) (th : TO) : TE := fun σ H Q => te σ H fun x H1 => th σ H1 fun o H2 => rRevT K x o H2 Q
theorem rev_adj (n : Nat) : Builtin.Slice.sliceAdjust none none (-1) (n : Int) = ((n : Int) - 1, -1) := by
  unfold Builtin.Slice.sliceAdjust
  simp
theorem rev_places (n : Nat) : Builtin.Slice.slicePlaces ((n : Int) - 1) (-1) (-1) = n := by
  unfold Builtin.Slice.slicePlaces
  simp only [show ¬ ((-1 : Int) > 0) by decide, if_false, show (-(-1 : Int)) = 1 by decide, Int.ediv_one]
  split <;> omega
set_option Elab.async true in
theorem rev_pick (xs : Array Value) : ((List.range xs.size).filterMap fun (m : Nat) => xs[(((xs.size : Int) - 1) + (m : Int) * (-1)).toNat]?).toArray = xs.toList.reverse.toArray := by
  have e : (List.range xs.size).filterMap (fun (m : Nat) => xs[(((xs.size : Int) - 1) + (m : Int) * (-1)).toNat]?) = ((List.range xs.size).map fun m => xs.size - 1 - m).filterMap (xs[·]?) := by
    rw [List.filterMap_map]
    have g : ∀ l : List Nat, (∀ m, m ∈ l → m < xs.size) → l.filterMap (fun (m : Nat) => xs[(((xs.size : Int) - 1) + (m : Int) * (-1)).toNat]?) = l.filterMap ((xs[·]?) ∘ fun m => xs.size - 1 - m) := by
      intro l
      induction l with
      | nil => intro _; rfl
      | cons m t ih =>
        intro h
        have hm := h m (by simp)
        have e : xs[(((xs.size : Int) - 1) + (m : Int) * (-1)).toNat]? = xs[xs.size - 1 - m]? := by
          congr 1
          omega
        rw [List.filterMap_cons, List.filterMap_cons, ih fun k hk => h k (by simp [hk])]
        have e2 : xs[(((xs.size : Int) - 1) + (m : Int) * (-1)).toNat]? = ((fun x => xs[x]?) ∘ fun m => xs.size - 1 - m) m := e
        rw [e2]
    exact g _ fun m hm => List.mem_range.1 hm
  rw [e, PySem.W.krv_range, List.filterMap_reverse, PySem.W.krv_all]
in #guard_msgs in universe u_z
set_option Elab.async true in
theorem getItem_tuple_rev {prog : Program} {w : World} {A : Around} {E : Value → Shared → Prop} {s : Shared} {t sl : Addr} {items : Array Value} {vk : Value} {Q : Value → Shared → Prop} (ht : IsTup s.heap t items) (hs : s.heap.IsSliceOf sl .none .none vk) (pk : IsPart vk (some (-1)))
    (h : Q (.ref s.heap.objs.size) { s with heap := s.heap.push { cls := .type "tuple", data := .seq items.toList.reverse.toArray } })
    (hsz : items.size ≤ sizeLine) : wpAny (model prog w) A (getItem (.ref t) (.ref sl)) Q E s := by
  have htake : sizeOk (.seq items.toList.reverse.toArray) := by
    show items.toList.reverse.toArray.size ≤ sizeLine
    rw [List.size_toArray, List.length_reverse, Array.length_toList]
    omega
  obtain ⟨os, hos, hcs, hds⟩ := id hs
  have hTs : s.TypeIs (.ref sl) "slice" := ⟨os, hos, hcs⟩
  unfold getItem
  try with_reducible refine wpAny_holding ?_
  first | refine wpAny_bind (wpAny_pure ?_) | skip
  refine wpAny_bind (wpAny_sequenceKey ht.typeIs (by decide) ?_)
  refine wpAny_bind (wpAny_callSpecial?_slot (name := Str.ofString "__getitem__") ht.typeIs PyProof.Rows.slot_tuple_getitem
    (wpAny_call_entry PyProof.Rows.slot_tuple_getitem ht.typeIs entry_tuple_getitem ?_ (args_tuple_getitem _ _)))
  show wpAny _ _ (Builtin.Tuple.tupleItemsOf (.ref t) >>= _) _ _ s
  refine wpAny_bind (tupleItemsOf_ ht ?_)
  refine wpAny_bind (wpAny_typeOf hTs ?_)
  rw [if_pos (by decide)]
  refine wpAny_bind (m := Builtin.Slice.sliceApplied _ _) ?_
  unfold Builtin.Slice.sliceApplied Builtin.Slice.sliceFields
  refine wpAny_bind (wpAny_bind (wpAny_field hos hds (x := .none) rfl (wpAny_bind (wpAny_field hos hds (x := .none) rfl (wpAny_bind (wpAny_field hos hds (x := vk) rfl (wpAny_pure ?_)))))))
  refine wpAny_bind (HT.slicePart_ pk ?_)
  show wpAny _ _ (if ((-1 : Int) == 0) = true then _ else _) _ _ s
  rw [if_neg (by decide)]
  refine wpAny_bind (HT.slicePart_ .none (wpAny_bind (HT.slicePart_ .none (wpAny_bind (wpAny_pure ?_)))))
  show wpAny _ _ (match Builtin.Slice.sliceAdjust none none (-1) (items.size : Int) with | (lo, hi) => pure (lo, (-1 : Int), Builtin.Slice.slicePlaces lo hi (-1))) _ _ s
  rw [rev_adj]
  show wpAny _ _ (pure ((items.size : Int) - 1, (-1 : Int), Builtin.Slice.slicePlaces ((items.size : Int) - 1) (-1) (-1))) _ _ s
  rw [rev_places]
  refine wpAny_pure ?_
  have hno : ¬ ((((items.size : Int) - 1) == 0 && (-1 : Int) == 1 && items.size == items.size) = true) := by simp
  show wpAny _ _ (if (((items.size : Int) - 1) == 0 && (-1 : Int) == 1 && items.size == items.size) = true then _ else _) _ _ s
  rw [if_neg hno, rev_pick]
  first
    | exact wpAny_bind (m := Builtin.Tuple.tupleExact _) (wpAny_newObj_type (wpAny_pure ⟨_, rfl, wpAny_pure h⟩) htake)
    | exact wpAny_bind (m := Builtin.Tuple.tupleExact _) (wpAny_newObj_type (wpAny_bind (wpAny_pure (wpAny_pure ⟨_, rfl, wpAny_pure h⟩))) htake)
in #guard_msgs in universe u_z
set_option Elab.async true in
theorem pe_revT (hK : X.K = K) {e st : Expr} {te : TE} {th : TO} {pos p2 : Pos} (he : PE X e te) (hst : PO X (some st) th) : PE X (.Subscript e (.Slice none none (some st) p2) pos) (tRevT K te th) := by
  subst hK
  refine ⟨fun pins s σ H Q I h => ?_⟩
  refine Subscript_ (thn (he.run pins s σ H _ I h) fun v s1 ⟨x, H1, I1, r1, q1⟩ => ?_)
  refine wpAny_Slice ?_
  rw [evalPart_none]
  refine wpAny_pure ?_
  refine wpAny_pure ?_
  refine thn (hst.run pins s1 σ H1 _ I1 q1) fun vk s3 ⟨o, H3, I3, pk, ho, a, xs, hx, hq, q3⟩ => ?_
  subst ho
  subst hx
  cases r1
  have I4 : Inv X pins σ H3 { s3 with heap := s3.heap.push { cls := .type "slice", data := .fields #[.none, .none, vk] } } := I3.kept (t' := s3.toks) fun b ob q => Heap.get?_push_of_some _ q
  obtain ⟨its, r, ht, hz⟩ := I4.tuple hq
  have hlen := r.length
  refine tail_any (ops := [.ref a, .ref s3.heap.objs.size]) ht.typeIs PyProof.Rows.slot_tuple_getitem.lookup ?_ (by with_unfolding_all rfl)
  refine getItem_tuple_rev ht (Heap.IsSliceOf.new ..) pk ?_ (by rw [List.size_toArray] <;> omega)
  refine ⟨.ref _, _, I4.laid (t' := s3.toks) (o := .tup xs.reverse) (fun b ob q => Heap.get?_push_of_some _ q) (Nat.le_refl _) ?_, rfl, q3 _ (I4.hok.fresh (Nat.le_refl _))⟩
  exact ⟨by rw [List.length_reverse]; omega, _, by simpa using r.reverse, IsTup.new _ _⟩
in #guard_msgs in universe u_z
theorem w_revT {te : TE} {th : TO} {σ : L2.St} (h : te σ H fun x H1 => th σ H1 fun o H2 => rRevT K x o H2 Q) : tRevT K te th σ H Q := h
theorem r_revT {a : Addr} {xs : List V} (q : SqT K H a xs) (h : ∀ p H1, Same H H1 → SqT K H1 p xs.reverse → Q (.ref p) H1) : rRevT K (.ref a) (some (-1)) H Q :=
  ⟨rfl, a, xs, rfl, q, fun p np => h p _ (Same.new np) (SqT.of upd_same)⟩
theorem r_revL {a : Addr} {xs : List V} (q : SqL K H a xs) (h : ∀ p H1, H p = none → Same H H1 → H1 p = some (.lst xs.reverse) → Q (.ref p) H1) : rRev K (.ref a) (some (-1)) H Q :=
  ⟨rfl, a, xs, rfl, q, fun p np => h p _ np (Same.new np) upd_same⟩
theorem r_slL {a : Addr} {xs : List V} {lo hi : Option Int} (q : SqL K H a xs) (h : ∀ p H1, H p = none → Same H H1 → H1 p = some (.lst (cutV xs lo hi)) → Q (.ref p) H1) : rSlL K (.ref a) lo hi H Q :=
  ⟨a, xs, rfl, q, fun p np => h p _ np (Same.new np) upd_same⟩
/-! texts -/
def rCatX : R2 := fun x y H Q => ∃ i j, x = .str i ∧ y = .str j ∧ i.length + j.length ≤ sizeLine ∧ Q (.str (i ++ j)) H
theorem ko_catX : OpR X (binaryOp .Add) rCatX := op_add_str
theorem r_catX {i j : Str} (h : i.length + j.length ≤ 100000) (q : Q (.str (i ++ j)) H) : rCatX (.str i) (.str j) H Q := ⟨i, j, rfl, rfl, Nat.le_trans h (by decide), q⟩
def rUp : V → List V → Hp → VK → Prop := fun x xs H Q => ∃ a, x = .str a ∧ xs = [] ∧ a.length ≤ 5592405 ∧ Q (.str (Txt.upper a)) H
theorem ke_upper {o : Expr} {to : TE} {apos pos : Pos} (ho : PE X o to) (hbase : attributeBase o "upper" X.env (eval o X.env) = eval o X.env := by rfl) (hline : (apos.endLine == pos.line) = true := by rfl) : PE X (.Call (.Attribute o "upper" apos) [] [] pos) (tM0 rUp to) := L2.pe_upper ho hbase hline
def upP (x : V) (H : Hp) (Q : VK) : Prop := (∃ a, x = .str a) ∧ rUp x [] H Q
theorem w_up {to : TE} {σ : L2.St} (h : to σ H fun x H1 => upP x H1 Q) : tM0 rUp to σ H Q := h
theorem r_up {a : Str} (h : a.length ≤ 100000) (q : Q (.str (Txt.upper a)) H) : upP (.str a) H Q := ⟨⟨a, rfl⟩, a, rfl, rfl, Nat.le_trans h (by decide), q⟩
def rStrI : List V → Hp → VK → Prop := fun xs H Q => ∃ i, xs = [.int i] ∧ i.natAbs.log2 < 1920 ∧ Q (.str (toString i)) H
theorem kc_strI : CallR X (.type "str") rStrI := call_str_int
theorem r_strI {i : Int} (h : B 1900 i) (q : Q (.str (toString i)) H) : rStrI [.int i] H Q := ⟨i, rfl, Nat.lt_of_lt_of_le (PySem.Flt.log2_lt_of (k := 1900) (by decide) h.lt) (by decide), q⟩
/-! x in a tuple of texts -/
def inSt (ss : List Str) : PyData → Bool
  | .str z => ss.any fun y => y == z
  | _ => false
def rInS (K : PySem.W.Frag) : R2 := fun x y H Q => ∃ p ss d, y = .ref p ∧ SqT K H p (ss.map V.str) ∧ Dp K H x d ∧ Q (.bl (inSt ss d)) H
def isSt (d : PyData) (u : Value) : Bool := match u, d with
  | .str y _, .str z => y == z
  | _, _ => false
set_option Elab.async true in
theorem isSt_eq {A : Around} {s : Shared} {X : Cx} {pins : List (Addr × Obj)} {σ : L2.St} (I : Inv X pins σ H s) (hu : A.units < cLine) {y : Str} {t : Tok} {x : V} {v : Value} (h : Dp X.K H x d) (r : RelV x v) : SeqAt.EqAt A s (.str y t) v (isSt d (.str y t)) := by
  cases h with
  | non => cases r; exact SeqAt.EqAt.str_none y t
  | bl b => cases r; exact SeqAt.EqAt.str_bool y t b
  | int i => obtain ⟨u, rfl⟩ := r; exact SeqAt.EqAt.str_int y t i u
  | str z => obtain ⟨u, rfl⟩ := r; exact SeqAt.EqAt.str_str y t z u
  | lst hl _ =>
    cases r
    obtain ⟨its, rv, hh, _⟩ := I.list hl
    exact SeqAt.EqAt.str_list y t hh.isList hu
  | tup hl _ =>
    cases r
    obtain ⟨its, rv, hh, _⟩ := I.tuple hl
    exact SeqAt.EqAt.str_tuple y t (show s.heap.IsTuple _ its.toArray from hh) hu
in #guard_msgs in universe u_z
theorem strs_mem : ∀ {ss : List Str} {us : List Value}, Vals (ss.map V.str) us → ∀ u, u ∈ us → ∃ z t, u = Value.str z t
  | [], _, r, u, h => by
    cases r
    cases h
  | y :: ss, _, r, u, h => by
    cases r with
    | cons r1 rs =>
      obtain ⟨t, rfl⟩ := r1
      rcases List.mem_cons.1 h with rfl | h
      · exact ⟨y, t, rfl⟩
      · exact strs_mem rs u h
theorem any_isSt : ∀ {ss : List Str} {us : List Value}, Vals (ss.map V.str) us → us.any (isSt d) = inSt ss d
  | [], _, r => by
    cases r
    cases d <;> rfl
  | y :: ss, _, r => by
    cases r with
    | cons r1 rs =>
      obtain ⟨t, rfl⟩ := r1
      rw [List.any_cons, any_isSt rs]
      cases d <;> simp [isSt, inSt]
set_option Elab.async true in
theorem op_inS (hu : X.A.units + 64 < cLine) : OpR X (compareOp .In) (rInS X.K) := by
  intro pins s σ H x y v u Q I rx ry h
  obtain ⟨p, ss, d, rfl, hq, hd, q⟩ := h
  cases ry
  obtain ⟨its, r, pl, hz⟩ := I.tuple hq
  refine SeqAt.in_tupleAt (isSt d) pl (fun w hw => ?_) ⟨.bl _, H, I, rfl, ?_⟩
  · have hw2 : w ∈ its := by simpa using hw
    obtain ⟨z, t, rfl⟩ := strs_mem r w hw2
    exact isSt_eq I (show X.A.units + 1 < cLine by omega) hd rx
  · rw [show its.toArray.any (isSt d) = its.any (isSt d) by simp, any_isSt r]
    exact q
in #guard_msgs in universe u_z
theorem ko_inS (h : X.K = K) (hu : X.A.units + 64 < cLine) : OpR X (compareOp .In) (rInS K) := h ▸ op_inS hu
theorem r_inS {p : Addr} {ss : List Str} (hq : SqT K H p (ss.map V.str)) (hd : Dp K H v d) (q : Q (.bl (inSt ss d)) H) : rInS K v (.ref p) H Q := ⟨p, ss, d, rfl, hq, hd, q⟩
/-! all([..]) -/
theorem kc_all (h : X.K = K) (hc : X.calm = true) : CallR X (.builtin "all") (rAll K) := h ▸ cr_all hc
theorem r_all {a : Addr} {bs : List Bool} (q : SqL K H a (bs.map V.bl)) (h : Q (.bl (bs.all id)) H) : rAll K [.ref a] H Q := ⟨a, bs, rfl, q, h⟩
/-! a global that is a tuple of the module's top -/
def GT (K : PySem.W.Frag) (mg : Str → Option Value) (x : Str) (xs : List V) : Prop := ∃ a, mg x = some (.ref a) ∧ ∀ H, SqT K H a xs
def tGT (K : PySem.W.Frag) (xs : List V) : TE := fun _ H Q => ∀ a, SqT K H a xs → Q (.ref a) H
theorem pe_gt {x : Str} {xs : List V} {pos : Pos} (h : GT K X.mg x xs) (hg : Gl X x) (hd : (x == ("__debug__" : Str)) = false := by decide) : PE X (.Name x pos) (tGT K xs) :=
  ⟨fun _ _ _ H _ I q => let ⟨a, hm, ha⟩ := h; ld_glob I hg hm ⟨.ref a, H, I, rfl, q a (ha H)⟩ hd⟩
theorem w_gt {xs : List V} {σ : L2.St} (h : ∀ a, SqT K H a xs → Q (.ref a) H) : tGT K xs σ H Q := h
/-! x is True, of a bool -/
theorem r_isBb {b c : Bool} (h : Q (.bl (decide (b = c))) H) : rIsB (.bl b) (.bl c) H Q := ⟨c, rfl, by
  have e : decide (V.bl b = V.bl c) = decide (b = c) := by cases b <;> cases c <;> rfl
  rw [e]
  exact h⟩
theorem r_isBn {b : Bool} (h : Q (.bl false) H) : rIsB .non (.bl b) H Q := ⟨b, rfl, h⟩
theorem r_isBs {b : Bool} {x : Str} (h : Q (.bl false) H) : rIsB (.str x) (.bl b) H Q := ⟨b, rfl, h⟩
theorem r_isNb {b : Bool} (h : Q (.bl false) H) : rIsNo (.bl b) .non H Q := ⟨rfl, h⟩
theorem r_isNs {x : Str} (h : Q (.bl false) H) : rIsNo (.str x) .non H Q := ⟨rfl, h⟩
end
section
variable {X : Cx} {K : PySem.W.Frag} {H : Hp} {Q : VK} {D a : Addr} {oe : Obj}
/-- isinstance(e, (A, B, ..)), e the exception held -/
def rIsAT (K : PySem.W.Frag) (D a : Addr) : List V → Hp → VK → Prop := fun xs H Q => ∃ (tp : Addr) (cs : List V) (us : List Value) (b : Bool), xs = [.ref a, .ref tp] ∧ H tp = some (.tup cs) ∧ Paired ClsV cs us ∧ PySem.W.kitAny K (.ref D) us = some b ∧ Q (.bl b) H
set_option Elab.async true in
theorem kc_isAT (hK : X.K = K) (hp : (a, oe) ∈ X.pn) (hx : ExcC K D) (hc : oe.cls = .ref D) (hd : oe.dict = none) (hf : ∃ vs, oe.data = .fields vs) : CallR X (.builtin "isinstance") (rIsAT K D a) := by
  subst hK
  intro pins s σ H xs us Q I r h
  obtain ⟨tp, cs, ws, b, rfl, hT, k, e, q⟩ := h
  obtain ⟨u1, u2, rfl, r1, r2⟩ := vals2 r
  cases r1
  cases (show u2 = Value.ref tp from r2)
  have g := (I.pin (a, oe) (List.mem_append_left _ hp)).1
  have at_ : PySem.W.InstAt s.heap a oe D none := by
    obtain ⟨vs, hv⟩ := hf
    obtain ⟨oc, od, oda, osl⟩ := oe
    simp only at hc hd hv
    subst hc hd hv
    exact ⟨g, rfl, rfl, trivial⟩
  obtain ⟨_, its, rv, o, h1, h2, n, h3⟩ := (show ObjOk X.prog X.w H s.heap tp (.tup cs) from I.hok tp _ hT)
  have e3 := ClsV.all k rv
  subst e3
  obtain ⟨oc, od, dt, sl⟩ := o
  simp only at h2 h3
  subst h2 h3
  exact PySem.W.kia_tup (PySem.W.handS_kitx_exc hx.hg hx.hk hx.hs hx.hd hx.ha hx.hn hx.ht hx.hm) I.kIn at_ h1 e (fun z => nomatch z) fun tk => ⟨.bl b, H, I.tok tk, rfl, q⟩
in #guard_msgs in universe u_z
theorem r_isAT {tp : Addr} {cs : List V} {us : List Value} {b : Bool} (hT : H tp = some (.tup cs)) (k : Paired ClsV cs us) (e : PySem.W.kitAny K (.ref D) us = some b) (q : Q (.bl b) H) : rIsAT K D a [.ref a, .ref tp] H Q := ⟨tp, cs, us, b, rfl, hT, k, e, q⟩
theorem r_isA8 {tp : Addr} {c0 c1 c2 c3 c4 c5 c6 c7 : Addr} (hT : H tp = some (.tup [.ref c0, .ref c1, .ref c2, .ref c3, .ref c4, .ref c5, .ref c6, .ref c7])) (e0 : PySem.W.kitOne K (.ref D) (.ref c0) = some false) (e1 : PySem.W.kitOne K (.ref D) (.ref c1) = some false) (e2 : PySem.W.kitOne K (.ref D) (.ref c2) = some false) (e3 : PySem.W.kitOne K (.ref D) (.ref c3) = some false) (e4 : PySem.W.kitOne K (.ref D) (.ref c4) = some false) (e5 : PySem.W.kitOne K (.ref D) (.ref c5) = some false) (e6 : PySem.W.kitOne K (.ref D) (.ref c6) = some false) (e7 : PySem.W.kitOne K (.ref D) (.ref c7) = some false) (q : Q (.bl false) H) : rIsAT K D a [.ref a, .ref tp] H Q :=
  r_isAT (us := [.ref c0, .ref c1, .ref c2, .ref c3, .ref c4, .ref c5, .ref c6, .ref c7]) hT (.cons (.own _) (.cons (.own _) (.cons (.own _) (.cons (.own _) (.cons (.own _) (.cons (.own _) (.cons (.own _) (.cons (.own _) (.nil))))))))) (L2.kitAny_cons e0 (fun _ => L2.kitAny_cons e1 (fun _ => L2.kitAny_cons e2 (fun _ => L2.kitAny_cons e3 (fun _ => L2.kitAny_cons e4 (fun _ => L2.kitAny_cons e5 (fun _ => L2.kitAny_cons e6 (fun _ => L2.kitAny_cons e7 (fun _ => L2.kitAny_nil) (fun e => nomatch e)) (fun e => nomatch e)) (fun e => nomatch e)) (fun e => nomatch e)) (fun e => nomatch e)) (fun e => nomatch e)) (fun e => nomatch e)) (fun e => nomatch e)) q
theorem r_isA7 {tp : Addr} {c0 c1 c2 c3 c4 c5 c6 : Addr} (hT : H tp = some (.tup [.ref c0, .ref c1, .ref c2, .ref c3, .ref c4, .ref c5, .ref c6])) (e0 : PySem.W.kitOne K (.ref D) (.ref c0) = some false) (e1 : PySem.W.kitOne K (.ref D) (.ref c1) = some false) (e2 : PySem.W.kitOne K (.ref D) (.ref c2) = some false) (e3 : PySem.W.kitOne K (.ref D) (.ref c3) = some false) (e4 : PySem.W.kitOne K (.ref D) (.ref c4) = some false) (e5 : PySem.W.kitOne K (.ref D) (.ref c5) = some false) (e6 : PySem.W.kitOne K (.ref D) (.ref c6) = some false) (q : Q (.bl false) H) : rIsAT K D a [.ref a, .ref tp] H Q :=
  r_isAT (us := [.ref c0, .ref c1, .ref c2, .ref c3, .ref c4, .ref c5, .ref c6]) hT (.cons (.own _) (.cons (.own _) (.cons (.own _) (.cons (.own _) (.cons (.own _) (.cons (.own _) (.cons (.own _) (.nil)))))))) (L2.kitAny_cons e0 (fun _ => L2.kitAny_cons e1 (fun _ => L2.kitAny_cons e2 (fun _ => L2.kitAny_cons e3 (fun _ => L2.kitAny_cons e4 (fun _ => L2.kitAny_cons e5 (fun _ => L2.kitAny_cons e6 (fun _ => L2.kitAny_nil) (fun e => nomatch e)) (fun e => nomatch e)) (fun e => nomatch e)) (fun e => nomatch e)) (fun e => nomatch e)) (fun e => nomatch e)) (fun e => nomatch e)) q
end
end My
namespace My
open PySem L2
section
variable {K : PySem.W.Frag} {N : List Addr} {H H' : Hp} {v : V} {d : PyData} {Q : VK} {vs : List V} {ds : List PyData} {a : Addr}
set_option Elab.async true in
theorem Dp.tupC (h : Dp K H v d) : (∃ a xs ds, v = .ref a ∧ d = .tuple ds ∧ SqT K H a xs ∧ DpAll K H xs ds) ∨ (kitB (kdD d) "tuple" = some false ∧ ∀ ds, d ≠ .tuple ds) := by
  cases h with
  | tup q a => exact .inl ⟨_, _, _, rfl, rfl, q, a⟩
  | lst q a => exact .inr ⟨by dsimp only [kdD]; decide +kernel, fun _ e => nomatch e⟩
  | non => exact .inr ⟨by dsimp only [kdD]; decide +kernel, fun _ e => nomatch e⟩
  | bl b => exact .inr ⟨by dsimp only [kdD]; decide +kernel, fun _ e => nomatch e⟩
  | int i => exact .inr ⟨by dsimp only [kdD]; decide +kernel, fun _ e => nomatch e⟩
  | str x => exact .inr ⟨by dsimp only [kdD]; decide +kernel, fun _ e => nomatch e⟩
in #guard_msgs in universe u_z
set_option Elab.async true in
theorem Dp.strC (h : Dp K H v d) : (∃ x, v = .str x ∧ d = .str x) ∨ (kitB (kdD d) "str" = some false ∧ ∀ x, d ≠ .str x) := by
  cases h with
  | str x => exact .inl ⟨_, rfl, rfl⟩
  | tup q a => exact .inr ⟨by dsimp only [kdD]; decide +kernel, fun _ e => nomatch e⟩
  | lst q a => exact .inr ⟨by dsimp only [kdD]; decide +kernel, fun _ e => nomatch e⟩
  | non => exact .inr ⟨by dsimp only [kdD]; decide +kernel, fun _ e => nomatch e⟩
  | bl b => exact .inr ⟨by dsimp only [kdD]; decide +kernel, fun _ e => nomatch e⟩
  | int i => exact .inr ⟨by dsimp only [kdD]; decide +kernel, fun _ e => nomatch e⟩
in #guard_msgs in universe u_z
set_option Elab.async true in
theorem Dp.listC (h : Dp K H v d) : (∃ a xs ds, v = .ref a ∧ d = .list ds ∧ SqL K H a xs ∧ DpAll K H xs ds) ∨ (kitB (kdD d) "list" = some false ∧ ∀ ds, d ≠ .list ds) := by
  cases h with
  | lst q a => exact .inl ⟨_, _, _, rfl, rfl, q, a⟩
  | tup q a => exact .inr ⟨by dsimp only [kdD]; decide +kernel, fun _ e => nomatch e⟩
  | non => exact .inr ⟨by dsimp only [kdD]; decide +kernel, fun _ e => nomatch e⟩
  | bl b => exact .inr ⟨by dsimp only [kdD]; decide +kernel, fun _ e => nomatch e⟩
  | int i => exact .inr ⟨by dsimp only [kdD]; decide +kernel, fun _ e => nomatch e⟩
  | str x => exact .inr ⟨by dsimp only [kdD]; decide +kernel, fun _ e => nomatch e⟩
in #guard_msgs in universe u_z
theorem DpAll.getV : ∀ {vs : List V} {ds : List PyData} (_ : DpAll K H vs ds) {i : Nat} {x : V} (_ : vs[i]? = some x), ∃ d, ds[i]? = some d ∧ Dp K H x d
  | _, _, .nil, _, _, e => by simp at e
  | _, _, .cons a t, 0, _, e => by cases e; exact ⟨_, rfl, a⟩
  | _, _, .cons a t, i + 1, _, e => DpAll.getV t e
theorem DpAll.two (h : DpAll K H vs ds) (l : vs.length = 2) : ∃ x y d e, vs = [x, y] ∧ ds = [d, e] ∧ Dp K H x d ∧ Dp K H y e := by
  match vs, l with
  | [x, y], _ =>
    match ds, h with
    | [d, e], .cons a (.cons b .nil) => exact ⟨x, y, d, e, rfl, rfl, a, b⟩
theorem DpAll.three (h : DpAll K H vs ds) (l : vs.length = 3) : ∃ x y z d e f, vs = [x, y, z] ∧ ds = [d, e, f] ∧ Dp K H x d ∧ Dp K H y e ∧ Dp K H z f := by
  match vs, l with
  | [x, y, z], _ =>
    match ds, h with
    | [d, e, f], .cons a (.cons b (.cons c .nil)) => exact ⟨x, y, z, d, e, f, rfl, rfl, a, b, c⟩
theorem DpAll.head (h : DpAll K H vs ds) {n : Nat} (l : vs.length = n + 1) : ∃ x xs d es, vs = x :: xs ∧ ds = d :: es ∧ xs.length = n ∧ Dp K H x d ∧ DpAll K H xs es := by
  match vs, l with
  | x :: xs, l =>
    match ds, h with
    | d :: es, .cons a b => exact ⟨x, xs, d, es, rfl, rfl, by simpa using l, a, b⟩
theorem Same.at {o : HO} (e : Same H H') (h : H a = some o) : H' a = some o := e _ _ h
theorem len4 {α : Type} {xs : List α} (h : xs.length = 4) : ∃ a b c d, xs = [a, b, c, d] := by
  match xs, h with
  | [a, b, c, d], _ => exact ⟨a, b, c, d, rfl⟩
/-! what the tests tell -/
def IsR (d : PyData) : Prop := ∃ n m : Int, d = .tuple [.int n, .int m] ∧ 1 ≤ m ∧ Nat.gcd n.natAbs m.natAbs = 1
def IsV (d : PyData) : Prop := ∃ ds, d = .tuple ds ∧ ds.length = 3 ∧ ∀ x, x ∈ ds → IsR x
def IsC (d : PyData) : Prop := ∃ t ds, d = .tuple (t :: ds) ∧ ds.length = 4 ∧ (t = .str "pinhole" ∨ t = .str "straight") ∧ ∀ x, x ∈ ds → IsV x
theorem Same.nonB {a : Addr} (e : Same H H') (h : H' a = none) : H a = none := by
  cases hh : H a with
  | none => rfl
  | some o => rw [e _ _ hh] at h; cases h
/-- a list of answers, one an item -/
def BsD (R : PyData → Prop) (ds : List PyData) (acc : List V) : Prop := ∃ bs : List Bool, acc = bs.map V.bl ∧ Paired (fun (b : Bool) d => b = true ↔ R d) bs ds
theorem BsD.nil {R : PyData → Prop} : BsD R [] [] := ⟨[], rfl, .nil⟩
theorem paired_snoc {α β : Type} {R : α → β → Prop} {x : α} {y : β} (h : R x y) : ∀ {xs : List α} {ys : List β}, Paired R xs ys → Paired R (xs ++ [x]) (ys ++ [y])
  | _, _, .nil => .cons h .nil
  | _, _, .cons a t => .cons a (paired_snoc h t)
theorem BsD.snoc {R : PyData → Prop} {acc : List V} {i : Nat} {b : Bool} (h : BsD R (ds.take i) acc) (e : ds[i]? = some d) (hb : b = true ↔ R d) : BsD R (ds.take (i + 1)) (acc ++ [.bl b]) := by
  obtain ⟨bs, rfl, p⟩ := h
  refine ⟨bs ++ [b], by simp, ?_⟩
  rw [List.take_add_one, e]
  exact paired_snoc (R := fun (b : Bool) d => b = true ↔ R d) hb p
theorem paired_all {R : PyData → Prop} : ∀ {bs : List Bool} {ds : List PyData}, Paired (fun (b : Bool) d => b = true ↔ R d) bs ds → (bs.all id = true ↔ ∀ d, d ∈ ds → R d)
  | _, _, .nil => by simp
  | _, _, .cons a t => by
    rw [List.all_cons, Bool.and_eq_true, paired_all t]
    simp only [id_eq, a, List.mem_cons]
    constructor
    · rintro ⟨h1, h2⟩ d (rfl | hd)
      · exact h1
      · exact h2 d hd
    · exact fun h => ⟨h _ (.inl rfl), fun d hd => h d (.inr hd)⟩
theorem BsD.all {R : PyData → Prop} {acc : List V} (h : BsD R ds acc) : ∃ bs : List Bool, acc = bs.map V.bl ∧ (bs.all id = true ↔ ∀ d, d ∈ ds → R d) := by
  obtain ⟨bs, e, p⟩ := h
  exact ⟨bs, e, paired_all p⟩
/-- known shapes -/
theorem pe_q {n : Nat} (q : Rat) : Pe (n + 2) (qD q) := by
  refine ⟨(by decide : 2 ≤ 400), fun d hd => ?_⟩
  simp only [List.mem_cons, List.not_mem_nil, or_false] at hd
  rcases hd with rfl | rfl <;> exact trivial
theorem pe_v {n : Nat} (p : V3) : Pe (n + 3) (vD p) := by
  refine ⟨(by decide : 3 ≤ 400), fun d hd => ?_⟩
  simp only [List.mem_cons, List.not_mem_nil, or_false] at hd
  rcases hd with rfl | rfl | rfl <;> exact pe_q _
theorem pe_vv (p q : V3) : Pe 6 (.tuple [vD p, vD q]) := by
  refine ⟨(by decide : 2 ≤ 400), fun d hd => ?_⟩
  simp only [List.mem_cons, List.not_mem_nil, or_false] at hd
  rcases hd with rfl | rfl <;> exact pe_v (n := 2) _
theorem Vc.dn {p : V3} (h : Vc K H a p) : Dn K N H (.ref a) (vD p) := by
  obtain ⟨x, y, z, h1, h2, h3, h4⟩ := h
  exact .tup h1 (.cons (.tup h2 (.cons (.int _) (.cons (.int _) .nil))) (.cons (.tup h3 (.cons (.int _) (.cons (.int _) .nil))) (.cons (.tup h4 (.cons (.int _) (.cons (.int _) .nil))) .nil)))
theorem Pn.vc {p : V3} {n : Nat} (h : Vc K H a p) : Pn K N H (n + 3) (.ref a) := ⟨_, h.dn, pe_v p⟩
theorem Pn.add {l : Addr} {n : Nat} (hl : H l = none) (h : Pn K N H n v) : Pn K (l :: N) H n v := let ⟨d, x, y⟩ := h; ⟨d, x.add hl, y⟩
theorem PnA.add {l : Addr} {n m : Nat} (hl : H l = none) (h : PnA K N H n m vs) : PnA K (l :: N) H n m vs := let ⟨d, x, y⟩ := h; ⟨d, x.add hl, y⟩
theorem PnA.get {n m i : Nat} (h : PnA K N H n m vs) (e : vs[i]? = some v) : Pn K N H n v := let ⟨ds, x, y, _⟩ := h; let ⟨d, ed, dx⟩ := x.get e; ⟨d, dx, y d (List.mem_of_getElem? ed)⟩
theorem PnA.len {n m : Nat} (h : PnA K N H n m vs) : vs.length ≤ m := let ⟨_, _, _, l⟩ := h; l
theorem pd_q {n : Nat} {q : Rat} (h : BN 200 200 q) : Pd (n + 2) (qD q) := by
  refine ⟨(by decide : 2 ≤ 150), fun d hd => ?_⟩
  simp only [List.mem_cons, List.not_mem_nil, or_false] at hd
  rcases hd with rfl | rfl
  · exact h.n.le (by decide)
  · exact h.d.le (by decide)
theorem pd_v {n : Nat} {p : V3} (h : VN 200 200 p) : Pd (n + 3) (vD p) := by
  refine ⟨(by decide : 3 ≤ 150), fun d hd => ?_⟩
  simp only [List.mem_cons, List.not_mem_nil, or_false] at hd
  rcases hd with rfl | rfl | rfl
  · exact pd_q h.x
  · exact pd_q h.y
  · exact pd_q h.z
set_option Elab.async true in
theorem QtL.three {acc : List V} {x y z : Rat} (h : QtL K H acc [x, y, z]) : ∃ a b c : Addr, acc = [.ref a, .ref b, .ref c] ∧ SqT K H a [.int x.num, .int (x.den : Int)] ∧ SqT K H b [.int y.num, .int (y.den : Int)] ∧ SqT K H c [.int z.num, .int (z.den : Int)] := by
  unfold QtL at h
  cases h with
  | cons r1 h =>
    cases h with
    | cons r2 h =>
      cases h with
      | cons r3 h =>
        cases h
        obtain ⟨a, rfl, ha⟩ := r1
        obtain ⟨b, rfl, hb⟩ := r2
        obtain ⟨c, rfl, hc⟩ := r3
        exact ⟨a, b, c, rfl, ha, hb, hc⟩
in #guard_msgs in universe u_z
theorem eqv_v (p q : V3) : PyData.eqv (vD p) (vD q) = decide (p.x = q.x ∧ p.y = q.y ∧ p.z = q.z) := eqv_V _ _ _ _ _ _
theorem gatherL {H0 H1 : Hp} {l : Addr} {xs : List V} {n m : Nat} (_ : H1 l = some (.lst xs)) (np : H0 l = none) (s : Same H0 H1) (h : PnA K [] H0 n m xs) : PnA K [l] H1 n m xs := (PnA.add np h).same s
theorem r_appPn {l : Addr} {xs : List V} {y : V} {n m : Nat} (h : H l = some (.lst xs)) (hp : PnA K [l] H n m xs) (hy : Pn K [l] H n y) (hz : m < 100000)
    (q : ∀ H1 ys, TK K H H1 → H1 l = some (.lst ys) → PnA K [l] H1 n (m + 1) ys → Q .non H1) : rAppend (.ref l) [y] H Q :=
  r_app h (Nat.lt_of_le_of_lt hp.len hz) (q _ _ (TK.upd h) upd_same ((hp.snoc hy).upd (by simp) h))
theorem iff2 {b c : Bool} {R : Prop} (h : b = true ↔ R) (h2 : c = true ↔ R) : c = b := by
  cases b
  · cases c
    · rfl
    · exact absurd (h.2 (h2.1 rfl)) (by decide)
  · cases c
    · exact absurd (h2.2 (h.1 rfl)) (by decide)
    · rfl
end
end My

set_option Elab.async false
set_option linter.all false
set_option maxRecDepth 100000
/-! planes and conditions as data -/
namespace My
open PySem L2 PySem.Spec PyProof.Rows
section
variable {K : PySem.W.Frag} {N : List Addr} {H H' : Hp} {v : V} {d : PyData} {Q : VK} {vs : List V} {ds : List PyData} {a : Addr}
def IsI (d : PyData) : Prop := ∃ i : Int, d = .int i
def IsPlD (d : PyData) : Prop := ∃ a b c e : Int, d = .tuple [.int a, .int b, .int c, .int e] ∧ PlF a b c e
def IsCnD (d : PyData) : Prop := ∃ (p : PyData) (n : Int), d = .tuple [p, .int n] ∧ IsPlD p ∧ -2 ≤ n ∧ n ≤ 2
def IsCsD (d : PyData) : Prop := ∃ ds, d = .list ds ∧ ∀ x, x ∈ ds → IsCnD x
theorem DpAll.four (h : DpAll K H vs ds) (l : vs.length = 4) : ∃ x y z u d e f g, vs = [x, y, z, u] ∧ ds = [d, e, f, g] ∧ Dp K H x d ∧ Dp K H y e ∧ Dp K H z f ∧ Dp K H u g := by
  match vs, l with
  | [x, y, z, u], _ =>
    match ds, h with
    | [d, e, f, g], .cons a (.cons b (.cons c (.cons i .nil))) => exact ⟨x, y, z, u, d, e, f, g, rfl, rfl, a, b, c, i⟩
/-- a need and the side of a point -/
def Fits (n s : Int) : Prop := (n = 1 ∧ s = 1) ∨ (n = 2 ∧ (s = 1 ∨ s = 0)) ∨ (n = 0 ∧ s = 0) ∨ (n = -1 ∧ s = -1) ∨ (n = -2 ∧ (s = -1 ∨ s = 0))
/-- a condition: its plane's numbers and its need -/
structure Cd where
  a : Int
  b : Int
  c : Int
  d : Int
  n : Int
def Cd.ok (p : V3) (c : Cd) : Prop := Fits c.n (sg (pval c.a c.b c.c c.d p))
def Cd.cl (c : Cd) : Cd := ⟨c.a, c.b, c.c, c.d, if c.n = 1 ∨ c.n = -1 then 2 * c.n else c.n⟩
structure Cd.Good (c : Cd) : Prop where
  p : PlF c.a c.b c.c c.d
  n : -2 ≤ c.n ∧ c.n ≤ 2
  ba : B 1000 c.a
  bb : B 1000 c.b
  bc : B 1000 c.c
  bd : B 1000 c.d
/-- a value that is a condition -/
def CnV (K : PySem.W.Frag) (H : Hp) (v : V) (c : Cd) : Prop := ∃ t p : Addr, v = .ref t ∧ SqT K H t [.ref p, .int c.n] ∧ SqT K H p [.int c.a, .int c.b, .int c.c, .int c.d]
theorem CnV.tk {c : Cd} (e : TK K H H') (h : CnV K H v c) : CnV K H' v c := let ⟨t, p, e1, h1, h2⟩ := h; ⟨t, p, e1, e _ _ h1, e _ _ h2⟩
def CnA (K : PySem.W.Frag) (H : Hp) (acc : List V) (cs : List Cd) : Prop := Paired (fun v c => CnV K H v c ∧ c.Good) acc cs
theorem paired_map {α β : Type} {R S : α → β → Prop} (h : ∀ x y, R x y → S x y) : ∀ {xs : List α} {ys : List β}, Paired R xs ys → Paired S xs ys
  | _, _, .nil => .nil
  | _, _, .cons a t => .cons (h _ _ a) (paired_map h t)
theorem paired_get {α β : Type} {R : α → β → Prop} : ∀ {xs : List α} {ys : List β} (_ : Paired R xs ys) {i : Nat} {x : α} (_ : xs[i]? = some x), ∃ y, ys[i]? = some y ∧ R x y
  | _, _, .nil, _, _, e => by simp at e
  | _, _, .cons a t, 0, _, e => by cases e; exact ⟨_, rfl, a⟩
  | _, _, .cons a t, i + 1, _, e => paired_get t e
theorem paired_app {α β : Type} {R : α → β → Prop} {xs' : List α} {ys' : List β} (q : Paired R xs' ys') : ∀ {xs : List α} {ys : List β}, Paired R xs ys → Paired R (xs ++ xs') (ys ++ ys')
  | _, _, .nil => q
  | _, _, .cons a t => .cons a (paired_app q t)
theorem paired_drop {α β : Type} {R : α → β → Prop} (n : Nat) : ∀ {xs : List α} {ys : List β}, Paired R xs ys → Paired R (xs.drop n) (ys.drop n) := by
  induction n with
  | zero => exact fun h => h
  | succ n ih => exact fun h => match h with
    | .nil => .nil
    | .cons _ t => ih t
theorem paired_take {α β : Type} {R : α → β → Prop} (n : Nat) : ∀ {xs : List α} {ys : List β}, Paired R xs ys → Paired R (xs.take n) (ys.take n) := by
  induction n with
  | zero => exact fun _ => by simp only [List.take_zero]; exact .nil
  | succ n ih => exact fun h => match h with
    | .nil => .nil
    | .cons a t => .cons a (ih t)
theorem CnA.tk {acc : List V} {cs : List Cd} (e : TK K H H') (h : CnA K H acc cs) : CnA K H' acc cs := paired_map (fun _ _ h => ⟨h.1.tk e, h.2⟩) h
theorem CnA.len {acc : List V} {cs : List Cd} (h : CnA K H acc cs) : acc.length = cs.length := Paired.length h
theorem CnA.get {acc : List V} {cs : List Cd} (h : CnA K H acc cs) {i : Nat} {x : V} (e : acc[i]? = some x) : ∃ c, cs[i]? = some c ∧ CnV K H x c ∧ c.Good := paired_get h e
theorem CnA.snoc {acc : List V} {cs : List Cd} {c : Cd} (h : CnA K H acc cs) (r : CnV K H v c) (g : c.Good) : CnA K H (acc ++ [v]) (cs ++ [c]) := paired_snoc ⟨r, g⟩ h
theorem CnA.nil : CnA K H [] [] := PySem.Paired.nil
/-- a list of conditions -/
def CnL (K : PySem.W.Frag) (H : Hp) (l : Addr) (cs : List Cd) : Prop := ∃ acc, H l = some (.lst acc) ∧ CnA K H acc cs ∧ cs.length ≤ 300
theorem CnL.same {l : Addr} {cs : List Cd} (e : Same H H') (h : CnL K H l cs) : CnL K H' l cs := let ⟨acc, h1, h2, h3⟩ := h; ⟨acc, e _ _ h1, h2.tk (TK.same e), h3⟩
def cdD (c : Cd) : PyData := .tuple [.tuple [.int c.a, .int c.b, .int c.c, .int c.d], .int c.n]
theorem CnV.dn {c : Cd} (h : CnV K H v c) : Dn K N H v (cdD c) := by
  obtain ⟨t, p, rfl, h1, h2⟩ := h
  exact .tup h1 (.cons (.tup h2 (.cons (.int _) (.cons (.int _) (.cons (.int _) (.cons (.int _) .nil))))) (.cons (.int _) .nil))
theorem cnA_dn : ∀ {acc : List V} {cs : List Cd}, Paired (fun v c => CnV K H v c ∧ c.Good) acc cs → DnA K N H acc (cs.map cdD)
  | _, _, .nil => .nil
  | _, _, .cons a t => .cons a.1.dn (cnA_dn t)
theorem CnA.dn {acc : List V} {cs : List Cd} (h : CnA K H acc cs) : DnA K N H acc (cs.map cdD) := cnA_dn h
theorem CnL.dp {l : Addr} {cs : List Cd} (h : CnL K H l cs) : Dp K H (.ref l) (.list (cs.map cdD)) := let ⟨_, h1, h2, _⟩ := h; .lst (SqL.of h1) (DnA.dp (N := []) h2.dn)
end
section
variable {X : Cx} {K : PySem.W.Frag} {H : Hp} {Q : VK}
/-- an int in a written tuple of ints -/
def rInK (K : PySem.W.Frag) : R2 := fun x y H Q => ∃ (p : Addr) (ns : List Int) (i : Int), x = .int i ∧ y = .ref p ∧ SqT K H p (ns.map V.int) ∧ Q (.bl (decide (i ∈ ns))) H
theorem inV_int (i : Int) : ∀ ns : List Int, inV (.int i) (ns.map V.int) = decide (i ∈ ns)
  | [] => rfl
  | n :: ns => by
    have h := inV_int i ns
    unfold inV at h ⊢
    rw [List.map_cons, List.any_cons, h]
    show ((n == i) || decide (i ∈ ns)) = decide (i ∈ n :: ns)
    rw [Bool.beq_eq_decide_eq]
    simp [List.mem_cons, eq_comm]
theorem op_inK (hK : X.K = K) : OpR X (compareOp .In) (rInK K) := by
  subst hK
  intro pins s σ H x y v u Q I rx ry h
  obtain ⟨p, ns, i, rfl, rfl, hq, q⟩ := h
  refine op_in_seq pins s σ H _ _ v u Q I rx ry ⟨p, _, rfl, .inr hq, rfl, ?_, ?_⟩
  · rw [List.all_eq_true]
    intro z hz
    obtain ⟨n, _, rfl⟩ := List.mem_map.1 hz
    rfl
  · rw [inV_int]
    exact q
theorem r_inK {p : Addr} {ns : List Int} {i : Int} (h : SqT K H p (ns.map V.int)) (q : Q (.bl (decide (i ∈ ns))) H) : rInK K (.int i) (.ref p) H Q := ⟨p, ns, i, rfl, rfl, h, q⟩
theorem r_inK2 {p : Addr} {a b i : Int} (h : SqT K H p [.int a, .int b]) (q : Q (.bl (decide (i = a ∨ i = b))) H) : rInK K (.int i) (.ref p) H Q := by
  refine r_inK (ns := [a, b]) h ?_
  have e : decide (i ∈ [a, b]) = decide (i = a ∨ i = b) := by simp
  rw [e]
  exact q
set_option Elab.async true in
theorem VT.sgt {a b c d t m : Int} {p : V3} (h : VT a b c d p t m) : (0 < t ∧ My.sg (pval a b c d p) = 1) ∨ (t = 0 ∧ My.sg (pval a b c d p) = 0) ∨ (t < 0 ∧ My.sg (pval a b c d p) = -1) := by
  rcases Int.lt_trichotomy t 0 with q | q | q
  · exact .inr (.inr ⟨q, (h.sg (r := -1) (fun z => absurd z (by omega)) (fun _ => rfl) (fun z => absurd z (by omega))).symm⟩)
  · exact .inr (.inl ⟨q, (h.sg (r := 0) (fun z => absurd z (by omega)) (fun z => absurd z (by omega)) (fun _ => rfl)).symm⟩)
  · exact .inl ⟨q, (h.sg (r := 1) (fun _ => rfl) (fun z => absurd z (by omega)) (fun z => absurd z (by omega))).symm⟩
in #guard_msgs in universe u_z
theorem Cd.Good.cl {c : Cd} (h : c.Good) : c.cl.Good := by
  refine ⟨h.p, ?_, h.ba, h.bb, h.bc, h.bd⟩
  show -2 ≤ (if c.n = 1 ∨ c.n = -1 then 2 * c.n else c.n) ∧ (if c.n = 1 ∨ c.n = -1 then 2 * c.n else c.n) ≤ 2
  have := h.n
  by_cases q : c.n = 1 ∨ c.n = -1
  · rw [if_pos q]; omega
  · rw [if_neg q]; exact this
section
variable {σ : L2.St} {te : TE} {a : Addr} {xs : List V}
set_option Elab.async true in
/-- a comprehension over a list with any target -/
theorem lc_lstA {g : TG} {vs : List Nat} {Da : Addr} {Qd : Hp → Prop} (G : Hp → Prop) (J : Nat → List V → Hp → Prop) (h0 : G (upd H Da (.lst []))) (hj : J 0 [] (upd H Da (.lst [])))
    (hq : ∀ H1 acc, H1 Da = some (.lst acc) → G H1 → SqL K H1 a xs)
    (hs : ∀ i x acc H1, xs[i]? = some x → acc.length = i → H1 Da = some (.lst acc) → G H1 → J i acc H1 → g x (wipe σ vs) H1 fun σ2 H2 => wipe σ2 vs = wipe σ vs ∧ te σ2 H2 fun y H3 => lcQ Da G J i y H3)
    (hd : ∀ acc H1, acc.length = xs.length → H1 Da = some (.lst acc) → G H1 → J xs.length acc H1 → Qd H1) : lcT (Itl K a) g tYes te vs σ H Da Qd := by
  have z := L2.lc_list (K := K) (a := a) (xs := xs) (g := g) (tt := tYes) (te := te) (vs := vs) (σ := σ) (H1 := H) (D := Da) (Qd := Qd) (lcPv Da G J)
    ⟨[], rfl, upd_same, h0, hj⟩ (fun i H1 _ ⟨acc, _, hD, hG, _⟩ => hq H1 acc hD hG) (fun i x H1 hi ⟨acc, ha, hD, hG, hJ⟩ => hs i x acc H1 hi ha hD hG hJ) (fun H1 ⟨acc, ha, hD, hG, hJ⟩ => hd acc H1 ha hD hG hJ)
  exact z
in #guard_msgs in universe u_z
end
theorem hu_ofR {A : PySem.Around} {k : Nat} (hr : L2.Room k A) : A.units + 1 < PySem.cLine := by
  have := My.hu_of64 hr
  omega
theorem w_dget {td ty : TE} {σ : L2.St} (h : td σ H fun x H1 => ty σ H1 fun y H2 => ∃ a v, x = V.ref a ∧ DGet H2 a y (some v) ∧ Q v H2) : tDGet td ty σ H Q := h
theorem w_disp {trs : List (TE × TE)} {σ : L2.St} (h : ∀ p, H p = none → tPairs trs σ (L2.upd H p (.dK [])) fun ps H2 => H2 p = some (.dK []) ∧ ∃ kvs : List (Key × V), ps = kvs.map (fun kv => (kV kv.1, kv.2)) ∧ kvs.length ≤ 15 ∧ Q (.ref p) (L2.upd H2 p (.dK (mergeK [] kvs)))) : tDisp trs σ H Q := h
theorem w_pN {σ : L2.St} {R : List (V × V) → Hp → Prop} (h : R [] H) : tPairs [] σ H R := h
theorem w_pC {tk tv : TE} {r : List (TE × TE)} {σ : L2.St} {R : List (V × V) → Hp → Prop} (h : tk σ H fun x H1 => tv σ H1 fun y H2 => tPairs r σ H2 fun ps H3 => R ((x, y) :: ps) H3) : tPairs ((tk, tv) :: r) σ H R := h
set_option Elab.async true in
/-- what a closed need is -/
theorem due_at {p : Addr} {n : Int} (hn : -2 ≤ n ∧ n ≤ 2) {H2 : Hp} (h : H2 p = some (.dK (mergeK [] [((.inl (-2) : Key), V.int (-2)), (.inl (-1), .int (-2)), (.inl 0, .int 0), (.inl 1, .int 2), (.inl 2, .int 2)]))) :
    DGet H2 p (.int n) (some (.int (if n = 1 ∨ n = -1 then 2 * n else n))) := by
  have z := DGet.k (k := .inl n) h
  have e : valV (mergeK [] [((.inl (-2) : Key), V.int (-2)), (.inl (-1), .int (-2)), (.inl 0, .int 0), (.inl 1, .int 2), (.inl 2, .int 2)]) (.inl n) = some (.int (if n = 1 ∨ n = -1 then 2 * n else n)) := by
    obtain rfl | rfl | rfl | rfl | rfl : n = -2 ∨ n = -1 ∨ n = 0 ∨ n = 1 ∨ n = 2 := by omega
    all_goals decide +kernel
  rw [e] at z
  exact z
in #guard_msgs in universe u_z
theorem eqv_cd (c : Cd) : PyData.eqv (cdD c) (cdD c) = true := by simp [cdD, eqv_T, eqv_C, eqv_I, eqv_N]
theorem eqv_cds : ∀ cs : List Cd, PyData.eqvAll (cs.map cdD) (cs.map cdD) = true
  | [] => eqv_N
  | c :: cs => by
    rw [List.map_cons, eqv_C, eqv_cd, eqv_cds cs]
    rfl
theorem eqv_cl (cs : List Cd) : PyData.eqv (.list (cs.map cdD)) (.list (cs.map cdD)) = true := by rw [eqv_L]; exact eqv_cds cs
theorem lay_cds : ∀ cs : List Cd, PyData.canLayAll0 (cs.map cdD) = true
  | [] => by simp [PyData.canLayAll0]
  | c :: cs => by simp [PyData.canLayAll0, lay_cds cs, cdD, PyData.canLay0]
theorem depth_cd (c : Cd) : (cdD c).depth = 2 := by simp [cdD, PyData.depth, PyData.depthAll]
theorem depth_cds : ∀ cs : List Cd, PyData.depthAll (cs.map cdD) ≤ 2
  | [] => by simp [PyData.depthAll]
  | c :: cs => by
    have h1 := depth_cds cs
    have h2 := depth_cd c
    simp only [List.map_cons, PyData.depthAll]
    omega
theorem shaped_cds (cs : List Cd) : SeqAt.shaped (.list (cs.map cdD)) = true := by
  have h1 := depth_cds cs
  have h2 : PyData.depth (.list (cs.map cdD)) ≤ 64 := by
    simp only [PyData.depth]
    omega
  show (PyData.canLay0 (.list (cs.map cdD)) && decide (PyData.depth (.list (cs.map cdD)) ≤ 64)) = true
  rw [Bool.and_eq_true]
  exact ⟨by simp only [PyData.canLay0]; exact lay_cds cs, decide_eq_true h2⟩
set_option Elab.async true in
theorem CnL.pe {cs : List Cd} {n : Nat} (l : cs.length ≤ 300) : Pe (n + 4) (.list (cs.map cdD)) := by
  refine ⟨by simp; omega, fun d hd => ?_⟩
  obtain ⟨c, _, rfl⟩ := List.mem_map.1 hd
  refine ⟨(by decide : 2 ≤ 400), fun d hd => ?_⟩
  simp only [List.mem_cons, List.not_mem_nil, or_false] at hd
  rcases hd with rfl | rfl
  · refine ⟨(by decide : 4 ≤ 400), fun d hd => ?_⟩
    simp only [List.mem_cons, List.not_mem_nil, or_false] at hd
    rcases hd with rfl | rfl | rfl | rfl <;> trivial
  · trivial
in #guard_msgs in universe u_z
theorem isCs_cl {cs : List Cd} (g : ∀ c, c ∈ cs → c.Good) : IsCsD (.list (cs.map cdD)) := by
  refine ⟨_, rfl, fun d hd => ?_⟩
  obtain ⟨c, hc, rfl⟩ := List.mem_map.1 hd
  exact ⟨_, _, rfl, ⟨_, _, _, _, rfl, (g c hc).p⟩, (g c hc).n⟩
theorem paired_mem6 {α β : Type} {R : α → β → Prop} : ∀ {xs : List α} {ys : List β} (_ : Paired R xs ys) {y : β} (_ : y ∈ ys), ∃ x, R x y
  | _, _, .nil, _, h => by cases h
  | _, _, .cons a t, y, h => by
    rcases List.mem_cons.1 h with rfl | h
    · exact ⟨_, a⟩
    · exact paired_mem6 t h
theorem CnA.good {acc : List V} {cs : List Cd} (h : CnA K H acc cs) : ∀ c, c ∈ cs → c.Good := fun c hc => let ⟨_, q⟩ := paired_mem6 h hc; q.2
theorem paired_mem1 {α β : Type} {R : α → β → Prop} : ∀ {xs : List α} {ys : List β} (_ : Paired R xs ys) {x : α} (_ : x ∈ xs), ∃ y, R x y
  | _, _, .nil, _, h => by cases h
  | _, _, .cons a t, x, h => by
    rcases List.mem_cons.1 h with rfl | h
    · exact ⟨_, a⟩
    · exact paired_mem1 t h
theorem CnA.notS {acc : List V} {cs : List Cd} (h : CnA K H acc cs) : notS acc = true := by
  have q : ∀ x, x ∈ acc → ∃ t : Addr, x = .ref t := fun x hx => let ⟨_, ⟨t, _, e, _⟩, _⟩ := paired_mem1 h hx; ⟨t, e⟩
  unfold My.notS
  split
  · obtain ⟨t, e⟩ := q _ (List.mem_cons_of_mem _ List.mem_cons_self)
    cases e
  · rfl
theorem CnL.fr {st l : Addr} {H' : Hp} {cs : List Cd} (e : Fr st H H') (hs : My.St K H st) (h : CnL K H l cs) : CnL K H' l cs := let ⟨acc, h1, h2, h3⟩ := h; ⟨acc, e.keep _ _ (st_ne hs h1 h2.notS) h1, h2.tk (TK.fr e hs), h3⟩
theorem fits_cl {n s : Int} (h : Fits n s) : Fits (if n = 1 ∨ n = -1 then 2 * n else n) s := by
  unfold Fits at *
  by_cases q : n = 1 ∨ n = -1
  · rw [if_pos q]; omega
  · rw [if_neg q]; exact h
theorem ok_cl {c : Cd} {p : V3} (h : c.ok p) : c.cl.ok p := fits_cl h
theorem w_due {σ : L2.St} (h : ∀ p H1, Same H H1 → H1 p = some (.dK (mergeK [] [((.inl (-2) : Key), V.int (-2)), (.inl (-1), .int (-2)), (.inl 0, .int 0), (.inl 1, .int 2), (.inl 2, .int 2)])) → Q (.ref p) H1) :
    tDisp [(tUn (rU fun i => V.int (-i)) (tC (V.int 2)), tUn (rU fun i => V.int (-i)) (tC (V.int 2))), (tUn (rU fun i => V.int (-i)) (tC (V.int 1)), tUn (rU fun i => V.int (-i)) (tC (V.int 2))), (tC (V.int 0), tC (V.int 0)), (tC (V.int 1), tC (V.int 2)), (tC (V.int 2), tC (V.int 2))] σ H Q :=
  fun p np => ⟨2, rfl, 2, rfl, 1, rfl, 2, rfl, upd_same, _, rfl, by decide, h p _ (Same.mut (Same.new np) np) upd_same⟩
/-! answers, one an item -/
def BsG {α : Type} (R : α → Prop) (cs : List α) (bs : List Bool) : Prop := Paired (fun (b : Bool) c => b = true ↔ R c) bs cs
theorem BsG.nil {α : Type} {R : α → Prop} : BsG R [] [] := PySem.Paired.nil
theorem BsG.snoc {α : Type} {R : α → Prop} {cs : List α} {bs : List Bool} {i : Nat} {b : Bool} {c : α} (h : BsG R (cs.take i) bs) (e : cs[i]? = some c) (hb : b = true ↔ R c) : BsG R (cs.take (i + 1)) (bs ++ [b]) := by
  unfold BsG at *
  rw [List.take_add_one, e]
  exact paired_snoc (R := fun (b : Bool) c => b = true ↔ R c) hb h
theorem pairedG_all {α : Type} {R : α → Prop} : ∀ {bs : List Bool} {cs : List α}, Paired (fun (b : Bool) c => b = true ↔ R c) bs cs → (bs.all id = true ↔ ∀ c, c ∈ cs → R c)
  | _, _, .nil => by simp
  | _, _, .cons a t => by
    rw [List.all_cons, Bool.and_eq_true, pairedG_all t]
    simp only [id_eq, a, List.mem_cons]
    constructor
    · rintro ⟨h1, h2⟩ d (rfl | hd)
      · exact h1
      · exact h2 d hd
    · exact fun h => ⟨h _ (.inl rfl), fun d hd => h d (.inr hd)⟩
theorem BsG.all {α : Type} {R : α → Prop} {cs : List α} {bs : List Bool} (h : BsG R cs bs) : bs.all id = true ↔ ∀ c, c ∈ cs → R c := pairedG_all h
theorem BsG.get {α : Type} {R : α → Prop} {cs : List α} {bs : List Bool} (h : BsG R cs bs) {i : Nat} {b : Bool} (e : bs[i]? = some b) : ∃ c, cs[i]? = some c ∧ (b = true ↔ R c) := paired_get h e
theorem BsG.len {α : Type} {R : α → Prop} {cs : List α} {bs : List Bool} (h : BsG R cs bs) : bs.length = cs.length := Paired.length h
theorem inV_false : ∀ bs : List Bool, (!inV (.bl false) (bs.map V.bl)) = bs.all id
  | [] => rfl
  | b :: bs => by
    have h := inV_false bs
    unfold inV at h ⊢
    rw [List.map_cons, List.any_cons, Bool.not_or, h, List.all_cons]
    cases b <;> rfl
end
section
variable {X : Cx} {K : PySem.W.Frag} {H : Hp} {Q : VK}
theorem ko_notIn (h : X.K = K) : OpR X (compareOp .NotIn) (rIn K true) := h ▸ op_notIn_seq
theorem r_niB {p : Addr} {bs : List Bool} (h : SqL K H p (bs.map V.bl)) (q : Q (.bl (bs.all id)) H) : rIn K true (.bl false) (.ref p) H Q := by
  refine ⟨p, _, rfl, .inl h, rfl, ?_, ?_⟩
  · rw [List.all_eq_true]
    intro z hz
    obtain ⟨n, _, rfl⟩ := List.mem_map.1 hz
    rfl
  · show Q (.bl (!inV (.bl false) (bs.map V.bl))) H
    rw [inV_false]
    exact q
set_option Elab.async true in
theorem sgB (t : Int) : B 4 ((if decide (0 < t) = true then (1 : Int) else 0) - (if decide (t < 0) = true then (1 : Int) else 0)) ∧ -1 ≤ ((if decide (0 < t) = true then (1 : Int) else 0) - (if decide (t < 0) = true then (1 : Int) else 0)) ∧ ((if decide (0 < t) = true then (1 : Int) else 0) - (if decide (t < 0) = true then (1 : Int) else 0)) ≤ 1 := by
  have h : -1 ≤ ((if decide (0 < t) = true then (1 : Int) else 0) - (if decide (t < 0) = true then (1 : Int) else 0)) ∧ ((if decide (0 < t) = true then (1 : Int) else 0) - (if decide (t < 0) = true then (1 : Int) else 0)) ≤ 1 := by
    by_cases h1 : 0 < t
    · rw [if_pos (decide_eq_true h1), if_neg (by rw [decide_eq_false (by omega)]; decide)]
      decide
    · rw [if_neg (by rw [decide_eq_false h1]; decide)]
      by_cases h2 : t < 0
      · rw [if_pos (decide_eq_true h2)]; decide
      · rw [if_neg (by rw [decide_eq_false h2]; decide)]; decide
  exact ⟨B.rng (by omega) (by omega), h⟩
in #guard_msgs in universe u_z
theorem CnA.lst {H H' : Hp} {st D : Addr} {acc : List V} {cs : List Cd} (J : CnA K H acc cs) (f : Fr st H H') (hs : My.St K H st) (h : H D = some (.lst acc)) : H' D = some (.lst acc) := f.keep _ _ (st_ne hs h J.notS) h
theorem r_appS {l : Addr} {xs : List V} {y : V} (h : H l = some (.lst xs)) (hz : xs.length < 100000)
    (q : ∀ H1, (∀ H0, H0 l = none → Same H0 H → Same H0 H1) → (∀ a o, a ≠ l → H a = some o → H1 a = some o) → TK K H H1 → H1 l = some (.lst (xs ++ [y])) → Q .non H1) : rAppend (.ref l) [y] H Q :=
  r_app h hz (q _ (fun _ n s => Same.mut s n) (fun _ _ n e => (upd_ne n).trans e) (TK.upd h) upd_same)
theorem cl_cl {c : Cd} (h : -2 ≤ c.n ∧ c.n ≤ 2) : c.cl.cl = c.cl := by
  unfold Cd.cl
  dsimp only
  congr 1
  by_cases q : c.n = 1 ∨ c.n = -1
  · rw [if_pos q, if_neg (by omega)]
  · rw [if_neg q, if_neg q]
theorem cl_cls : ∀ {cs : List Cd}, (∀ c, c ∈ cs → c.Good) → (cs.map Cd.cl).map Cd.cl = cs.map Cd.cl
  | [], _ => rfl
  | c :: cs, h => by
    rw [List.map_cons, List.map_cons, cl_cl (h c List.mem_cons_self).n, cl_cls fun x hx => h x (List.mem_cons_of_mem _ hx)]
theorem CnA.app {acc acc' : List V} {cs cs' : List Cd} (h : CnA K H acc cs) (h' : CnA K H acc' cs') : CnA K H (acc ++ acc') (cs ++ cs') := paired_app h' h
theorem CnA.drop {acc : List V} {cs : List Cd} (h : CnA K H acc cs) (n : Nat) : CnA K H (acc.drop n) (cs.drop n) := paired_drop n h
theorem CnA.take {acc : List V} {cs : List Cd} (h : CnA K H acc cs) (n : Nat) : CnA K H (acc.take n) (cs.take n) := paired_take n h
theorem Pn.fr {st : Addr} {H' : Hp} {N : List Addr} {v : V} {n : Nat} (e : Fr st H H') (hs : My.St K H st) (hN : st ∈ N) (h : Pn K N H n v) : Pn K N H' n v := let ⟨d, x, y⟩ := h; ⟨d, x.fr e hs hN, y⟩
set_option Elab.async true in
theorem pd_cds {cs : List Cd} (g : ∀ c, c ∈ cs → c.Good) (l : cs.length ≤ 150) {n : Nat} : Pd (n + 4) (.list (cs.map cdD)) := by
  refine ⟨by simpa using l, fun d hd => ?_⟩
  obtain ⟨c, hc, rfl⟩ := List.mem_map.1 hd
  refine ⟨(by decide : 2 ≤ 150), fun d hd => ?_⟩
  simp only [List.mem_cons, List.not_mem_nil, or_false] at hd
  rcases hd with rfl | rfl
  · refine ⟨(by decide : 4 ≤ 150), fun d hd => ?_⟩
    simp only [List.mem_cons, List.not_mem_nil, or_false] at hd
    rcases hd with rfl | rfl | rfl | rfl
    · exact (g c hc).ba.le (by decide)
    · exact (g c hc).bb.le (by decide)
    · exact (g c hc).bc.le (by decide)
    · exact (g c hc).bd.le (by decide)
  · have := (g c hc).n
    exact B.rng (by omega) (by omega)
in #guard_msgs in universe u_z
theorem CnA.rep {v : V} {c : Cd} (h : CnV K H v c) (g : c.Good) : ∀ n : Nat, CnA K H (List.replicate n [v]).flatten (List.replicate n c)
  | 0 => CnA.nil
  | n + 1 => by
    rw [List.replicate_succ, List.replicate_succ, List.flatten_cons]
    exact PySem.Paired.cons ⟨h, g⟩ (CnA.rep h g n)
theorem r_repB {l : Addr} {k : Int} {xs : List V} (h : H l = some (.lst xs)) (h1 : 0 ≤ k) (h2 : k ≤ 1000) (hz : xs.length ≤ 100) (q : ∀ p H1, H p = none → Same H H1 → H1 p = some (.lst (List.replicate k.toNat xs).flatten) → Q (.ref p) H1) : rRep (.ref l) (.int k) H Q := by
  refine ⟨l, k, xs, rfl, rfl, h, by omega, by omega, ?_, fun p np => q p _ np (Same.new np) upd_same⟩
  have : xs.length * k.toNat ≤ 100 * 1000 := Nat.mul_le_mul hz (by omega)
  exact Nat.le_trans this (by decide)
theorem CnA.cut {acc : List V} {cs : List Cd} (h : CnA K H acc cs) (lo hi : Option Int) : ∃ cs', CnA K H (cutV acc lo hi) cs' ∧ cs'.length ≤ cs.length := by
  refine ⟨_, (h.drop _).take _, ?_⟩
  rw [List.length_take, List.length_drop]
  omega
theorem CnA.dnL {H H' : Hp} {acc : List V} {cs : List Cd} {st l : Addr} (h : CnA K H acc cs) (s : Same H H') (hl : H' l = some (.lst acc)) (n : H l = none) (hs : My.St K H st) : Dn K [st] H' (.ref l) (.list (cs.map cdD)) :=
  .lst (Al.new (Al.st hs) n) hl ((h.tk (TK.same s)).dn)
theorem CnV.pe {c : Cd} {n : Nat} : Pe (n + 3) (cdD c) := by
  refine ⟨(by decide : 2 ≤ 400), fun d hd => ?_⟩
  simp only [List.mem_cons, List.not_mem_nil, or_false] at hd
  rcases hd with rfl | rfl
  · refine ⟨(by decide : 4 ≤ 400), fun d hd => ?_⟩
    simp only [List.mem_cons, List.not_mem_nil, or_false] at hd
    rcases hd with rfl | rfl | rfl | rfl <;> trivial
  · trivial
theorem plI {ds : List PyData} (h : IsPlD (.tuple ds)) : ∀ x, x ∈ ds → IsI x := by
  obtain ⟨a, b, c, e, z, _⟩ := h
  cases z
  intro x hx
  simp only [List.mem_cons, List.not_mem_nil, or_false] at hx
  rcases hx with rfl | rfl | rfl | rfl <;> exact ⟨_, rfl⟩
theorem gl_snoc (ns : List Int) (n : Int) : gl (ns ++ [n]) = Nat.gcd (gl ns) n.natAbs := by simp [gl, List.foldl_append]
theorem map_snoc {ns : List Int} {ds : List PyData} {n : Int} (h : ds ++ [.int n] = ns.map PyData.int) : ∃ ms, ns = ms ++ [n] ∧ ds = ms.map PyData.int := by
  obtain ⟨a, b, rfl, ha, hb⟩ := List.map_eq_append_iff.1 h.symm
  obtain ⟨m, b', rfl, hm, hb'⟩ := List.map_eq_cons_iff.1 hb
  rw [List.map_eq_nil_iff.1 hb']
  cases hm
  exact ⟨a, rfl, ha.symm⟩
end
end My

set_option Elab.async false
set_option maxRecDepth 100000
namespace My
open PySem L2 StX
variable {X : Cx} {K : PySem.W.Frag} {H H' : Hp} {Q : VK}
section
variable {x : Str} {p sp_ pos : Pos} {e : Expr} {es : List Expr} {t : TA} {te : TE} {k : Nat} {ps : List Str} {sp : Sp}
set_option Elab.async true in
theorem Cal.fnR {P : Program} {w : World} {mg : Str → Option Value} {base : Heap} (C : Cal P w K mg base x k ps sp) :
    ∃ f, FnR P w K mg base CX0 k f sp ∧ mg x = some (.ref f) ∧ PySem.W.keepIn K (.ref f) = true := by
  obtain ⟨f, fd, F, hm, hk, hb⟩ := C.ex
  refine ⟨f, fun A outer s H us vs Q E hr I hv hsp => ?_, hm, hk⟩
  refine F.run A outer s H _ us vs Q E hr I ?_ hv hsp
  have hl : us.length = ps.length := by
    rw [← F.len vs H Q E hsp]
    exact (Paired.length hv).symm
  have h := hb s us (fun a o e => (I.bs a o (I.mod.kin a o e)).1) (by simpa using hl)
  rwa [List.append_nil] at h
in #guard_msgs in universe u_z
set_option Elab.async true in
/-- f(*t) -/
theorem pcT (C : Cal X.prog X.w X.K X.mg X.base x k ps sp) (hK : X.K = K) (hr : Room k X.A) (hg : Gl X x) (he : PE X e te) (hdb : (x == ("__debug__" : Str)) = false := by decide)
    (hs : starEach [e.Starred sp_] X.env = [(true, eval e X.env)] := by rfl) :
    PE X (.Call (.Name x p) [.Starred e sp_] [] pos) (fun σ H Q => te σ H fun y H1 => ∃ a xs, y = V.ref a ∧ (SqT K H1 a xs ∨ SqL K H1 a xs) ∧ sp xs H1 Q E0) := by
  obtain ⟨f, F, hm, hk⟩ := C.fnR
  subst hK
  exact pe_callS1 F hr hk hg hm pass0 he hdb hs
in #guard_msgs in universe u_z
end
/-! texts: an item, a product, a join -/
def rIxC : R2 := fun x y H Q => ∃ (z : Str) (i : Int) (c : Nat), x = .str z ∧ y = .int i ∧ z.length ≤ sizeLine ∧ atI z.cps.toList i = some c ∧ Q (.str ⟨#[c]⟩) H
theorem kx_chr : IxR X rIxC := fun pins s σ H x y v u Q I rx ry h => ix_str pins s σ H x y v u Q I rx ry h
theorem r_ixCh {z : Str} {i : Int} {n : Nat} (hn : z.cps.toList.length = n) (h0 : 0 ≤ i) (h1 : i < n) (hz : n ≤ 100000) (q : ∀ c, Q (.str ⟨#[c]⟩) H) : rIxC (.str z) (.int i) H Q := by
  subst hn
  obtain ⟨j, rfl⟩ : ∃ j : Nat, i = j := ⟨i.toNat, by omega⟩
  have hl : j < z.cps.toList.length := by omega
  refine ⟨z, j, z.cps.toList[j], rfl, rfl, Nat.le_trans (by simpa [Str.length] using hz) (by decide), ?_, q _⟩
  rw [atI_nat]
  simp only [List.getElem?_eq_getElem hl]
theorem r_catXn {i j : Str} {n : Nat} (h : i.length + j.length ≤ 100000) (hn : (i ++ j).cps.toList.length = n) (q : ∀ z : Str, z.cps.toList.length = n → Q (.str z) H) : rCatX (.str i) (.str j) H Q := r_catX h (q _ hn)
def rMulS : R2 := fun x y H Q => ∃ (a : Str) (n : Int), x = .str a ∧ y = .int n ∧ MulOk a n ∧ Q (.str (Txt.mul a n)) H
theorem ko_mulS : OpR X (binaryOp .Mult) rMulS := by
  intro pins s σ H x y v u Q I rx ry h
  obtain ⟨a, n, rfl, rfl, ok, q⟩ := h
  obtain ⟨t, rfl⟩ := rx
  obtain ⟨t', rfl⟩ := ry
  exact SB.mul ok fun t' k => ⟨.str (Txt.mul a n), H, I.tok k, ⟨_, rfl⟩, q⟩
theorem mulOk1 {c : Nat} {n : Int} (h0 : 0 ≤ n) (h1 : n ≤ 6) : MulOk ⟨#[c]⟩ n := by
  have : n = 0 ∨ n = 1 ∨ n = 2 ∨ n = 3 ∨ n = 4 ∨ n = 5 ∨ n = 6 := by omega
  have e : Str.length ⟨#[c]⟩ = 1 := rfl
  rcases this with rfl | rfl | rfl | rfl | rfl | rfl | rfl <;> (unfold MulOk; rw [e]; decide)
theorem r_mulS {c : Nat} {n : Int} (h0 : 0 ≤ n) (h1 : n ≤ 6) (q : ∀ x, Q (.str x) H) : rMulS (.str ⟨#[c]⟩) (.int n) H Q := ⟨_, n, rfl, rfl, mulOk1 h0 h1, q _⟩
def rJoin (K : PySem.W.Frag) : V → List V → Hp → VK → Prop := fun x xs H Q => ∃ a p, ∃ ys : List Str, x = .str a ∧ xs = [.ref p] ∧ (SqL K H p (ys.map V.str) ∨ SqT K H p (ys.map V.str)) ∧ (ys.map (·.length)).sum + ys.length * a.length ≤ 16777216 ∧ Q (.str (Txt.join a ys)) H
theorem kj_join {o e : Expr} {to te : TE} {apos pos : Pos} (hK : X.K = K) (ho : PE X o to) (he : PE X e te) (hs : starEach [e] X.env = [(false, eval e X.env)] := by rfl) (hb : attributeBase o "join" X.env (eval o X.env) = eval o X.env := by rfl) (hl : (apos.endLine == pos.line) = true := by rfl) :
    PE X (.Call (.Attribute o "join" apos) [e] [] pos) (tM1 (rJoin K) to te) := by
  subst hK
  exact pe_join ho he hs hb hl
def joP (K : PySem.W.Frag) (x : V) (y : V) (H : Hp) (Q : VK) : Prop := rJoin K x [y] H Q
theorem w_join {to te : TE} {σ : L2.St} (h : to σ H fun x H1 => (∃ a, x = .str a) ∧ te σ H1 fun y H2 => joP K x y H2 Q) : tM1 (rJoin K) to te σ H Q := h
theorem r_join {a : Str} {p : Addr} {ys : List Str} (h : SqL K H p (ys.map V.str)) (hn : (ys.map (·.length)).sum + ys.length * a.length ≤ 16777216) (q : ∀ x, Q (.str x) H) : joP K (.str a) (.ref p) H Q := ⟨a, p, ys, rfl, rfl, .inl h, hn, q _⟩
end My

set_option Elab.async false
set_option maxRecDepth 100000
/-! defs that call repr: the guards are known to be none -/
namespace My
open PySem L2
section
structure FnG (P : Program) (w : World) (K : PySem.W.Frag) (mg : Str → Option Value) (base : Heap) (k : Nat) (f : Addr) (fd : FuncData) (ps : List Str) (sp : Sp) : Prop where
  len : ∀ vs H Q E, sp vs H Q E → vs.length = ps.length
  run : ∀ (A : Around) (outer : List Env) (s : Shared) (H : Hp) (args : Args) (us : List Value) (vs : List V) (Q : VK) (E : XK), A.guards = some [] → Room k A → Env0 P w K mg base A outer s H →
    BindsTo s fd args (ps.zip us) → Vals vs us → sp vs H Q E → codeAny (model P w) A (.call (.ref f) args) (CR CX0 outer P w H s Q E) s
structure CalG (P : Program) (w : World) (K : PySem.W.Frag) (mg : Str → Option Value) (base : Heap) (x : Str) (k : Nat) (ps : List Str) (sp : Sp) : Prop where
  ex : ∃ (f : Addr) (fd : FuncData), FnG P w K mg base k f fd ps sp ∧ mg x = some (.ref f) ∧ PySem.W.keepIn K (.ref f) = true ∧ Binds K fd ps []
variable {P : Program} {w : World} {K : PySem.W.Frag} {mg : Str → Option Value} {base : Heap}
set_option Elab.async true in
theorem FunA.okG {x qual : Str} {st : Stmt} {f : Addr} {fd : FuncData} {N ps : List Str} {k : Nat} {sp : Sp} (F : FunA K x qual st f fd) (S : FnScope N ps (defScope st)) (len : ∀ vs H Q E, sp vs H Q E → vs.length = ps.length)
    (hbody : ∀ (cdv : Value) (A : Around) (outer : List Env) (s : Shared) (H : Hp) (vs : List V) (Q : VK) (E : XK), A.guards = some [] → Room k (A.deeper (PyProof.Rows.envOfC qual (defScope st) s.heap.objs.size f cdv)) → sp vs H Q E →
      ∃ t, PSs (cxOf CX0 P w K mg base N qual (defScope st) f cdv A outer s H E).nox (defBody st) t ∧ t { nx := fun _ H' => Q .non H', rt := Q } (L2.start N vs) H) : FnG P w K mg base (k + 1) f fd ps sp := by
  obtain ⟨oc, od, dV, kV, doc, pm, an, cdv, ct, osl, rfl, lk, hcd⟩ := F.ex
  refine ⟨len, fun A outer s H args us vs Q E hG hr I hb hv hsp => ?_⟩
  refine LamX.run_ofS lk hcd S hr I hb hv (len vs H Q E hsp) (fun hr2 => ?_)
  obtain ⟨t, h, q⟩ := hbody cdv A outer s H vs Q E hG hr2 hsp
  exact ⟨t, h.nox, q⟩
in #guard_msgs in universe u_z
end
section
variable {X : Cx} {x : Str} {p pos : Pos} {e : Expr} {es : List Expr} {t : TA} {k : Nat} {ps : List Str} {sp : Sp}
set_option Elab.async true in
theorem pcG (C : CalG X.prog X.w X.K X.mg X.base x k ps sp) (hG : X.A.guards = some []) (hr : Room k X.A) (hg : Gl X x) (ha : PA X (e :: es) t) (hdb : (x == ("__debug__" : Str)) = false := by decide)
    (he : starEach (e :: es) X.env = (false, eval e X.env) :: starEach es X.env := by rfl) (hpl : (backTo pos (starEach es X.env)).any (·.1) = false := by rfl) :
    PE X (.Call (.Name x p) (e :: es) [] pos) (tCall sp [] E0 t) := by
  obtain ⟨f, fd, F, hm, hk, hb⟩ := C.ex
  refine ⟨fun pins s σ H Q I h => wpAny_Call_Name_kw (ld_glob I hg hm ?_ hdb)⟩
  refine PySem.W.callWith_K (h₀ := X.base) I.ok.mod.kin hk (thn (ha.run pos pins s σ H _ I h) fun us s1 ⟨vs, H1, I1, rv, q⟩ => ⟨I1.kIn, ?_⟩) he hpl
  have q' : sp vs H1 Q E0 := by
    have q2 : sp (vs ++ []) H1 Q E0 := q
    rw [List.append_nil] at q2
    exact q2
  have b := hb s1 us I1.kIn (by rw [List.append_nil, ← F.len _ _ _ _ q']; exact (Paired.length rv).symm)
  rw [List.append_nil] at b
  refine wpAny_call (codeAny_mono (F.run X.A X.stack s1 H1 ⟨us, []⟩ us vs Q E0 hG hr I1.env0 b rv q') (fun r s' hq => ?_))
  cases r with
  | error er => exact pass0 pins σ H1 s1 er s' I1 hq
  | ok fl =>
    cases fl with
    | ret u => exact I1.after hq
    | next => exact False.elim hq
    | brk => exact False.elim hq
    | cont => exact False.elim hq
in #guard_msgs in universe u_z
/-- repr of plain data -/
def rRepr (K : PySem.W.Frag) : List V → Hp → VK → Prop := fun xs H Q => ∃ (a : Addr) (d : PyData), xs = [.ref a] ∧ Dp K H (.ref a) d ∧ d.showable = true ∧ d.hasDict = false ∧ d.depth + 2 ≤ 60 ∧ d.shown.length ≤ sizeLine ∧ Q (.str d.shown) H
set_option Elab.async true in
theorem kc_repr {K : PySem.W.Frag} (hK : X.K = K) (hG : X.A.guards = some []) (hu : X.A.units + 64 < cLine) : CallR X (.builtin "repr") (rRepr K) := by
  subst hK
  intro pins s σ H xs us Q I r h
  obtain ⟨a, d, rfl, hd, hs, hn, hdp, hl, q⟩ := h
  obtain ⟨u1, rfl, r1⟩ : ∃ u1, us = [u1] ∧ RelV (.ref a) u1 := by
    cases r with
    | cons r1 r2 => cases r2; exact ⟨_, rfl, r1⟩
  cases r1
  obtain ⟨as, rd⟩ := Dp.reads I d (.ref a) (.ref a) hd rfl
  refine repr_of_reads' rd hs (fun z => by rw [hn] at z; cases z) hG (by omega) (fun _ _ h => h) (fun h' u tk keep => ⟨.str d.shown, H, I.kept keep, ⟨_, rfl⟩, q⟩) hl
in #guard_msgs in universe u_z
end
/-- data whose repr is told: depth, bulk -/
structure Rp (n m : Nat) (d : PyData) : Prop where
  sh : d.showable = true
  nd : d.hasDict = false
  dp : d.depth ≤ n
  ls : PyData.leavesShort 1921 d = true
  bk : d.bulk ≤ m
structure RpA (n m : Nat) (ds : List PyData) : Prop where
  sh : PyData.showableAll ds = true
  nd : PyData.hasDictAll ds = false
  dp : PyData.depthAll ds ≤ n
  ls : PyData.leavesShortAll 1921 ds = true
  bk : PyData.bulkAll ds ≤ ds.length * (m + 1)
set_option Elab.async true in
theorem Rp.all {n m : Nat} : ∀ {ds : List PyData}, (∀ d, d ∈ ds → Rp n m d) → RpA n m ds
  | [], _ => ⟨by simp [PyData.showableAll], by simp [PyData.hasDictAll], by simp [PyData.depthAll], by simp [PyData.leavesShortAll], by simp [PyData.bulkAll]⟩
  | d :: ds, h => by
    have h1 := h d (by simp)
    have h2 := Rp.all (fun x hx => h x (List.mem_cons_of_mem _ hx))
    refine ⟨?_, ?_, ?_, ?_, ?_⟩
    · simp [PyData.showableAll, h1.sh, h2.sh]
    · simp [PyData.hasDictAll, h1.nd, h2.nd]
    · rw [PyData.depthAll.eq_2]; exact Nat.max_le.mpr ⟨h1.dp, h2.dp⟩
    · simp [PyData.leavesShortAll, h1.ls, h2.ls]
    · rw [PyData.bulkAll.eq_2, List.length_cons, Nat.succ_mul]
      have := h1.bk
      have := h2.bk
      omega
in #guard_msgs in universe u_z
theorem Rp.list {n m l : Nat} {ds : List PyData} (h : ∀ d, d ∈ ds → Rp n m d) (hl : ds.length ≤ l) : Rp (n + 1) (l * (m + 1)) (.list ds) := by
  have a := Rp.all h
  refine ⟨by rw [PyData.showable]; exact a.sh, by rw [PyData.hasDict]; exact a.nd, ?_, by rw [PyData.leavesShort]; exact a.ls, ?_⟩
  · rw [PyData.depth]
    have := a.dp
    omega
  · rw [PyData.bulk]
    exact Nat.le_trans a.bk (Nat.mul_le_mul_right _ hl)
theorem Rp.tuple {n m l : Nat} {ds : List PyData} (h : ∀ d, d ∈ ds → Rp n m d) (hl : ds.length ≤ l) : Rp (n + 1) (l * (m + 1)) (.tuple ds) := by
  have a := Rp.all h
  refine ⟨by rw [PyData.showable]; exact a.sh, by rw [PyData.hasDict]; exact a.nd, ?_, by rw [PyData.leavesShort]; exact a.ls, ?_⟩
  · rw [PyData.depth]
    have := a.dp
    omega
  · rw [PyData.bulk]
    exact Nat.le_trans a.bk (Nat.mul_le_mul_right _ hl)
theorem Rp.int {i : Int} (h : B 1900 i) : Rp 0 0 (.int i) := by
  have hl : i.natAbs.log2 < 1920 := Nat.lt_of_lt_of_le (PySem.Flt.log2_lt_of (k := 1900) (by decide) h.lt) (by decide)
  refine ⟨by simp [PyData.showable, hl], by simp [PyData.hasDict], by simp [PyData.depth], ?_, by simp [PyData.bulk]⟩
  rw [PyData.leavesShort, PyData.shown]
  exact decide_eq_true (PyProof.Rows.int_text_len_1921 hl)
theorem Rp.le {n m n' m' : Nat} {d : PyData} (h : Rp n m d) (h1 : n ≤ n') (h2 : m ≤ m') : Rp n' m' d := ⟨h.sh, h.nd, Nat.le_trans h.dp h1, h.ls, Nat.le_trans h.bk h2⟩
theorem r_repr {K : PySem.W.Frag} {H : Hp} {Q : VK} {a : Addr} {d : PyData} {n m : Nat} (hd : Dp K H (.ref a) d) (h : Rp n m d) (hn : n ≤ 50) (hm : m ≤ 8000) (q : Q (.str d.shown) H) : rRepr K [.ref a] H Q :=
  ⟨a, d, rfl, hd, h.sh, h.nd, by have := h.dp; omega, Nat.le_trans (PyData.shown_le_bulk 1921 (by decide) d h.ls) (Nat.le_trans (Nat.add_le_add_right (Nat.mul_le_mul_left _ (Nat.le_trans h.bk hm)) _) (by decide)), q⟩
end My

set_option Elab.async false
set_option maxRecDepth 100000
/-! the end of a proof over FnG -/
namespace My
open PySem L2 PyProof.Rows
set_option Elab.async true in
theorem law_coreG {P : Program} {w : World} {K : PySem.W.Frag} {mg mb : Str → Option Value} {k : Nat} {fa a : Addr} {fd : FuncData} {x : Str} {sp : Sp} {s₁ : Shared} {vs : List Value} {ns : List Int} {H : Hp}
    (kin : K.In s₁.heap) (g : s₁.heap.Ns mainGlobals mg) (b : s₁.heap.Ns builtinsNs mb) (hb : ∀ x : Str, x ≠ Str.ofString "__name__" → mb x = bootBuiltins x) (nl : s₁.heap.NoLimit) (hg : s₁.gens = #[])
    (ha : s₁.heap.get? a = some { cls := .type "list", data := .seq vs.toArray }) (hr : Room k callerA)
    (F : ∀ base : Heap, K.In base → base.Ns mainGlobals mg → FnG P w K mg base k fa fd [x] sp) (hbd : ∀ (s : Shared) (u : Value), BindsTo s fd ⟨[u], []⟩ [(x, u)])
    (hO : ∀ c, H c = none ∨ (c = a ∧ H c = some (.frz { cls := .type "list", data := .seq vs.toArray } (.lst (ns.map V.int))))) (hK : ∀ c u, K.lookup c = some u → H c = none) (hok : HOk P w H s₁.heap)
    (hsp : sp [.ref a] H (fun v _ => v = .bl true) (fun _ _ _ => False)) :
    codeAny (model P w) callerA (.call (.ref fa) ⟨[.ref a], []⟩) (fun r s' => r = .ok (.ret (.bool true)) ∧ OldK s₁.heap s'.heap ∧ s'.os = s₁.os ∧ AllBare s'.gens) s₁ := by
  have hne : ∀ c o', s₁.heap.get? c = some o' → (∀ its n, o'.data ≠ .seq its n) → H c = none := fun c o' hc hd => by
    rcases hO c with h | ⟨rfl, h⟩
    · exact h
    · rw [ha] at hc
      cases hc
      exact absurd rfl (hd _ _)
  have ns_of : ∀ {c : Addr} {m : Str → Option Value}, s₁.heap.Ns c m → (hidT s₁.heap H).Ns c m := fun {c m} ⟨o', es, ep, h1, h2, h3, h4⟩ =>
    ⟨o', es, ep, hidT_get h1 (hne c o' h1 (fun its n e => by rw [h2] at e; cases e)), h2, h3, h4⟩
  have bk : K.In (hidT s₁.heap H) := fun c u e => hidT_get (kin c u e) (hK c u e)
  have I : Env0 P w K mg (hidT s₁.heap H) callerA [] s₁ H := {
    frames := rfl
    mod := ⟨bk, ns_of g, ⟨mb, ns_of b, hb⟩, by obtain ⟨mc, h1, h2⟩ := nl; exact ⟨mc, ns_of h1, h2⟩⟩
    bs := fun c o' h => of_hidT h
    bsz := Nat.le_of_eq (hidT_size _ _)
    funs := trivial
    frf := fun c h => nomatch h
    hok := hok
    bare := AllBare.of_eq hg }
  refine codeAny_mono ((F _ bk (ns_of g)).run callerA [] s₁ H ⟨[.ref a], []⟩ [.ref a] [.ref a] _ _ rfl hr I (hbd s₁ (.ref a)) (.cons rfl .nil) hsp) (fun r s' hq => ?_)
  cases r with
  | error er => exact False.elim hq
  | ok fl =>
    cases fl with
    | next => exact False.elim hq
    | brk => exact False.elim hq
    | cont => exact False.elim hq
    | ret u =>
      obtain ⟨v, H', e1, e2, un, ok2, rv, rfl⟩ := hq
      cases rv
      refine ⟨rfl, OldK.of_keep (fun c o' hc => ?_), e1, e2⟩
      rcases hO c with h | ⟨rfl, h⟩
      · exact un.keep c o' hc h (fun z => nomatch z) (fun z => nomatch z)
      · have h2 := ok2 _ _ (un.frzs _ _ _ h)
        rw [ha] at hc
        cases hc
        exact h2.1
in #guard_msgs in universe u_z
set_option Elab.async true in
theorem law_callG {P : Program} {w : World} {K : PySem.W.Frag} {mg mb : Str → Option Value} {k : Nat} {fa a : Addr} {fd : FuncData} {x : Str} {sp : Sp} {s₁ : Shared} {vs : List Value} {ns : List Int}
    (kin : K.In s₁.heap) (g : s₁.heap.Ns mainGlobals mg) (b : s₁.heap.Ns builtinsNs mb) (hb : ∀ x : Str, x ≠ Str.ofString "__name__" → mb x = bootBuiltins x) (nl : s₁.heap.NoLimit) (hg : s₁.gens = #[])
    (ha : s₁.heap.get? a = some { cls := .type "list", data := .seq vs.toArray }) (hi : IntsAre vs ns) (hl : ns.length ≤ sizeLine) (hr : Room k callerA)
    (F : ∀ base : Heap, K.In base → base.Ns mainGlobals mg → FnG P w K mg base k fa fd [x] sp) (hbd : ∀ (s : Shared) (u : Value), BindsTo s fd ⟨[u], []⟩ [(x, u)])
    (hsp : ∀ H, SqL K H a (ns.map V.int) → sp [.ref a] H (fun v _ => v = .bl true) (fun _ _ _ => False)) :
    codeAny (model P w) callerA (.call (.ref fa) ⟨[.ref a], []⟩) (fun r s' => r = .ok (.ret (.bool true)) ∧ OldK s₁.heap s'.heap ∧ s'.os = s₁.os ∧ AllBare s'.gens) s₁ := by
  have hv : Vals (ns.map V.int) vs := vals_ints hi
  have hsz : vs.toArray.size ≤ sizeLine := by
    have := hi.length
    simp only [List.size_toArray]
    omega
  rcases hk : K.lookup a with _ | u
  · refine law_coreG (ns := ns) (H := fun c => if c = a then some (.frz { cls := .type "list", data := .seq vs.toArray } (.lst (ns.map V.int))) else none) kin g b hb nl hg ha hr F hbd ?_ ?_ ?_ (hsp _ (.inl (.inr ⟨_, if_pos rfl⟩)))
    · intro c
      by_cases e : c = a
      · exact .inr ⟨e, if_pos e⟩
      · exact .inl (if_neg e)
    · intro c u hu
      refine if_neg (fun e => ?_)
      subst e
      rw [hk] at hu
      cases hu
    · intro c o hc
      by_cases e : c = a
      · subst e
        simp only [if_true] at hc
        cases hc
        refine ⟨ha, ?_⟩
        exact ⟨by rw [List.length_map]; exact hl, vs, _, hv, ha⟩
      · simp only [if_neg e] at hc
        cases hc
  · have e := kin a u hk
    rw [ha] at e
    cases e
    refine law_coreG (ns := ns) (H := fun _ => none) kin g b hb nl hg ha hr F hbd (fun _ => .inl rfl) (fun _ _ _ => rfl) (fun _ _ h => nomatch h) (hsp _ (.inr ⟨_, _, _, hk, rfl, rfl, rfl, hsz, hv⟩))
in #guard_msgs in universe u_z
set_option Elab.async true in
theorem walk_ofG {l : PySem.W.OpenLaw} {n k : Nat} {q : Program} {loose : List Str} {XP : (Str → Option Value) → Heap → Prop} {YP : World → Heap → Prop} {d : DefRec} {K : Params → PySem.W.Frag} {sp : World → Sp} {x : Str}
    (hn : l.most = some n) (hnl : n ≤ sizeLine) (hdf : d.params.defaults = []) (hr : Room k callerA) (hY : ∀ (w : World) (h : Heap), YP w h → (K w.params).In h)
    (F : ∀ (w : World) (mg : Str → Option Value) (fa : Addr) (h : Heap), (K w.params).In h → h.Ns mainGlobals mg → mg d.name = some (.ref fa) →
      ∃ fd : FuncData, (∀ (s : Shared) (u : Value), BindsTo s fd ⟨[u], []⟩ [(x, u)]) ∧ ∀ base : Heap, (K w.params).In base → base.Ns mainGlobals mg → FnG l.prog w (K w.params) mg base k fa fd [x] (sp w))
    (hsp : ∀ (w : World) (H : Hp) (a : Addr) (ns : List Int), ns.length ≤ n → SqL (K w.params) H a (ns.map V.int) → sp w [.ref a] H (fun v _ => v = .bl true) (fun _ _ _ => False)) :
    PySem.W.WalkO q loose XP YP l.row.toRowW d [] (fun f vs => PySem.call f vs) := by
  refine Att.attach_call hn hdf (fun w s₀ s₁ mg mb fa o pm cd doc a vs ns G Y ho hd hc hm ha hi hl hg => ?_)
  have T := G.T
  obtain ⟨fd, hbd, hF⟩ := F w mg fa s₁.heap (hY w _ Y) T.g hm
  exact law_callG (hY w _ Y) T.g T.b T.builtins T.nolimit hg ha hi (Nat.le_trans hl hnl) hr hF hbd (fun H h => hsp w H a ns hl h)
in #guard_msgs in universe u_z
theorem RvQ.same {K : PySem.W.Frag} {H H' : Hp} {v : V} {q : Rat} (h : RvQ K H v q) (e : Same H H') : RvQ K H' v q := h.imp id fun ⟨a, e1, h⟩ => ⟨a, e1, Same.tup e h⟩
theorem RvQ.frq {K : PySem.W.Frag} {H H' : Hp} {v : V} {q : Rat} (h : RvQ K H v q) (e : TK K H H') : RvQ K H' v q := h.imp id fun ⟨a, e1, h⟩ => ⟨a, e1, e _ _ h⟩
def dg (x y z : Rat) : M3 := ⟨⟨x, 0, 0⟩, ⟨0, y, 0⟩, ⟨0, 0, z⟩, ⟨0, 0, 0⟩⟩
def ax (a : Int) : V3 := ⟨((if a = 0 then 1 else 0 : Int) : Rat), ((if a = 1 then 1 else 0 : Int) : Rat), ((if a = 2 then 1 else 0 : Int) : Rat)⟩
section
variable {K : PySem.W.Frag} {H : Hp} {v a b c : Addr} {p : Rat}
theorem Vc.x00 (h : SqT K H v [.ref a, .ref b, .ref c]) (ha : SqT K H a [.int p.num, .int (p.den : Int)]) (hb : SqT K H b [.int 0, .int 1]) (hc : SqT K H c [.int 0, .int 1]) : Vc K H v ⟨p, 0, 0⟩ := ⟨a, b, c, h, ha, hb, hc⟩
theorem Vc.y00 (h : SqT K H v [.ref a, .ref b, .ref c]) (ha : SqT K H a [.int 0, .int 1]) (hb : SqT K H b [.int p.num, .int (p.den : Int)]) (hc : SqT K H c [.int 0, .int 1]) : Vc K H v ⟨0, p, 0⟩ := ⟨a, b, c, h, ha, hb, hc⟩
theorem Vc.z00 (h : SqT K H v [.ref a, .ref b, .ref c]) (ha : SqT K H a [.int 0, .int 1]) (hb : SqT K H b [.int 0, .int 1]) (hc : SqT K H c [.int p.num, .int (p.den : Int)]) : Vc K H v ⟨0, 0, p⟩ := ⟨a, b, c, h, ha, hb, hc⟩
end
/-! a nested constant of the module -/
def rdV (K : PySem.W.Frag) : Nat → Value → Option PyData
  | 0, _ => none
  | _ + 1, .int i _ => some (.int i)
  | n + 1, .ref a => match K.lookup a with
    | some o => match o.cls, o.data with
      | .type t, .seq its _ => if t == "tuple" && decide (its.size ≤ sizeLine) then (its.toList.mapM (rdV K n)).map .tuple else none
      | _, _ => none
    | none => none
  | _ + 1, _ => none
set_option Elab.async true in
theorem rdV_dp {K : PySem.W.Frag} : ∀ (n : Nat) {v : Value} {d : PyData}, rdV K n v = some d → ∃ x : V, RelV x v ∧ ∀ H, Dp K H x d
  | 0, _, _, h => by simp [rdV] at h
  | n + 1, .int i t, _, h => by
    simp only [rdV, Option.some.injEq] at h
    subst h
    exact ⟨.int i, ⟨t, rfl⟩, fun H => .int i⟩
  | n + 1, .ref a, d, h => by
    simp only [rdV] at h
    split at h
    · rename_i o ho
      split at h
      · rename_i t its m hc hd
        split at h
        · rename_i hi
          simp only [Bool.and_eq_true, beq_iff_eq, decide_eq_true_eq] at hi
          rw [Option.map_eq_some_iff] at h
          obtain ⟨ds, e, rfl⟩ := h
          have hall : ∀ (us : List Value) (ds : List PyData), us.mapM (rdV K n) = some ds → ∃ xs : List V, Vals xs us ∧ ∀ H, DpAll K H xs ds := by
            intro us
            induction us with
            | nil =>
              intro ds e
              simp only [List.mapM_nil, pure, Option.some.injEq] at e
              subst e
              exact ⟨[], .nil, fun H => .nil⟩
            | cons u us ih =>
              intro ds e
              rw [List.mapM_cons] at e
              rcases h1 : rdV K n u with _ | d1
              · rw [h1] at e; cases e
              rcases h2 : us.mapM (rdV K n) with _ | d2
              · rw [h1, h2] at e; cases e
              rw [h1, h2] at e
              cases e
              obtain ⟨x, r, hx⟩ := rdV_dp n h1
              obtain ⟨xs, rs, hxs⟩ := ih _ h2
              exact ⟨x :: xs, .cons r rs, fun H => .cons (hx H) (hxs H)⟩
          obtain ⟨xs, rs, hxs⟩ := hall _ _ e
          exact ⟨.ref a, rfl, fun H => .tup (.inr ⟨o, its, m, ho, by rw [hc, hi.1], hd, hi.2, rs⟩) (hxs H)⟩
        · cases h
      · cases h
    · cases h
  | n + 1, .none, _, h => by simp [rdV] at h
  | n + 1, .bool _, _, h => by simp [rdV] at h
  | n + 1, .str _ _, _, h => by simp [rdV] at h
  | n + 1, .bytes _ _, _, h => by simp [rdV] at h
  | n + 1, .float _ _, _, h => by simp [rdV] at h
  | n + 1, .type _, _, h => by simp [rdV] at h
  | n + 1, .builtin _, _, h => by simp [rdV] at h
in #guard_msgs in universe u_z
def GMD (K : PySem.W.Frag) (mg : Str → Option Value) (x : Str) (d : PyData) : Prop := ∃ a, mg x = some (.ref a) ∧ ∀ H, Dp K H (.ref a) d
theorem gd_of {K : PySem.W.Frag} {mg : Str → Option Value} {x : Str} {a : Addr} {n : Nat} {d : PyData} (hm : mg x = some (.ref a)) (h : rdV K n (.ref a) = some d) : GMD K mg x d := by
  obtain ⟨y, r, hy⟩ := rdV_dp n h
  cases y <;> first | (cases r; done) | (obtain ⟨_, r⟩ := r; cases r; done) | (cases r; exact ⟨_, hm, hy⟩)
def tGD (K : PySem.W.Frag) (d : PyData) : TE := fun _ H Q => ∀ a, Dp K H (.ref a) d → Q (.ref a) H
theorem pe_gd {X : Cx} {K : PySem.W.Frag} {x : Str} {d : PyData} {pos : Pos} (h : GMD K X.mg x d) (hg : Gl X x) (hd : (x == ("__debug__" : Str)) = false := by decide) : PE X (.Name x pos) (tGD K d) :=
  ⟨fun _ _ _ H _ I q => let ⟨a, hm, ha⟩ := h; ld_glob I hg hm ⟨.ref a, H, I, rfl, q a (ha H)⟩ hd⟩
theorem w_gd {K : PySem.W.Frag} {d : PyData} {σ : L2.St} {H : Hp} {Q : VK} (h : ∀ a, Dp K H (.ref a) d → Q (.ref a) H) : tGD K d σ H Q := h
def rtD (n d : Int) : PyData := .tuple [.int n, .int d]
def vcD (a b c : Int) : PyData := .tuple [rtD a 1, rtD b 1, rtD c 1]
def stD : PyData := .tuple [.tuple [vcD 1 0 0, vcD 0 1 0, vcD 0 0 1], vcD 0 0 0]
section
variable {K : PySem.W.Frag} {H : Hp}
theorem rt_of_dp {v : V} {n d : Int} (h : Dp K H v (rtD n d)) : ∃ a, v = .ref a ∧ SqT K H a [.int n, .int d] := by
  cases h with
  | tup q a =>
    cases a with
    | cons h1 t =>
      cases t with
      | cons h2 t2 =>
        cases t2
        cases h1
        cases h2
        exact ⟨_, rfl, q⟩
theorem vc_of_dp {v : V} {x y z : Int} (h : Dp K H v (vcD x y z)) : ∃ a, v = .ref a ∧ Vc K H a ⟨(x : Rat), (y : Rat), (z : Rat)⟩ := by
  cases h with
  | tup q a =>
    cases a with
    | cons h1 t =>
      cases t with
      | cons h2 t2 =>
        cases t2 with
        | cons h3 t3 =>
          cases t3
          obtain ⟨a1, rfl, e1⟩ := rt_of_dp h1
          obtain ⟨a2, rfl, e2⟩ := rt_of_dp h2
          obtain ⟨a3, rfl, e3⟩ := rt_of_dp h3
          exact ⟨_, rfl, Vc.mk q e1 e2 e3⟩
set_option Elab.async true in
theorem mv_of_dp {a : Addr} (h : Dp K H (.ref a) stD) : Mv K H a still := by
  cases h with
  | tup q a =>
    cases a with
    | cons h1 t =>
      cases t with
      | cons h2 t2 =>
        cases t2
        obtain ⟨s, rfl, e0⟩ := vc_of_dp h2
        cases h1 with
        | tup q2 a2 =>
          cases a2 with
          | cons g1 t =>
            cases t with
            | cons g2 t =>
              cases t with
              | cons g3 t =>
                cases t
                obtain ⟨b1, rfl, e1⟩ := vc_of_dp g1
                obtain ⟨b2, rfl, e2⟩ := vc_of_dp g2
                obtain ⟨b3, rfl, e3⟩ := vc_of_dp g3
                exact ⟨_, _, q, ⟨_, _, _, q2, e1, e2, e3⟩, e0⟩
in #guard_msgs in universe u_z
end
def tn (a : Int) : M3 := if a = 0 then ⟨e0, sc ((-1 : Int) : Rat) (ax 2), ax 1, o3⟩ else if a = 1 then ⟨ax 2, e1, sc ((-1 : Int) : Rat) (ax 0), o3⟩ else ⟨sc ((-1 : Int) : Rat) (ax 1), ax 0, e2, o3⟩
def tns (a : Int) : Nat → M3
  | 0 => still
  | n + 1 => comb (tns a n) (tn a)
theorem w_gdM {K : PySem.W.Frag} {σ : L2.St} {H : Hp} {Q : VK} (h : ∀ a r s x y z : Addr, SqT K H a [.ref r, .ref s] → SqT K H r [.ref x, .ref y, .ref z] → Vc K H x e0 → Vc K H y e1 → Vc K H z e2 → Vc K H s o3 → Q (.ref a) H) : tGD K stD σ H Q := fun a hd => by
  obtain ⟨r, s, t0, ⟨x, y, z, t1, v0, v1, v2⟩, t3⟩ := mv_of_dp hd
  exact h a r s x y z t0 t1 v0 v1 v2 t3
theorem kc_any {X : Cx} {K : PySem.W.Frag} (hK : X.K = K) (hc : X.calm = true) : CallR X (.builtin "any") (rAny K) := by
  subst hK
  exact cr_any hc
theorem VN.ax (a : Int) : VN 2 1 (ax a) := by
  have b0 : B 2 (0 : Int) := B.lit (by decide +kernel)
  have b1 : B 2 (1 : Int) := B.lit (by decide +kernel)
  refine VN.int3 ?_ ?_ ?_ <;> (split <;> assumption)
section
variable {K : PySem.W.Frag} {H H0 : Hp}
theorem r_setVp {l x : Addr} {ps : List V3} {p : V3} {Q : Hp → Prop} {k : Int} {j : Nat} (nl : H0 l = none) (e : Same H0 H) (h : VL K H l ps) (hv : Vc K H x p) (ix : ixN ps.length k = some j)
    (q : ∀ H1, Same H0 H1 → TK K H H1 → VL K H1 l (ps.set j p) → Q H1) : rSetL (.ref l) (.int k) (.ref x) H Q := by
  obtain ⟨acc, ha, hacc⟩ := h
  refine r_setL ha (by rw [hacc.len]; exact ix) rfl (q _ (Same.mut e nl) (TK.upd ha) ⟨_, upd_same, ?_⟩)
  exact (hacc.tk (TK.upd ha)).set (hv.tk (TK.upd ha))
theorem VcL.tri {acc : List V} {ps : List V3} {p q r : V3} (h : VcL K H acc ps) (e : ps = [p, q, r]) : ∃ a b c : Addr, acc = [.ref a, .ref b, .ref c] ∧ Vc K H a p ∧ Vc K H b q ∧ Vc K H c r := by
  subst e
  cases h with
  | cons h1 t =>
    cases t with
    | cons h2 t =>
      cases t with
      | cons h3 t =>
        cases t
        obtain ⟨a, rfl, ha⟩ := h1
        obtain ⟨b, rfl, hb⟩ := h2
        obtain ⟨c, rfl, hc⟩ := h3
        exact ⟨a, b, c, rfl, ha, hb, hc⟩
set_option Elab.async true in
theorem mk_dg {m r s x y z : Addr} {p q t : Rat} (h1 : SqT K H m [.ref r, .ref s]) (h2 : SqT K H r [.ref x, .ref y, .ref z]) (hx : Vc K H x (sc p (ax 0))) (hy : Vc K H y (sc q (ax 1))) (hz : Vc K H z (sc t (ax 2))) (hs : Vc K H s o3) : Mv K H m (dg p q t) := by
  have a0 : sc p (ax 0) = (dg p q t).a := by apply V3.ext' <;> simp [sc, ax, dg]
  have a1 : sc q (ax 1) = (dg p q t).b := by apply V3.ext' <;> simp [sc, ax, dg]
  have a2 : sc t (ax 2) = (dg p q t).c := by apply V3.ext' <;> simp [sc, ax, dg]
  exact ⟨r, s, h1, ⟨x, y, z, h2, a0 ▸ hx, a1 ▸ hy, a2 ▸ hz⟩, hs⟩
in #guard_msgs in universe u_z
end
set_option Elab.async true in
theorem mk_tn {K : PySem.W.Frag} {H : Hp} {a : Int} {m r s : Addr} {acc : List V} (ha : 0 ≤ a ∧ a ≤ 2) (h1 : SqT K H m [.ref r, .ref s]) (h2 : SqT K H r acc)
    (hV : VcL K H acc ((([e0, e1, e2] : List V3).set ((a + 1) % 3).toNat (sc ((-1 : Int) : Rat) (ax ((a + 2) % 3)))).set ((a + 2) % 3).toNat (ax ((a + 1) % 3)))) (hs : Vc K H s o3) : Mv K H m (tn a) := by
  obtain rfl | rfl | rfl : a = 0 ∨ a = 1 ∨ a = 2 := by omega
  · obtain ⟨x, y, z, rfl, v1, v2, v3⟩ := VcL.tri (p := e0) (q := sc ((-1 : Int) : Rat) (ax 2)) (r := ax 1) hV rfl
    exact ⟨_, _, h1, ⟨_, _, _, h2, v1, v2, v3⟩, hs⟩
  · obtain ⟨x, y, z, rfl, v1, v2, v3⟩ := VcL.tri (p := ax 2) (q := e1) (r := sc ((-1 : Int) : Rat) (ax 0)) hV rfl
    exact ⟨_, _, h1, ⟨_, _, _, h2, v1, v2, v3⟩, hs⟩
  · obtain ⟨x, y, z, rfl, v1, v2, v3⟩ := VcL.tri (p := sc ((-1 : Int) : Rat) (ax 1)) (q := ax 0) (r := e2) hV rfl
    exact ⟨_, _, h1, ⟨_, _, _, h2, v1, v2, v3⟩, hs⟩
in #guard_msgs in universe u_z
theorem ix3 {a : Int} (h0 : 0 ≤ a) (h1 : a ≤ 2) (c : Int) (hc : 0 ≤ c) : ixN 3 ((a + c) % 3) = some ((a + c) % 3).toNat := by
  have h : (a + c) % 3 = 0 ∨ (a + c) % 3 = 1 ∨ (a + c) % 3 = 2 := by omega
  rcases h with h | h | h <;> rw [h] <;> rfl
theorem e012 : VN 2 1 e0 ∧ VN 2 1 e1 ∧ VN 2 1 e2 ∧ VN 2 1 o3 := by
  have b0 : BN 2 1 (0 : Rat) := ⟨B.lit (by decide +kernel), B.lit (by decide +kernel)⟩
  have b1 : BN 2 1 (1 : Rat) := ⟨B.lit (by decide +kernel), B.lit (by decide +kernel)⟩
  exact ⟨⟨b1, b0, b0⟩, ⟨b0, b1, b0⟩, ⟨b0, b0, b1⟩, ⟨b0, b0, b0⟩⟩
theorem tn_mn (a : Int) : MN 2 1 (tn a) := by
  obtain ⟨g0, g1, g2, g3⟩ := e012
  unfold tn
  split
  · exact ⟨g0, (VN.ax 2).m1, VN.ax 1, g3⟩
  · split
    · exact ⟨VN.ax 2, g1, (VN.ax 0).m1, g3⟩
    · exact ⟨(VN.ax 1).m1, VN.ax 0, g2, g3⟩
set_option Elab.async true in
theorem tns_mn (a : Int) (n : Nat) (h : n ≤ 3) : MN 3000 500 (tns a n) := by
  obtain ⟨g0, g1, g2, g3⟩ := e012
  have h0 : MN 2 1 (tns a 0) := ⟨g0, g1, g2, g3⟩
  have h1 : MN _ _ (tns a 1) := MN.comb h0 (tn_mn a)
  have h2 : MN _ _ (tns a 2) := MN.comb h1 (tn_mn a)
  have h3 : MN _ _ (tns a 3) := MN.comb h2 (tn_mn a)
  obtain rfl | rfl | rfl | rfl : n = 0 ∨ n = 1 ∨ n = 2 ∨ n = 3 := by omega
  · exact h0.le (by decide) (by decide)
  · exact h1.le (by decide) (by decide)
  · exact h2.le (by decide) (by decide)
  · exact h3.le (by decide) (by decide)
in #guard_msgs in universe u_z
/-- a row as it may be handed: a tuple or a list of three numbers -/
def RowV (K : PySem.W.Frag) (H : Hp) (a : Addr) (p : V3) : Prop := ∃ x y z : V, (SqT K H a [x, y, z] ∨ SqL K H a [x, y, z]) ∧ RvQ K H x p.x ∧ RvQ K H y p.y ∧ RvQ K H z p.z
theorem RowV.same {K : PySem.W.Frag} {H H' : Hp} {a : Addr} {p : V3} (e : Same H H') (h : RowV K H a p) : RowV K H' a p := by
  obtain ⟨x, y, z, h1, h2, h3, h4⟩ := h
  exact ⟨x, y, z, h1.imp (Same.tup e) (fun q => q.imp (Same.rd e) id), h2.same e, h3.same e, h4.same e⟩
end My

set_option Elab.async false
set_option maxRecDepth 100000
namespace My
open PySem L2 PyProof.Rows
/-! data that may be a dict at the top -/
def Ob (K : PySem.W.Frag) (H : Hp) (v : V) (d : PyData) : Prop := Dp K H v d ∨ ∃ a kvs, v = .ref a ∧ H a = some (.dK kvs) ∧ kdD d = "dict" ∧ (∀ ds, d ≠ .tuple ds) ∧ ∀ ds, d ≠ .list ds
section
variable {K : PySem.W.Frag} {H H' : Hp} {v : V} {d : PyData} {Q : VK}
theorem Ob.same (e : Same H H') (h : Ob K H v d) : Ob K H' v d := h.imp (fun h => My.Dp.same e h) fun ⟨a, kvs, h1, h2, h3⟩ => ⟨a, kvs, h1, e _ _ h2, h3⟩
theorem Ob.ty (h : Ob K H v d) : TyX K H v (.type (kdD d)) := by
  rcases h with h | ⟨a, kvs, rfl, h2, h3, h4, h5⟩
  · exact My.Dp.ty h
  · rw [h3]
    exact .base (.dK h2)
theorem Ob.tupC (h : Ob K H v d) : (∃ a xs ds, v = .ref a ∧ d = .tuple ds ∧ SqT K H a xs ∧ DpAll K H xs ds) ∨ (kitB (kdD d) "tuple" = some false ∧ ∀ ds, d ≠ .tuple ds) := by
  rcases h with h | ⟨a, kvs, rfl, h2, h3, h4, h5⟩
  · exact My.Dp.tupC h
  · exact .inr ⟨by rw [h3]; decide +kernel, h4⟩
theorem Ob.listC (h : Ob K H v d) : (∃ a xs ds, v = .ref a ∧ d = .list ds ∧ SqL K H a xs ∧ DpAll K H xs ds) ∨ (kitB (kdD d) "list" = some false ∧ ∀ ds, d ≠ .list ds) := by
  rcases h with h | ⟨a, kvs, rfl, h2, h3, h4, h5⟩
  · exact My.Dp.listC h
  · exact .inr ⟨by rw [h3]; decide +kernel, h5⟩
theorem r_isO {n : String} {b : Bool} (h : Ob K H v d) (e : kitB (kdD d) n = some b) (q : Q (.bl b) H) : rIsi K [v, .ty n] H Q := ⟨v, .ty n, _, _, b, rfl, .ty n, h.ty, kit_ty e, q⟩
end
/-! ints of at most k bits -/
mutual
def BdD (k : Nat) : PyData → Prop
  | .int i => B k i
  | .tuple ds => BdL k ds
  | .list ds => BdL k ds
  | _ => True
def BdL (k : Nat) : List PyData → Prop
  | [] => True
  | d :: ds => BdD k d ∧ BdL k ds
end
section
variable {k : Nat}
theorem BdL.mem : ∀ {ds : List PyData} (_ : BdL k ds) {d : PyData} (_ : d ∈ ds), BdD k d
  | _ :: _, h, _, .head _ => by rw [BdL] at h; exact h.1
  | _ :: _, h, _, .tail _ q => by rw [BdL] at h; exact BdL.mem h.2 q
theorem BdD.tup {ds : List PyData} (h : BdD k (.tuple ds)) {d : PyData} (q : d ∈ ds) : BdD k d := by
  rw [BdD] at h
  exact h.mem q
theorem BdD.i {i : Int} (h : BdD k (.int i)) : B k i := by
  rw [BdD] at h
  exact h
theorem BdD.q {q : Rat} (h : BdD k (qD q)) : BN k k q := ⟨(h.tup (d := .int q.num) (by simp)).i, (h.tup (d := .int (q.den : Int)) (by simp)).i⟩
theorem BdD.v {p : V3} (h : BdD k (vD p)) : VN k k p := ⟨(h.tup (d := qD p.x) (by simp)).q, (h.tup (d := qD p.y) (by simp)).q, (h.tup (d := qD p.z) (by simp)).q⟩
end
/-! what the tests tell, once more -/
def IsM (d : PyData) : Prop := ∃ A : M3, d = mD A ∧ det3 A ≠ 0
theorem isR_iff {d : PyData} : IsR d ↔ ∃ q : Rat, d = qD q := by
  constructor
  · rintro ⟨n, m, rfl, h1, h2⟩
    obtain ⟨e1, e2⟩ := num_of (q := (n : Rat) / (m : Rat)) (show 0 < m by omega) h2 rfl
    exact ⟨_, by rw [qD, ← e1, ← e2]⟩
  · rintro ⟨q, rfl⟩
    exact ⟨q.num, q.den, rfl, by have := denP q; omega, gcdQ q⟩
set_option Elab.async true in
theorem isV_iff {d : PyData} : IsV d ↔ ∃ p : V3, d = vD p := by
  constructor
  · rintro ⟨ds, rfl, hl, h⟩
    match ds, hl with
    | [a, b, c], _ =>
      obtain ⟨x, rfl⟩ := isR_iff.1 (h a (by simp))
      obtain ⟨y, rfl⟩ := isR_iff.1 (h b (by simp))
      obtain ⟨z, rfl⟩ := isR_iff.1 (h c (by simp))
      exact ⟨⟨x, y, z⟩, rfl⟩
  · rintro ⟨p, rfl⟩
    refine ⟨_, rfl, rfl, fun x hx => isR_iff.2 ?_⟩
    simp only [List.mem_cons, List.not_mem_nil, or_false] at hx
    rcases hx with rfl | rfl | rfl <;> exact ⟨_, rfl⟩
in #guard_msgs in universe u_z
theorem qD_inj {p q : Rat} (h : qD p = qD q) : p = q := by
  simp only [qD, PyData.tuple.injEq, List.cons.injEq, PyData.int.injEq] at h
  exact num_inj h.1 h.2.1
theorem vD_inj {p q : V3} (h : vD p = vD q) : p = q := by
  simp only [vD, PyData.tuple.injEq, List.cons.injEq] at h
  exact V3.ext' (qD_inj h.1) (qD_inj h.2.1) (qD_inj h.2.2.1)
section
variable {K : PySem.W.Frag} {H H' : Hp} {v : V} {d : PyData} {Q : VK}
theorem Dp.vcV {p : V3} (h : Dp K H v (vD p)) : ∃ a, v = .ref a ∧ Vc K H a p := by
  cases h with
  | tup q a =>
    cases a with
    | cons h1 t =>
      cases t with
      | cons h2 t2 =>
        cases t2 with
        | cons h3 t3 =>
          cases t3
          obtain ⟨a1, rfl, e1⟩ := rt_of_dp h1
          obtain ⟨a2, rfl, e2⟩ := rt_of_dp h2
          obtain ⟨a3, rfl, e3⟩ := rt_of_dp h3
          exact ⟨_, rfl, Vc.mk q e1 e2 e3⟩
theorem isM_iff {d0 d1 d2 d3 : PyData} : IsM (.tuple [.tuple [d0, d1, d2], d3]) ↔ ∃ A : M3, d0 = vD A.a ∧ d1 = vD A.b ∧ d2 = vD A.c ∧ d3 = vD A.s ∧ det3 A ≠ 0 := by
  constructor
  · rintro ⟨A, e, h⟩
    simp only [mD, PyData.tuple.injEq, List.cons.injEq] at e
    exact ⟨A, e.1.1, e.1.2.1, e.1.2.2.1, e.2.1, h⟩
  · rintro ⟨A, rfl, rfl, rfl, rfl, h⟩
    exact ⟨A, rfl, h⟩
theorem BsD.nall {R : PyData → Prop} {ds : List PyData} {bs : List Bool} (h : bs.all id = true ↔ ∀ d, d ∈ ds → R d) : (!bs.all id) = true ↔ ¬ ∀ d, d ∈ ds → R d := by
  rw [Bool.not_eq_true', ← h]
  simp
end
/-- lists and tuples of at most 3, no deeper than n -/
def Sz : Nat → PyData → Prop
  | 0, _ => False
  | n + 1, .list ds => ds.length ≤ 3 ∧ ∀ d, d ∈ ds → Sz n d
  | n + 1, .tuple ds => ds.length ≤ 3 ∧ ∀ d, d ∈ ds → Sz n d
  | _ + 1, _ => True
theorem sg_dec {q : Rat} {u : Int} (h0 : q.num > 0 → u = 1) (h1 : q.num < 0 → u = -1) (h2 : q.num = 0 → u = 0) : decide (V.int u = V.int 0) = decide (q = 0) := by
  have e : (V.int u = V.int 0) ↔ q = 0 := by
    rw [← Rat.num_eq_zero]
    constructor
    · intro h
      cases h
      rcases Int.lt_trichotomy q.num 0 with z | z | z
      · have := h1 z; omega
      · exact z
      · have := h0 z; omega
    · intro h
      rw [h2 h]
  exact decide_eq_decide.2 e
def trn (m : Int) (p : V3) : V3 := if m = 0 then ⟨p.x, -p.z, p.y⟩ else if m = 1 then ⟨p.z, p.y, -p.x⟩ else ⟨-p.y, p.x, p.z⟩
end My
namespace My
open PySem L2 PyProof.Rows
def Gd (N : List Addr) (D : Addr) (H : Hp) (acc : List V) : Prop := ∀ x, x ∈ acc → ∃ a ys, x = V.ref a ∧ a ≠ D ∧ a ∉ N ∧ H a = some (.lst ys) ∧ ys.length ≤ 3
section
variable {N : List Addr} {D : Addr} {H H' : Hp} {acc bcc : List V}
theorem Gd.nil : Gd N D H [] := fun x h => by cases h
theorem Gd.same (e : Same H H') (h : Gd N D H acc) : Gd N D H' acc := fun x hx => let ⟨a, ys, h1, h2, h3, h4, h5⟩ := h x hx; ⟨a, ys, h1, h2, h3, e _ _ h4, h5⟩
theorem Gd.upd {o : HO} (h : Gd N D H acc) : Gd N D (upd H D o) acc := fun x hx => let ⟨a, ys, h1, h2, h3, h4, h5⟩ := h x hx; ⟨a, ys, h1, h2, h3, (upd_ne h2).trans h4, h5⟩
theorem Gd.app (h : Gd N D H acc) (g : Gd N D H bcc) : Gd N D H (acc ++ bcc) := fun x hx => (List.mem_append.1 hx).elim (h x) (g x)
theorem Gd.of {D' : Addr} (h : Gd (D :: N) D' H acc) : Gd N D H acc := fun x hx => let ⟨a, ys, h1, h2, h3, h4, h5⟩ := h x hx; ⟨a, ys, h1, fun e => h3 (by rw [e]; simp), fun e => h3 (List.mem_cons_of_mem _ e), h4, h5⟩
theorem Gd.take (h : Gd N D H acc) (n : Nat) : Gd N D H (acc.take n) := fun x hx => h x (List.mem_of_mem_take hx)
theorem Gd.one {a : Addr} {ys : List V} (h1 : a ≠ D) (h2 : a ∉ N) (h3 : H a = some (.lst ys)) (h4 : ys.length ≤ 3) : Gd N D H [.ref a] := fun x hx => by
  rw [List.mem_singleton] at hx
  exact ⟨a, ys, hx, h1, h2, h3, h4⟩
end
end My
namespace My
open PySem L2 PyProof.Rows
/-! isinstance of the exception held with any number of classes, none of them its own -/
inductive NoF (K : PySem.W.Frag) (D : Addr) : List V → List Value → Prop
  | nil : NoF K D [] []
  | cons {c : Addr} {xs : List V} {us : List Value} (e : PySem.W.kitOne K (.ref D) (.ref c) = some false) (t : NoF K D xs us) : NoF K D (.ref c :: xs) (.ref c :: us)
section
variable {K : PySem.W.Frag} {H : Hp} {Q : VK} {D a : Addr}
theorem NoF.cls : ∀ {xs : List V} {us : List Value}, NoF K D xs us → Paired ClsV xs us
  | _, _, .nil => .nil
  | _, _, .cons _ t => .cons (.own _) (NoF.cls t)
theorem NoF.any : ∀ {xs : List V} {us : List Value}, NoF K D xs us → PySem.W.kitAny K (.ref D) us = some false
  | _, _, .nil => L2.kitAny_nil
  | _, _, .cons e t => L2.kitAny_cons e (fun _ => NoF.any t) (fun e => nomatch e)
theorem r_isAN {tp : Addr} {xs : List V} {us : List Value} (hT : H tp = some (.tup xs)) (h : NoF K D xs us) (q : Q (.bl false) H) : rIsAT K D a [.ref a, .ref tp] H Q := r_isAT hT h.cls h.any q
end
/-! turns -/
def trs (m : Int) : Nat → V3 → V3
  | 0, p => p
  | n + 1, p => trn m (trs m n p)
def tr3 (p q r : V3) : M3 := ⟨⟨p.x, q.x, r.x⟩, ⟨p.y, q.y, r.y⟩, ⟨p.z, q.z, r.z⟩, o3⟩
theorem tns_tr3 {a : Int} (h0 : 0 ≤ a) (h1 : a ≤ 2) {n : Nat} (hn : n ≤ 3) : tns a n = tr3 (trs a n e0) (trs a n e1) (trs a n e2) := by
  obtain rfl | rfl | rfl : a = 0 ∨ a = 1 ∨ a = 2 := by omega
  all_goals
    obtain rfl | rfl | rfl | rfl : n = 0 ∨ n = 1 ∨ n = 2 ∨ n = 3 := by omega
    all_goals
      apply M3.ext' <;> apply V3.ext' <;> decide +kernel
/-! some data with a bound -/
def Bn (K : PySem.W.Frag) (N : List Addr) (H : Hp) (v : V) : Prop := ∃ d, Dn K N H v d ∧ BdD 200 d
def BnA (K : PySem.W.Frag) (N : List Addr) (H : Hp) (m : Nat) (vs : List V) : Prop := ∃ ds, DnA K N H vs ds ∧ BdL 200 ds ∧ vs.length ≤ m
theorem BdL.app {k : Nat} : ∀ {ds es : List PyData}, BdL k ds → BdL k es → BdL k (ds ++ es)
  | [], _, _, h => h
  | d :: ds, es, h, g => by
    rw [BdL] at h
    rw [List.cons_append, BdL]
    exact ⟨h.1, h.2.app g⟩
theorem BdL.drop {k : Nat} : ∀ {ds : List PyData} (n : Nat), BdL k ds → BdL k (ds.drop n)
  | [], n, h => by rw [List.drop_nil]; exact h
  | d :: ds, 0, h => h
  | d :: ds, n + 1, h => by
    rw [BdL] at h
    exact h.2.drop n
theorem BdL.take {k : Nat} : ∀ {ds : List PyData} (n : Nat), BdL k ds → BdL k (ds.take n)
  | [], n, h => by rw [List.take_nil]; exact h
  | _ :: _, 0, _ => by rw [List.take_zero, BdL]; trivial
  | d :: ds, n + 1, h => by
    rw [BdL] at h
    rw [List.take_succ_cons, BdL]
    exact ⟨h.1, h.2.take n⟩
theorem bd_q {q : Rat} (h : BN 200 200 q) : BdD 200 (qD q) := by
  rw [qD, BdD, BdL, BdL, BdL, BdD, BdD]
  exact ⟨h.n, h.d, trivial⟩
theorem bd_v {p : V3} (h : VN 200 200 p) : BdD 200 (vD p) := by
  rw [vD, BdD, BdL, BdL, BdL, BdL]
  exact ⟨bd_q h.x, bd_q h.y, bd_q h.z, trivial⟩
section
variable {K : PySem.W.Frag} {N N' : List Addr} {H H' : Hp} {v : V} {vs ws : List V} {m m' : Nat} {a : Addr}
theorem Bn.same (e : Same H H') (h : Bn K N H v) : Bn K N H' v := let ⟨d, x, y⟩ := h; ⟨d, x.same e, y⟩
theorem Bn.fr {st : Addr} (e : Fr st H H') (hs : My.St K H st) (hN : st ∈ N) (h : Bn K N H v) : Bn K N H' v := let ⟨d, x, y⟩ := h; ⟨d, x.fr e hs hN, y⟩
theorem Bn.ob (h : Bn K N H v) : ∃ d, Ob K H v d ∧ BdD 200 d := let ⟨d, x, y⟩ := h; ⟨d, .inl x.dp, y⟩
theorem Bn.non : Bn K N H .non := ⟨_, .non, by rw [BdD] <;> simp⟩
theorem Bn.bl (b : Bool) : Bn K N H (.bl b) := ⟨_, .bl b, by rw [BdD] <;> simp⟩
theorem Bn.int {i : Int} (h : B 200 i) : Bn K N H (.int i) := ⟨_, .int i, by rw [BdD]; exact h⟩
theorem Bn.str (x : Str) : Bn K N H (.str x) := ⟨_, .str x, by rw [BdD] <;> simp⟩
theorem Bn.tup (q : SqT K H a vs) (h : BnA K N H m vs) : Bn K N H (.ref a) := let ⟨ds, x, y, z⟩ := h; ⟨_, .tup q x, by rw [BdD]; exact y⟩
theorem Bn.lst (hn : a ∉ N) (q : H a = some (.lst vs)) (h : BnA K N H m vs) : Bn K N H (.ref a) := let ⟨ds, x, y, z⟩ := h; ⟨_, .lst hn q x, by rw [BdD]; exact y⟩
theorem Bn.vc {p : V3} (h : Vc K H a p) (hp : VN 200 200 p) : Bn K N H (.ref a) := ⟨_, h.dn, bd_v hp⟩
theorem BnA.nil : BnA K N H 0 [] := ⟨[], .nil, by rw [BdL]; trivial, Nat.le_refl _⟩
theorem BnA.cons (h : Bn K N H v) (t : BnA K N H m vs) : BnA K N H (m + 1) (v :: vs) := let ⟨d, x, y⟩ := h; let ⟨ds, z, u, l⟩ := t; ⟨d :: ds, .cons x z, by rw [BdL]; exact ⟨y, u⟩, Nat.succ_le_succ l⟩
theorem BnA.append (h : BnA K N H m vs) (t : BnA K N H m' ws) : BnA K N H (m + m') (vs ++ ws) := let ⟨ds, x, y, l⟩ := h; let ⟨es, z, u, l'⟩ := t; ⟨ds ++ es, x.append z, y.app u, by rw [List.length_append]; omega⟩
theorem BnA.cut (h : BnA K N H m vs) (lo hi : Option Int) : BnA K N H m (cutV vs lo hi) := let ⟨ds, x, y, l⟩ := h; ⟨_, (x.drop _).take _, (y.drop _).take _, Nat.le_trans (cutV_length _ _ _) l⟩
theorem BnA.same (e : Same H H') (h : BnA K N H m vs) : BnA K N H' m vs := let ⟨d, x, y⟩ := h; ⟨d, x.same e, y⟩
end
end My
namespace My
open PySem L2
theorem w_dnew {σ : L2.St} {H : Hp} {Q : VK} (h : ∀ (p : Addr) (H1 : Hp), H p = none → Same H H1 → H1 p = some (.dK []) → Q (.ref p) H1) : tDNewK σ H Q := fun p np => h p _ np (Same.new np) upd_same
end My
namespace My
open PySem L2 PyProof.Rows
section
variable {K : PySem.W.Frag} {N N' : List Addr} {H H' : Hp} {v : V} {vs ws : List V} {m m' : Nat} {a : Addr}
theorem Bn.q {q : Rat} (h : SqT K H a [.int q.num, .int (q.den : Int)]) (hq : BN 200 200 q) : Bn K N H (.ref a) := ⟨_, .tup h (.cons (.int _) (.cons (.int _) .nil)), bd_q hq⟩
theorem BnA.get {i : Nat} (h : BnA K N H m vs) (e : vs[i]? = some v) : Bn K N H v := let ⟨_, x, y, _⟩ := h; let ⟨d, ed, dx⟩ := x.get e; ⟨d, dx, y.mem (List.mem_of_getElem? ed)⟩
theorem BnA.fr {st : Addr} (e : Fr st H H') (hs : My.St K H st) (hN : st ∈ N) (h : BnA K N H m vs) : BnA K N H' m vs := let ⟨d, x, y⟩ := h; ⟨d, x.mp (fun _ _ n h => ⟨n, e.keep _ _ (fun q => n (q ▸ hN)) h⟩) (TK.fr e hs), y⟩
def Ox (K : PySem.W.Frag) (N : List Addr) (H : Hp) (v : V) : Prop := Bn K N H v ∨ ∃ a kvs, v = .ref a ∧ a ∉ N ∧ H a = some (.dK kvs)
theorem Ox.fr {st : Addr} (e : Fr st H H') (hs : My.St K H st) (hN : st ∈ N) (h : Ox K N H v) : Ox K N H' v :=
  h.imp (fun h => h.fr e hs hN) fun ⟨a, kvs, h1, h2, h3⟩ => ⟨a, kvs, h1, h2, e.keep _ _ (fun q => h2 (q ▸ hN)) h3⟩
theorem Ox.ob (h : Ox K N H v) : ∃ d, Ob K H v d ∧ BdD 200 d := by
  rcases h with h | ⟨a, kvs, rfl, h2, h3⟩
  · exact h.ob
  · exact ⟨.dict [], .inr ⟨a, kvs, rfl, h3, rfl, (fun _ e => nomatch e), (fun _ e => nomatch e)⟩, by rw [BdD] <;> simp⟩
end
end My
namespace My
open PySem L2
theorem Fr.nonB {K : PySem.W.Frag} {H H' : Hp} {st a : Addr} (e : Fr st H H') (hs : My.St K H st) (h : H' a = none) : H a = none := by
  by_cases c : a = st
  · subst c
    obtain ⟨l, ns, i1, i2, i3, i4, i5, i6, hs⟩ := hs
    obtain ⟨ys, hy, _⟩ := e.hd _ hs.at_
    rw [hy] at h
    cases h
  · cases hh : H a with
    | none => rfl
    | some o => rw [e.keep _ _ c hh] at h; cases h
end My
namespace My
open PySem
/-- the scope of the first comprehension of an expression -/
def lcScF : Nat → Expr → Option Scope
  | 0, _ => none
  | _ + 1, .ListComp _ _ sc _ => some sc
  | n + 1, .Call _ es _ _ => es.findSome? (lcScF n)
  | n + 1, .Tuple es _ _ => es.findSome? (lcScF n)
  | _ + 1, _ => none
def stF : Stmt → Scope
  | .Assign _ e _ => (lcScF 6 e).getD { kind := .function, names := [], isGenerator := false, isCoroutine := false }
  | .Return (some e) _ => (lcScF 6 e).getD { kind := .function, names := [], isGenerator := false, isCoroutine := false }
  | .Expr e _ => (lcScF 6 e).getD { kind := .function, names := [], isGenerator := false, isCoroutine := false }
  | _ => { kind := .function, names := [], isGenerator := false, isCoroutine := false }
end My
namespace My
open PySem L2 PyProof.Rows
theorem pe_m (A : M3) : Pe 6 (mD A) := by
  refine ⟨(by decide : 2 ≤ 400), fun d hd => ?_⟩
  simp only [List.mem_cons, List.not_mem_nil, or_false] at hd
  rcases hd with rfl | rfl
  · refine ⟨(by decide : 3 ≤ 400), fun d hd => ?_⟩
    simp only [List.mem_cons, List.not_mem_nil, or_false] at hd
    rcases hd with rfl | rfl | rfl <;> exact pe_v (n := 1) _
  · exact pe_v (n := 2) _
theorem bd_m {A : M3} (h : MN 200 200 A) : BdD 200 (mD A) := by
  rw [mD, BdD, BdL, BdL, BdL, BdD, BdL, BdL, BdL, BdL]
  exact ⟨⟨bd_v h.a, bd_v h.b, bd_v h.c, trivial⟩, bd_v h.s, trivial⟩
theorem Sz.succ : ∀ {n : Nat} {d : PyData}, Sz n d → Sz (n + 1) d
  | 0, _, h => h.elim
  | _ + 1, .none, _ => trivial
  | _ + 1, .bool _, _ => trivial
  | _ + 1, .int _, _ => trivial
  | _ + 1, .str _, _ => trivial
  | _ + 1, .list _, h => ⟨h.1, fun d q => (h.2 d q).succ⟩
  | _ + 1, .tuple _, h => ⟨h.1, fun d q => (h.2 d q).succ⟩
  | _ + 1, .dict _, _ => trivial
/-- a row that is new since H0: a tuple or a list (not at Da) of three numbers -/
def Ro (K : PySem.W.Frag) (H0 : Hp) (Da : Addr) (H : Hp) (r : Addr) (p : V3) : Prop := ∃ a b c : V, (SqT K H r [a, b, c] ∨ (H0 r = none ∧ r ≠ Da ∧ H r = some (.lst [a, b, c]))) ∧ RvQ K H a p.x ∧ RvQ K H b p.y ∧ RvQ K H c p.z
def Ros (K : PySem.W.Frag) (H0 : Hp) (Da : Addr) (H : Hp) (acc : List V) (ps : List V3) : Prop := Paired (fun v p => ∃ r, v = V.ref r ∧ Ro K H0 Da H r p) acc ps
section
variable {K : PySem.W.Frag} {N : List Addr} {H0 H H' : Hp} {st r v Da : Addr} {p : V3} {acc : List V} {ps : List V3} {o : HO}
theorem Ro.go (e : Fr st H H') (hs : My.St K H st) (hn : H0 st ≠ none) (h : Ro K H0 Da H r p) : Ro K H0 Da H' r p := by
  obtain ⟨a, b, c, h1, h2, h3, h4⟩ := h
  have tk := TK.fr e hs
  refine ⟨a, b, c, ?_, h2.frq tk, h3.frq tk, h4.frq tk⟩
  rcases h1 with h1 | ⟨h0, hd, h1⟩
  · exact .inl (tk _ _ h1)
  · exact .inr ⟨h0, hd, e.keep _ _ (fun q => hn (by rw [← q]; exact h0)) h1⟩
theorem Ro.same (e : Same H H') (h : Ro K H0 Da H r p) : Ro K H0 Da H' r p := by
  obtain ⟨a, b, c, h1, h2, h3, h4⟩ := h
  exact ⟨a, b, c, h1.imp (fun q => Same.tup e q) (fun q => ⟨q.1, q.2.1, e _ _ q.2.2⟩), h2.same e, h3.same e, h4.same e⟩
theorem Ro.upd {xs : List V} (hD : H Da = some (.lst xs)) (h : Ro K H0 Da H r p) : Ro K H0 Da (L2.upd H Da o) r p := by
  obtain ⟨a, b, c, h1, h2, h3, h4⟩ := h
  have tk : TK K H (L2.upd H Da o) := TK.upd hD
  exact ⟨a, b, c, h1.imp (fun q => tk _ _ q) (fun q => ⟨q.1, q.2.1, (upd_ne q.2.1).trans q.2.2⟩), h2.frq tk, h3.frq tk, h4.frq tk⟩
theorem Ro.rowV (h : Ro K H0 Da H r p) : RowV K H r p := by
  obtain ⟨a, b, c, h1, h2, h3, h4⟩ := h
  exact ⟨a, b, c, h1.imp id (fun q => SqL.of q.2.2), h2, h3, h4⟩
theorem Ros.nil : Ros K H0 Da H [] [] := Paired.nil
theorem Ros.go (e : Fr st H H') (hs : My.St K H st) (hn : H0 st ≠ none) (h : Ros K H0 Da H acc ps) : Ros K H0 Da H' acc ps := Paired.mapP h fun _ _ ⟨r, e1, e3⟩ => ⟨r, e1, e3.go e hs hn⟩
theorem Ros.same (e : Same H H') (h : Ros K H0 Da H acc ps) : Ros K H0 Da H' acc ps := Paired.mapP h fun _ _ ⟨r, e1, e3⟩ => ⟨r, e1, e3.same e⟩
theorem Ros.upd {xs : List V} (hD : H Da = some (.lst xs)) (h : Ros K H0 Da H acc ps) : Ros K H0 Da (L2.upd H Da o) acc ps := Paired.mapP h fun _ _ ⟨r, e1, e3⟩ => ⟨r, e1, e3.upd hD⟩
theorem Ros.snoc (h : Ros K H0 Da H acc ps) (hr : Ro K H0 Da H r p) : Ros K H0 Da H (acc ++ [.ref r]) (ps ++ [p]) := paired_snoc (R := fun v p => ∃ r, v = V.ref r ∧ Ro K H0 Da H r p) ⟨r, rfl, hr⟩ h
theorem Ros.three {p q t : V3} (h : Ros K H0 Da H acc [p, q, t]) : ∃ a b c : Addr, acc = [.ref a, .ref b, .ref c] ∧ Ro K H0 Da H a p ∧ Ro K H0 Da H b q ∧ Ro K H0 Da H c t := by
  unfold Ros at h
  cases h with
  | cons r1 h =>
    cases h with
    | cons r2 h =>
      cases h with
      | cons r3 h =>
        cases h
        obtain ⟨a, rfl, ha⟩ := r1
        obtain ⟨b, rfl, hb⟩ := r2
        obtain ⟨c, rfl, hc⟩ := r3
        exact ⟨a, b, c, rfl, ha, hb, hc⟩
theorem RvL.three {x y z : Rat} (h : Paired (fun v q => RvQ K H v q) acc [x, y, z]) : ∃ a b c : V, acc = [a, b, c] ∧ RvQ K H a x ∧ RvQ K H b y ∧ RvQ K H c z := by
  cases h with
  | cons r1 h =>
    cases h with
    | cons r2 h =>
      cases h with
      | cons r3 h =>
        cases h
        exact ⟨_, _, _, rfl, r1, r2, r3⟩
set_option Elab.async true in
theorem num_d {v : V} {q : Rat} (h : RvQ K H v q) (hq : BN 150 150 q) : ∃ d, Dn K N H v d ∧ (∀ n, Sz (n + 2) d) ∧ Rp 1 2 d := by
  rcases h with ⟨z, rfl, rfl⟩ | ⟨a, rfl, ha⟩
  · refine ⟨.int z, .int z, fun n => trivial, Rp.le (Rp.int ?_) (by decide) (by decide)⟩
    have := hq.n
    rw [numI] at this
    exact this.le (by decide)
  · refine ⟨_, .tup ha (.cons (.int _) (.cons (.int _) .nil)), fun n => ⟨(by decide : 2 ≤ 3), fun d hd => ?_⟩, Rp.tuple (l := 2) (n := 0) (m := 0) (fun d hd => ?_) (Nat.le_refl 2)⟩
    · simp only [List.mem_cons, List.not_mem_nil, or_false] at hd
      rcases hd with rfl | rfl <;> exact trivial
    · simp only [List.mem_cons, List.not_mem_nil, or_false] at hd
      rcases hd with rfl | rfl
      · exact Rp.int (hq.n.le (by decide))
      · exact Rp.int (hq.d.le (by decide))
in #guard_msgs in universe u_z
set_option Elab.async true in
theorem tri_d {a b c : V} {m k t : Nat} (h1 : SqT K H r [a, b, c] ∨ (r ∉ N ∧ H r = some (.lst [a, b, c])))
    (ha : ∃ d, Dn K N H a d ∧ (∀ n, Sz (n + t) d) ∧ Rp m k d) (hb : ∃ d, Dn K N H b d ∧ (∀ n, Sz (n + t) d) ∧ Rp m k d) (hc : ∃ d, Dn K N H c d ∧ (∀ n, Sz (n + t) d) ∧ Rp m k d) :
    ∃ d, Dn K N H (.ref r) d ∧ (∀ n, Sz (n + t + 1) d) ∧ Rp (m + 1) (3 * (k + 1)) d := by
  obtain ⟨x, x1, x2, x3⟩ := ha
  obtain ⟨y, y1, y2, y3⟩ := hb
  obtain ⟨z, z1, z2, z3⟩ := hc
  have hm : ∀ d, d ∈ [x, y, z] → (∀ n, Sz (n + t) d) ∧ Rp m k d := fun d hd => by
    simp only [List.mem_cons, List.not_mem_nil, or_false] at hd
    rcases hd with rfl | rfl | rfl
    · exact ⟨x2, x3⟩
    · exact ⟨y2, y3⟩
    · exact ⟨z2, z3⟩
  rcases h1 with h1 | ⟨h0, h1⟩
  · exact ⟨.tuple [x, y, z], .tup h1 (.cons x1 (.cons y1 (.cons z1 .nil))), fun n => ⟨(by decide : 3 ≤ 3), fun d hd => (hm d hd).1 n⟩, Rp.tuple (fun d hd => (hm d hd).2) (Nat.le_refl 3)⟩
  · exact ⟨.list [x, y, z], .lst h0 h1 (.cons x1 (.cons y1 (.cons z1 .nil))), fun n => ⟨(by decide : 3 ≤ 3), fun d hd => (hm d hd).1 n⟩, Rp.list (fun d hd => (hm d hd).2) (Nat.le_refl 3)⟩
in #guard_msgs in universe u_z
set_option Elab.async true in
theorem st_pin (h : My.St K H st) : ∃ l, Al H [st, l] ∧ ∀ H', Fr st H H' → My.St K H' st → ∃ ns i1 i2 i3 i4 i5 i6, StD K H' st l ns i1 i2 i3 i4 i5 i6 := by
  obtain ⟨l, ns, i1, i2, i3, i4, i5, i6, h⟩ := h
  refine ⟨l, fun a ha => ?_, fun H' e h1 => ?_⟩
  · simp only [List.mem_cons, List.not_mem_nil, or_false] at ha
    rcases ha with rfl | rfl
    · rw [h.at_]; exact fun q => nomatch q
    · rw [h.lst]; exact fun q => nomatch q
  · obtain ⟨l', ns', j1, j2, j3, j4, j5, j6, h1⟩ := h1
    obtain ⟨ys, hy, e2⟩ := e.hd _ h.at_
    rw [h1.at_] at hy
    cases hy
    have el : l' = l := by simpa using e2
    subst el
    exact ⟨ns', j1, j2, j3, j4, j5, j6, h1⟩
in #guard_msgs in universe u_z
theorem StD.keepN {l : Addr} {ns : List Int} {i1 i2 i3 i4 i5 i6 : Int} (h : StD K H st l ns i1 i2 i3 i4 i5 i6) (e : ∀ a, a ∈ [st, l] → H' a = H a) : StD K H' st l ns i1 i2 i3 i4 i5 i6 :=
  ⟨(e st (by simp)).trans h.at_, h.ne, (e l (by simp)).trans h.lst, h.nn⟩
end
end My
namespace My
open PySem L2
section
variable {K : PySem.W.Frag} {N : List Addr} {H H0 : Hp} {v : V} {vs : List V} {m m0 : Nat}
theorem Bn.gd (_ : Bn K N H0 v) (p : Bn K N H v) : Bn K N H v := p
theorem BnA.gd (_ : BnA K N H0 m0 vs) (p : BnA K N H m vs) : BnA K N H m vs := p
end
end My

set_option Elab.async false
set_option maxRecDepth 100000
set_option linter.all false
/-! a dict with keys of all plain kinds together -/
namespace My
open PySem
open Sem (wp)
section
variable {prog : Program} {w : World} {A : Around} {E : Value → Shared → Prop} {s : Shared}
def EntK (w : World) (h : Heap) (e : DictEntry) (k : NestedKey) : Prop := NestedIs h k e.key ∧ k.depth ≤ 8 ∧ e.hash = k.hash w
theorem eqBool_ne {x y : NestedKey} {a b : Value} {Q : Bool → Shared → Prop} (hu : A.units + 8 < cLine) (hx : NestedIs s.heap x a) (hy : NestedIs s.heap y b) (dx : x.depth ≤ 8) (hne : x ≠ y) (h : Q false s) : wpAny (model prog w) A (eqBool a b) Q E s :=
  eqAt_key x y A s _ _ hx hy (by omega) _ _ _ _ (by rw [← NestedKey.decide_eq, decide_eq_false hne]; exact h)
set_option Elab.async true in
theorem mayTell_quiet {u : Value} {k : NestedKey} {stored : List Value} {Q : Bool → Shared → Prop} (hk : NestedIs s.heap k u) (hd : k.depth ≤ 8)
    (hst : ∀ v ∈ stored, ∃ k', NestedIs s.heap k' v ∧ k'.depth ≤ 8) (h : Q false s) : wpAny (model prog w) A (tableMayTell u stored) Q E s := by
  unfold tableMayTell
  split
  · exact wpAny_pure h
  · refine wpAny_bind (quiet_key k _ 8 s hk hd A E _ ?_)
    simp only [Bool.not_true, Bool.false_eq_true, if_false]
    refine wpAny_bind ?_
    refine wpAny_forIn_list _ (fun rest r s' => s' = s ∧ r = (none, ()) ∧ ∀ v ∈ rest, ∃ k', NestedIs s.heap k' v ∧ k'.depth ≤ 8) _ ?_ ?_ _ _ ⟨rfl, rfl, hst⟩
    · rintro x rest r s' ⟨rfl, rfl, hr⟩
      obtain ⟨k', hb, hd'⟩ := hr x List.mem_cons_self
      refine wpAny_bind (quiet_key k' _ 8 _ hb hd' A E _ ?_)
      simp only [Bool.not_true, Bool.false_eq_true, if_false]
      exact wpAny_pure ⟨rfl, rfl, fun v hv => hr v (List.mem_cons_of_mem _ hv)⟩
    · rintro r s' ⟨rfl, rfl, _⟩
      exact wpAny_pure h
in #guard_msgs in universe u_z
set_option Elab.async true in
set_option maxHeartbeats 4000000 in
theorem find_none {d : Addr} {u : Value} {o : Obj} {es : Array DictEntry} {ep : Nat} {k : NestedKey} {Q : Option Nat → Shared → Prop} (hu : A.units + 8 < cLine) (hk : NestedIs s.heap k u) (hd8 : k.depth ≤ 8)
    (ho : s.heap.get? d = some o) (hd : o.data = .dict es ep) (hes : ∀ e ∈ es.toList, ∃ k', EntK w s.heap e k' ∧ k' ≠ k) (h : Q none s) : wpAny (model prog w) A (dictFind d u (k.hash w)) Q E s := by
  have hst : ∀ v ∈ (placesWithHash es.size (fun i => es[i]?.map (·.hash)) (k.hash w)).filterMap (fun i => es[i]?.map (·.key)), ∃ k', NestedIs s.heap k' v ∧ k'.depth ≤ 8 := by
    intro v hv
    obtain ⟨i, _, hi⟩ := List.mem_filterMap.mp hv
    cases hei : es[i]? with
    | none => rw [hei] at hi; cases hi
    | some e =>
      rw [hei] at hi
      obtain rfl : e.key = v := by simpa using hi
      obtain ⟨k', h1, _⟩ := hes e (Array.mem_toList_iff.mpr (Array.mem_of_getElem? hei))
      exact ⟨k', h1.1, h1.2.1⟩
  have hany : ¬ (es.any fun e => e.key == u && e.hash != k.hash w) = true := by
    rw [← Array.any_toList, List.any_eq_true]
    rintro ⟨e, hin, hc⟩
    obtain ⟨k', h1, hne⟩ := hes e hin
    simp only [Bool.and_eq_true, beq_iff_eq, bne_iff_ne, ne_eq] at hc
    have h2 := h1.1
    rw [hc.1] at h2
    exact hne (NestedIs.inj _ _ _ h2 hk)
  have hstr : ∀ x t, u = .str x t → es.findIdx? (·.key.isStr x) = none := by
    rintro x t rfl
    rw [Array.findIdx?_eq_none_iff]
    intro e hin
    obtain ⟨k', h1, hne⟩ := hes e (Array.mem_toList_iff.mpr hin)
    cases hb : e.key.isStr x with
    | false => rfl
    | true =>
      exfalso
      obtain ⟨t', et⟩ : ∃ t', e.key = .str x t' := by
        cases hek : e.key <;> rw [hek] at hb <;> simp_all [Value.isStr]
      have h2 := h1.1
      rw [et] at h2
      cases h2
      cases hk
      exact hne rfl
  unfold dictFind
  try with_reducible refine wpAny_holding ?_
  refine wpAny_bind (wpAny_dictEntries ho hd ?_)
  cases u with
  | none =>
    dsimp only
    have hplaces : ∀ x ∈ placesWithHash es.size (fun i => es[i]?.map (·.hash)) (k.hash w), x < es.size := fun x hx => by
      rw [placesWithHash] at hx
      exact List.mem_range.mp (List.mem_filter.mp hx).1
    by_cases hcv : ((Value.none :: (placesWithHash es.size (fun i => es[i]?.map (·.hash)) (k.hash w)).filterMap (fun i => es[i]?.map (·.key))).all carriedByValue) = true
    · rw [if_pos hcv]
      unfold dictWalkPlain
      refine wpAny_bind ?_
      refine wpAny_forIn_list _ (fun rest r s' => s' = s ∧ r = (none, ()) ∧ ∀ x ∈ rest, x < es.size) _ ?_ ?_ _ _ ⟨rfl, rfl, hplaces⟩
      · rintro x rest r s' ⟨rfl, rfl, hr⟩
        have hx := hr x List.mem_cons_self
        have hr' : ∀ y ∈ rest, y < es.size := fun y hy => hr y (List.mem_cons_of_mem _ hy)
        obtain ⟨k', h1, hne⟩ := hes es[x] (Array.mem_toList_iff.mpr (Array.getElem_mem hx))
        rw [Array.getElem?_eq_getElem hx]
        dsimp only
        by_cases hh : (es[x].hash == k.hash w) = true
        · rw [if_pos hh]
          refine wpAny_bind (wpAny_dictEpoch ho hd (wpAny_bind (eqBool_ne hu h1.1 hk h1.2.1 hne (wpAny_bind (wpAny_dictEpoch ho hd ?_)))))
          rw [if_neg (by simp)]
          simp only [Bool.false_eq_true, if_false]
          refine wpAny_bind (wpAny_rule ?_)
          exact wpAny_pure ⟨rfl, rfl, hr'⟩
        · rw [if_neg hh]
          exact wpAny_pure ⟨rfl, rfl, hr'⟩
      · rintro r s' ⟨rfl, rfl, _⟩
        exact wpAny_pure h
    · rw [if_neg hcv]
      by_cases hone : (((placesWithHash es.size (fun i => es[i]?.map (·.hash)) (k.hash w)).filterMap (fun i => es[i]?.map (·.key))) == [Value.none]) = true <;>
      (first | rw [if_pos hone] | rw [if_neg hone]) <;> (first | refine wpAny_bind (wpAny_pure ?_) | refine wpAny_bind (mayTell_quiet hk hd8 hst ?_)) <;> (
        rw [if_neg (by simp)]
        refine wpAny_bind ?_
        refine wpAny_forIn_list _ (fun rest r s' => s' = s ∧ r = (none, none) ∧ ∀ x ∈ rest, x < es.size) _ ?_ ?_ _ _ ⟨rfl, rfl, hplaces⟩
        · rintro x rest r s' ⟨rfl, rfl, hr⟩
          have hx := hr x List.mem_cons_self
          have hr' : ∀ y ∈ rest, y < es.size := fun y hy => hr y (List.mem_cons_of_mem _ hy)
          obtain ⟨k', h1, hne⟩ := hes es[x] (Array.mem_toList_iff.mpr (Array.getElem_mem hx))
          rw [Array.getElem?_eq_getElem hx]
          dsimp only
          by_cases hh : (es[x].hash == k.hash w) = true
          · rw [if_pos hh]
            refine wpAny_bind (wpAny_dictEpoch ho hd (wpAny_bind (eqBool_ne hu h1.1 hk h1.2.1 hne (wpAny_bind (wpAny_dictEpoch ho hd ?_)))))
            rw [if_neg (by simp)]
            simp only [Bool.false_eq_true, if_false]
            refine wpAny_bind (wpAny_rule ?_)
            rw [if_neg (by simp)]
            exact wpAny_pure ⟨rfl, rfl, hr'⟩
          · rw [if_neg hh]
            exact wpAny_pure ⟨rfl, rfl, hr'⟩
        · rintro r s' ⟨rfl, rfl, _⟩
          exact wpAny_pure h)
  | bool b =>
    dsimp only
    have hplaces : ∀ x ∈ placesWithHash es.size (fun i => es[i]?.map (·.hash)) (k.hash w), x < es.size := fun x hx => by
      rw [placesWithHash] at hx
      exact List.mem_range.mp (List.mem_filter.mp hx).1
    by_cases hcv : ((Value.bool b :: (placesWithHash es.size (fun i => es[i]?.map (·.hash)) (k.hash w)).filterMap (fun i => es[i]?.map (·.key))).all carriedByValue) = true
    · rw [if_pos hcv]
      unfold dictWalkPlain
      refine wpAny_bind ?_
      refine wpAny_forIn_list _ (fun rest r s' => s' = s ∧ r = (none, ()) ∧ ∀ x ∈ rest, x < es.size) _ ?_ ?_ _ _ ⟨rfl, rfl, hplaces⟩
      · rintro x rest r s' ⟨rfl, rfl, hr⟩
        have hx := hr x List.mem_cons_self
        have hr' : ∀ y ∈ rest, y < es.size := fun y hy => hr y (List.mem_cons_of_mem _ hy)
        obtain ⟨k', h1, hne⟩ := hes es[x] (Array.mem_toList_iff.mpr (Array.getElem_mem hx))
        rw [Array.getElem?_eq_getElem hx]
        dsimp only
        by_cases hh : (es[x].hash == k.hash w) = true
        · rw [if_pos hh]
          refine wpAny_bind (wpAny_dictEpoch ho hd (wpAny_bind (eqBool_ne hu h1.1 hk h1.2.1 hne (wpAny_bind (wpAny_dictEpoch ho hd ?_)))))
          rw [if_neg (by simp)]
          simp only [Bool.false_eq_true, if_false]
          refine wpAny_bind (wpAny_rule ?_)
          exact wpAny_pure ⟨rfl, rfl, hr'⟩
        · rw [if_neg hh]
          exact wpAny_pure ⟨rfl, rfl, hr'⟩
      · rintro r s' ⟨rfl, rfl, _⟩
        exact wpAny_pure h
    · rw [if_neg hcv]
      by_cases hone : (((placesWithHash es.size (fun i => es[i]?.map (·.hash)) (k.hash w)).filterMap (fun i => es[i]?.map (·.key))) == [Value.bool b]) = true <;>
      (first | rw [if_pos hone] | rw [if_neg hone]) <;> (first | refine wpAny_bind (wpAny_pure ?_) | refine wpAny_bind (mayTell_quiet hk hd8 hst ?_)) <;> (
        rw [if_neg (by simp)]
        refine wpAny_bind ?_
        refine wpAny_forIn_list _ (fun rest r s' => s' = s ∧ r = (none, none) ∧ ∀ x ∈ rest, x < es.size) _ ?_ ?_ _ _ ⟨rfl, rfl, hplaces⟩
        · rintro x rest r s' ⟨rfl, rfl, hr⟩
          have hx := hr x List.mem_cons_self
          have hr' : ∀ y ∈ rest, y < es.size := fun y hy => hr y (List.mem_cons_of_mem _ hy)
          obtain ⟨k', h1, hne⟩ := hes es[x] (Array.mem_toList_iff.mpr (Array.getElem_mem hx))
          rw [Array.getElem?_eq_getElem hx]
          dsimp only
          by_cases hh : (es[x].hash == k.hash w) = true
          · rw [if_pos hh]
            refine wpAny_bind (wpAny_dictEpoch ho hd (wpAny_bind (eqBool_ne hu h1.1 hk h1.2.1 hne (wpAny_bind (wpAny_dictEpoch ho hd ?_)))))
            rw [if_neg (by simp)]
            simp only [Bool.false_eq_true, if_false]
            refine wpAny_bind (wpAny_rule ?_)
            rw [if_neg (by simp)]
            exact wpAny_pure ⟨rfl, rfl, hr'⟩
          · rw [if_neg hh]
            exact wpAny_pure ⟨rfl, rfl, hr'⟩
        · rintro r s' ⟨rfl, rfl, _⟩
          exact wpAny_pure h)
  | int i t =>
    dsimp only
    have hplaces : ∀ x ∈ placesWithHash es.size (fun i => es[i]?.map (·.hash)) (k.hash w), x < es.size := fun x hx => by
      rw [placesWithHash] at hx
      exact List.mem_range.mp (List.mem_filter.mp hx).1
    by_cases hcv : ((Value.int i t :: (placesWithHash es.size (fun i => es[i]?.map (·.hash)) (k.hash w)).filterMap (fun i => es[i]?.map (·.key))).all carriedByValue) = true
    · rw [if_pos hcv]
      unfold dictWalkPlain
      refine wpAny_bind ?_
      refine wpAny_forIn_list _ (fun rest r s' => s' = s ∧ r = (none, ()) ∧ ∀ x ∈ rest, x < es.size) _ ?_ ?_ _ _ ⟨rfl, rfl, hplaces⟩
      · rintro x rest r s' ⟨rfl, rfl, hr⟩
        have hx := hr x List.mem_cons_self
        have hr' : ∀ y ∈ rest, y < es.size := fun y hy => hr y (List.mem_cons_of_mem _ hy)
        obtain ⟨k', h1, hne⟩ := hes es[x] (Array.mem_toList_iff.mpr (Array.getElem_mem hx))
        rw [Array.getElem?_eq_getElem hx]
        dsimp only
        by_cases hh : (es[x].hash == k.hash w) = true
        · rw [if_pos hh]
          refine wpAny_bind (wpAny_dictEpoch ho hd (wpAny_bind (eqBool_ne hu h1.1 hk h1.2.1 hne (wpAny_bind (wpAny_dictEpoch ho hd ?_)))))
          rw [if_neg (by simp)]
          simp only [Bool.false_eq_true, if_false]
          refine wpAny_bind (wpAny_rule ?_)
          exact wpAny_pure ⟨rfl, rfl, hr'⟩
        · rw [if_neg hh]
          exact wpAny_pure ⟨rfl, rfl, hr'⟩
      · rintro r s' ⟨rfl, rfl, _⟩
        exact wpAny_pure h
    · rw [if_neg hcv]
      by_cases hone : (((placesWithHash es.size (fun i => es[i]?.map (·.hash)) (k.hash w)).filterMap (fun i => es[i]?.map (·.key))) == [Value.int i t]) = true <;>
      (first | rw [if_pos hone] | rw [if_neg hone]) <;> (first | refine wpAny_bind (wpAny_pure ?_) | refine wpAny_bind (mayTell_quiet hk hd8 hst ?_)) <;> (
        rw [if_neg (by simp)]
        refine wpAny_bind ?_
        refine wpAny_forIn_list _ (fun rest r s' => s' = s ∧ r = (none, none) ∧ ∀ x ∈ rest, x < es.size) _ ?_ ?_ _ _ ⟨rfl, rfl, hplaces⟩
        · rintro x rest r s' ⟨rfl, rfl, hr⟩
          have hx := hr x List.mem_cons_self
          have hr' : ∀ y ∈ rest, y < es.size := fun y hy => hr y (List.mem_cons_of_mem _ hy)
          obtain ⟨k', h1, hne⟩ := hes es[x] (Array.mem_toList_iff.mpr (Array.getElem_mem hx))
          rw [Array.getElem?_eq_getElem hx]
          dsimp only
          by_cases hh : (es[x].hash == k.hash w) = true
          · rw [if_pos hh]
            refine wpAny_bind (wpAny_dictEpoch ho hd (wpAny_bind (eqBool_ne hu h1.1 hk h1.2.1 hne (wpAny_bind (wpAny_dictEpoch ho hd ?_)))))
            rw [if_neg (by simp)]
            simp only [Bool.false_eq_true, if_false]
            refine wpAny_bind (wpAny_rule ?_)
            rw [if_neg (by simp)]
            exact wpAny_pure ⟨rfl, rfl, hr'⟩
          · rw [if_neg hh]
            exact wpAny_pure ⟨rfl, rfl, hr'⟩
        · rintro r s' ⟨rfl, rfl, _⟩
          exact wpAny_pure h)
  | str x t =>
    dsimp only
    by_cases hall : (es.all fun e => isExactStrKey e.key) = true
    · rw [if_pos hall]
      unfold foundByValue
      rw [hstr _ _ rfl]
      exact wpAny_pure h
    · rw [if_neg hall]
      have hplaces : ∀ x ∈ placesWithHash es.size (fun i => es[i]?.map (·.hash)) (k.hash w), x < es.size := fun x hx => by
        rw [placesWithHash] at hx
        exact List.mem_range.mp (List.mem_filter.mp hx).1
      by_cases hcv : ((Value.str x t :: (placesWithHash es.size (fun i => es[i]?.map (·.hash)) (k.hash w)).filterMap (fun i => es[i]?.map (·.key))).all carriedByValue) = true
      · rw [if_pos hcv]
        unfold dictWalkPlain
        refine wpAny_bind ?_
        refine wpAny_forIn_list _ (fun rest r s' => s' = s ∧ r = (none, ()) ∧ ∀ x ∈ rest, x < es.size) _ ?_ ?_ _ _ ⟨rfl, rfl, hplaces⟩
        · rintro x rest r s' ⟨rfl, rfl, hr⟩
          have hx := hr x List.mem_cons_self
          have hr' : ∀ y ∈ rest, y < es.size := fun y hy => hr y (List.mem_cons_of_mem _ hy)
          obtain ⟨k', h1, hne⟩ := hes es[x] (Array.mem_toList_iff.mpr (Array.getElem_mem hx))
          rw [Array.getElem?_eq_getElem hx]
          dsimp only
          by_cases hh : (es[x].hash == k.hash w) = true
          · rw [if_pos hh]
            refine wpAny_bind (wpAny_dictEpoch ho hd (wpAny_bind (eqBool_ne hu h1.1 hk h1.2.1 hne (wpAny_bind (wpAny_dictEpoch ho hd ?_)))))
            rw [if_neg (by simp)]
            simp only [Bool.false_eq_true, if_false]
            refine wpAny_bind (wpAny_rule ?_)
            exact wpAny_pure ⟨rfl, rfl, hr'⟩
          · rw [if_neg hh]
            exact wpAny_pure ⟨rfl, rfl, hr'⟩
        · rintro r s' ⟨rfl, rfl, _⟩
          exact wpAny_pure h
      · rw [if_neg hcv]
        by_cases hone : (((placesWithHash es.size (fun i => es[i]?.map (·.hash)) (k.hash w)).filterMap (fun i => es[i]?.map (·.key))) == [Value.str x t]) = true <;>
        (first | rw [if_pos hone] | rw [if_neg hone]) <;> (first | refine wpAny_bind (wpAny_pure ?_) | refine wpAny_bind (mayTell_quiet hk hd8 hst ?_)) <;> (
          rw [if_neg (by simp)]
          refine wpAny_bind ?_
          refine wpAny_forIn_list _ (fun rest r s' => s' = s ∧ r = (none, none) ∧ ∀ x ∈ rest, x < es.size) _ ?_ ?_ _ _ ⟨rfl, rfl, hplaces⟩
          · rintro x rest r s' ⟨rfl, rfl, hr⟩
            have hx := hr x List.mem_cons_self
            have hr' : ∀ y ∈ rest, y < es.size := fun y hy => hr y (List.mem_cons_of_mem _ hy)
            obtain ⟨k', h1, hne⟩ := hes es[x] (Array.mem_toList_iff.mpr (Array.getElem_mem hx))
            rw [Array.getElem?_eq_getElem hx]
            dsimp only
            by_cases hh : (es[x].hash == k.hash w) = true
            · rw [if_pos hh]
              refine wpAny_bind (wpAny_dictEpoch ho hd (wpAny_bind (eqBool_ne hu h1.1 hk h1.2.1 hne (wpAny_bind (wpAny_dictEpoch ho hd ?_)))))
              rw [if_neg (by simp)]
              simp only [Bool.false_eq_true, if_false]
              refine wpAny_bind (wpAny_rule ?_)
              rw [if_neg (by simp)]
              exact wpAny_pure ⟨rfl, rfl, hr'⟩
            · rw [if_neg hh]
              exact wpAny_pure ⟨rfl, rfl, hr'⟩
          · rintro r s' ⟨rfl, rfl, _⟩
            exact wpAny_pure h)
  | ref a =>
    dsimp only
    have hplaces : ∀ x ∈ placesWithHash es.size (fun i => es[i]?.map (·.hash)) (k.hash w), x < es.size := fun x hx => by
      rw [placesWithHash] at hx
      exact List.mem_range.mp (List.mem_filter.mp hx).1
    by_cases hcv : ((Value.ref a :: (placesWithHash es.size (fun i => es[i]?.map (·.hash)) (k.hash w)).filterMap (fun i => es[i]?.map (·.key))).all carriedByValue) = true
    · rw [if_pos hcv]
      unfold dictWalkPlain
      refine wpAny_bind ?_
      refine wpAny_forIn_list _ (fun rest r s' => s' = s ∧ r = (none, ()) ∧ ∀ x ∈ rest, x < es.size) _ ?_ ?_ _ _ ⟨rfl, rfl, hplaces⟩
      · rintro x rest r s' ⟨rfl, rfl, hr⟩
        have hx := hr x List.mem_cons_self
        have hr' : ∀ y ∈ rest, y < es.size := fun y hy => hr y (List.mem_cons_of_mem _ hy)
        obtain ⟨k', h1, hne⟩ := hes es[x] (Array.mem_toList_iff.mpr (Array.getElem_mem hx))
        rw [Array.getElem?_eq_getElem hx]
        dsimp only
        by_cases hh : (es[x].hash == k.hash w) = true
        · rw [if_pos hh]
          refine wpAny_bind (wpAny_dictEpoch ho hd (wpAny_bind (eqBool_ne hu h1.1 hk h1.2.1 hne (wpAny_bind (wpAny_dictEpoch ho hd ?_)))))
          rw [if_neg (by simp)]
          simp only [Bool.false_eq_true, if_false]
          refine wpAny_bind (wpAny_rule ?_)
          exact wpAny_pure ⟨rfl, rfl, hr'⟩
        · rw [if_neg hh]
          exact wpAny_pure ⟨rfl, rfl, hr'⟩
      · rintro r s' ⟨rfl, rfl, _⟩
        exact wpAny_pure h
    · rw [if_neg hcv]
      rw [if_neg hany]
      by_cases hone : (((placesWithHash es.size (fun i => es[i]?.map (·.hash)) (k.hash w)).filterMap (fun i => es[i]?.map (·.key))) == [Value.ref a]) = true <;>
      (first | rw [if_pos hone] | rw [if_neg hone]) <;> (first | refine wpAny_bind (wpAny_pure ?_) | refine wpAny_bind (mayTell_quiet hk hd8 hst ?_)) <;> (
        rw [if_neg (by simp)]
        refine wpAny_bind ?_
        refine wpAny_forIn_list _ (fun rest r s' => s' = s ∧ r = (none, none) ∧ ∀ x ∈ rest, x < es.size) _ ?_ ?_ _ _ ⟨rfl, rfl, hplaces⟩
        · rintro x rest r s' ⟨rfl, rfl, hr⟩
          have hx := hr x List.mem_cons_self
          have hr' : ∀ y ∈ rest, y < es.size := fun y hy => hr y (List.mem_cons_of_mem _ hy)
          obtain ⟨k', h1, hne⟩ := hes es[x] (Array.mem_toList_iff.mpr (Array.getElem_mem hx))
          rw [Array.getElem?_eq_getElem hx]
          dsimp only
          by_cases hh : (es[x].hash == k.hash w) = true
          · rw [if_pos hh]
            refine wpAny_bind (wpAny_dictEpoch ho hd (wpAny_bind (eqBool_ne hu h1.1 hk h1.2.1 hne (wpAny_bind (wpAny_dictEpoch ho hd ?_)))))
            rw [if_neg (by simp)]
            simp only [Bool.false_eq_true, if_false]
            refine wpAny_bind (wpAny_rule ?_)
            rw [if_neg (by simp)]
            exact wpAny_pure ⟨rfl, rfl, hr'⟩
          · rw [if_neg hh]
            exact wpAny_pure ⟨rfl, rfl, hr'⟩
        · rintro r s' ⟨rfl, rfl, _⟩
          exact wpAny_pure h)
  | _ => exact absurd hk (by rintro ⟨⟩)
in #guard_msgs in universe u_z
set_option Elab.async true in
theorem set_new {d : Addr} {u v : Value} {o : Obj} {es : Array DictEntry} {ep : Nat} {k : NestedKey} {Q : Unit → Shared → Prop} (hu : A.units + 8 < cLine) (hk : NestedIs s.heap k u) (hd8 : k.depth ≤ 8)
    (ho : s.heap.get? d = some o) (hc : o.ExactDict) (hd : o.data = .dict es ep) (hes : ∀ e ∈ es.toList, ∃ k', EntK w s.heap e k' ∧ k' ≠ k) (hsz : es.size ≤ 1000)
    (hQ : ∀ h', (∃ o' ep', h'.get? d = some o' ∧ o'.ExactDict ∧ o'.data = .dict (es.push ⟨k.hash w, u, v⟩) ep') → Heap.SameBut d s.heap h' → Q () { s with heap := h', toks := s.toks + k.draws }) :
    wpAny (model prog w) A (dictSet d u v) Q E s := by
  unfold dictSet
  try with_reducible refine wpAny_holding ?_
  refine wpAny_bind (pyHash_key k u A s _ hk (by omega) ?_)
  unfold dictSetHashed
  try with_reducible refine wpAny_holding ?_
  refine wpAny_bind (find_none (s := { s with toks := s.toks + k.draws }) hu hk hd8 ho hd hes ?_)
  refine wpAny_bind (wpAny_rule (wpAny_updateDictKeys (hz := by rw [sizeLine_eq]; omega) (s := { s with toks := s.toks + k.draws }) ho hd (hQ _ ⟨_, ep + 1, Heap.get?_update_self _ ho (Obj.isFreed_of_dict (Obj.data_mapDictKeys hd _)),
      hc.mapDictKeys _, Obj.data_mapDictKeys hd _⟩ (Heap.SameBut.update ..))))
in #guard_msgs in universe u_z
set_option Elab.async true in
theorem setItem_new {d : Addr} {u v : Value} {o : Obj} {es : Array DictEntry} {ep : Nat} {k : NestedKey} {Q : Unit → Shared → Prop} (hu : A.units + 64 < cLine) (hk : NestedIs s.heap k u) (hd8 : k.depth ≤ 8)
    (ho : s.heap.get? d = some o) (hc : o.ExactDict) (hd : o.data = .dict es ep) (hes : ∀ e ∈ es.toList, ∃ k', EntK w s.heap e k' ∧ k' ≠ k) (hsz : es.size ≤ 1000)
    (hQ : ∀ h', (∃ o' ep', h'.get? d = some o' ∧ o'.ExactDict ∧ o'.data = .dict (es.push ⟨k.hash w, u, v⟩) ep') → Heap.SameBut d s.heap h' → Q () { s with heap := h', toks := s.toks + k.draws }) :
    wpAny (model prog w) A (setItem (.ref d) u v) Q E s := by
  have hT : s.TypeIs (.ref d) "dict" := ⟨o, ho, hc.1⟩
  unfold setItem
  try with_reducible refine wpAny_holding ?_
  refine wpAny_bind (wpAny_sequenceKey hT (by decide) ?_)
  refine wpAny_bind (wpAny_callSpecial?_slot (name := Str.ofString "__setitem__") hT slot_dict_setitem
    (wpAny_call_entry slot_dict_setitem hT entry_dict_setitem ?_ (args_dict_setitem _ _ _)))
  show wpAny _ _ (Builtin.Dict.notOrdered "__setitem__" ⟨[.ref d, u, v], []⟩ >>= _) _ _ s
  refine wpAny_bind (wpAny_notOrdered_dict hT ?_)
  show wpAny _ _ (dictSet d u v >>= _) _ _ s
  exact wpAny_bind (set_new (by show A.units + 1 + 8 < cLine; omega) hk hd8 ho hc hd hes hsz fun h' hm' hs' => wpAny_pure ⟨.none, rfl, wpAny_pure (hQ h' hm' hs')⟩)
in #guard_msgs in universe u_z
end
end My
namespace My
open PySem L2 PyProof.Rows
/-- a dict of any plain keys, by its entries -/
def DictO (a : Addr) (es : Array DictEntry) : HO := .ext fun h => ∃ o ep, h.get? a = some o ∧ o.ExactDict ∧ o.data = .dict es ep
inductive KRel (H : Hp) : NestedKey → V → Prop
  | num (i : Int) : KRel H (.num i) (.int i)
  | text (x : Str) : KRel H (.text x) (.str x)
  | pair {t : Addr} {i : Int} {x : Str} (h : H t = some (.tup [.int i, .str x])) : KRel H (.tup [.num i, .text x]) (.ref t)
def Ent (w : World) (H : Hp) (e : DictEntry) (k : NestedKey) : Prop := e.hash = k.hash w ∧ ∃ y, RelV y e.key ∧ KRel H k y
def MD (w : World) (H : Hp) (a : Addr) (ks : List NestedKey) : Prop := ∃ es : Array DictEntry, H a = some (DictO a es) ∧ Paired (Ent w H) es.toList ks
theorem KRel.same {H H' : Hp} {k : NestedKey} {y : V} (e : ∀ t xs, H t = some (.tup xs) → H' t = some (.tup xs)) (h : KRel H k y) : KRel H' k y := by
  cases h with
  | num i => exact .num i
  | text x => exact .text x
  | pair h => exact .pair (e _ _ h)
theorem KRel.depth {H : Hp} {k : NestedKey} {y : V} (h : KRel H k y) : k.depth ≤ 8 := by
  cases h <;> simp [NestedKey.depth, NestedKey.depthAll]
section
variable {X : Cx} {pins : List (Addr × Obj)} {σ : L2.St} {H : Hp} {s : Shared} {a : Addr} {ks : List NestedKey} {nk : NestedKey} {y v : V} {u r : Value}
set_option Elab.async true in
theorem KRel.nested (I : Inv X pins σ H s) (h : KRel H nk y) (ry : RelV y u) : NestedIs s.heap nk u := by
  cases h with
  | num i => obtain ⟨t, rfl⟩ := ry; exact .int i t
  | text x => obtain ⟨t, rfl⟩ := ry; exact .text x t
  | @pair t i x ht =>
    obtain rfl : u = Value.ref t := ry
    obtain ⟨_, its, rv, o, h1, h2, n, h3⟩ := (show ObjOk X.prog X.w H s.heap t (.tup [.int i, .str x]) from I.hok t _ ht)
    cases rv with
    | cons r1 rv =>
      cases rv with
      | cons r2 rv =>
        cases rv
        obtain ⟨t1, rfl⟩ := r1
        obtain ⟨t2, rfl⟩ := r2
        exact .tup h1 h2 h3 (.cons (.int i t1) (.cons (.text x t2) .nil))
in #guard_msgs in universe u_z
theorem paired_mem {α β : Type} {R : α → β → Prop} : ∀ {xs : List α} {ys : List β} {x : α}, Paired R xs ys → x ∈ xs → ∃ y, y ∈ ys ∧ R x y
  | _, _, _, .cons r t, .head _ => ⟨_, .head _, r⟩
  | _, _, _, .cons r t, .tail _ q => let ⟨y, h1, h2⟩ := paired_mem t q; ⟨y, .tail _ h1, h2⟩
theorem Paired.append {α β : Type} {R : α → β → Prop} : ∀ {xs xs' : List α} {ys ys' : List β}, Paired R xs ys → Paired R xs' ys' → Paired R (xs ++ xs') (ys ++ ys')
  | _, _, _, _, .nil, h => h
  | _, _, _, _, .cons r t, h => .cons r (Paired.append t h)
def rSetX (w : World) : V → V → V → Hp → (Hp → Prop) → Prop := fun x y v H Q => ∃ a ks nk, x = .ref a ∧ MD w H a ks ∧ KRel H nk y ∧ nk ∉ ks ∧ ks.length ≤ 1000 ∧ ∀ H', (∃ es, H' = upd H a (DictO a es)) → MD w H' a (ks ++ [nk]) → Q H'
set_option Elab.async true in
theorem set_x (hu : X.A.units + 64 < cLine) : PSet X (rSetX X.w) := by
  intro pins s σ H o i v ov iv u Q I ro ri rv h
  obtain ⟨a, ks, nk, rfl, ⟨es, he, hp⟩, hk, hn, hl, q⟩ := h
  cases ro
  obtain ⟨⟨ob, ep, h1, h2, h3⟩, _, _⟩ := (show ObjOk X.prog X.w H s.heap a (DictO a es) from I.hok a _ he)
  have hz : es.size = ks.length := by rw [← Array.length_toList]; exact Paired.length hp
  have up : ∀ es' t xs, H t = some (.tup xs) → (L2.upd H a (DictO a es')) t = some (.tup xs) := fun es' t xs e => by
    rw [upd_ne (fun z => by rw [z, he] at e; cases e)]
    exact e
  refine setItem_new (k := nk) hu (hk.nested I ri) hk.depth h1 h2 h3 (fun e hin => ?_) (by omega) (fun h' ⟨o', ep', g1, g2, g3⟩ hs => ?_)
  · obtain ⟨k', hm, h4, y, h5, h6⟩ := paired_mem hp hin
    exact ⟨k', ⟨h6.nested I h5, h6.depth, h4⟩, fun e => hn (e ▸ hm)⟩
  · refine ⟨_, d_write (a := a) (ob := DictO a (es.push ⟨nk.hash X.w, iv, u⟩)) I (by rw [he]; exact True.intro) hs ⟨_, g1⟩ ⟨⟨o', ep', g1, g2, g3⟩, ⟨_, g1⟩, fun h1 h2 ⟨o, ep, e1, e2, e3⟩ k => ⟨o, ep, k _ e1, e2, e3⟩⟩, q _ ⟨_, rfl⟩ ⟨_, upd_same, ?_⟩⟩
    rw [Array.toList_push]
    exact Paired.append (Paired.mapP hp fun e k ⟨h4, y, h5, h6⟩ => ⟨h4, y, h5, h6.same (up _)⟩) (.cons ⟨rfl, i, ri, hk.same (up _)⟩ .nil)
in #guard_msgs in universe u_z
/-- {}, of any plain keys -/
def tDNewX (w : World) : TE := fun _ H Q => ∀ p H1, H p = none → Same H H1 → MD w H1 p [] → Q (.ref p) H1
theorem pe_dnewX {pos : Pos} : PE X (.Dict [] [] pos) (tDNewX X.w) := ⟨fun pins s σ H Q I h =>
  wpAny_Dict_empty ⟨.ref s.heap.objs.size, _, I.laid (a := s.heap.objs.size) (o := DictO s.heap.objs.size #[]) (t' := s.toks) (fun _ _ q => Heap.get?_push_of_some _ q) (Nat.le_refl _)
    ⟨⟨_, 0, Heap.get?_push_size _ rfl, ⟨rfl, rfl, rfl⟩, rfl⟩, ⟨_, Heap.get?_push_size _ rfl⟩, fun h1 h2 ⟨o, ep, e1, e2, e3⟩ k => ⟨o, ep, k _ e1, e2, e3⟩⟩, rfl,
    h _ _ (I.hok.fresh (Nat.le_refl _)) (Same.new (I.hok.fresh (Nat.le_refl _))) ⟨_, upd_same, .nil⟩⟩⟩
end
/-! data with such dicts as leaves -/
def IsDct (H : Hp) (a : Addr) : Prop := (∃ kvs, H a = some (.dK kvs)) ∨ ∃ es, H a = some (DictO a es)
mutual
inductive Dx (K : PySem.W.Frag) (N : List Addr) (H : Hp) : V → PyData → Prop
  | non : Dx K N H .non .none
  | bl (b : Bool) : Dx K N H (.bl b) (.bool b)
  | int (i : Int) : Dx K N H (.int i) (.int i)
  | str (x : Str) : Dx K N H (.str x) (.str x)
  | lst {a : Addr} {xs : List V} {ds : List PyData} : a ∉ N → H a = some (.lst xs) → DxA K N H xs ds → Dx K N H (.ref a) (.list ds)
  | tup {a : Addr} {xs : List V} {ds : List PyData} : SqT K H a xs → DxA K N H xs ds → Dx K N H (.ref a) (.tuple ds)
  | dct {a : Addr} : a ∉ N → IsDct H a → Dx K N H (.ref a) (.dict [])
inductive DxA (K : PySem.W.Frag) (N : List Addr) (H : Hp) : List V → List PyData → Prop
  | nil : DxA K N H [] []
  | cons {v : V} {vs : List V} {d : PyData} {ds : List PyData} : Dx K N H v d → DxA K N H vs ds → DxA K N H (v :: vs) (d :: ds)
end
mutual
theorem Dx.mp {K : PySem.W.Frag} {N N' : List Addr} {H H' : Hp} (hl : ∀ a o, a ∉ N → ((∃ xs, o = HO.lst xs) ∨ (∃ kvs, o = HO.dK kvs) ∨ ∃ es, o = DictO a es) → H a = some o → a ∉ N' ∧ H' a = some o) (ht : TK K H H') : ∀ {v : V} {d : PyData}, Dx K N H v d → Dx K N' H' v d
  | _, _, .non => .non
  | _, _, .bl b => .bl b
  | _, _, .int i => .int i
  | _, _, .str x => .str x
  | _, _, .lst n h a => .lst (hl _ _ n (.inl ⟨_, rfl⟩) h).1 (hl _ _ n (.inl ⟨_, rfl⟩) h).2 (DxA.mp hl ht a)
  | _, _, .tup h a => .tup (ht _ _ h) (DxA.mp hl ht a)
  | _, _, .dct n (.inl ⟨kvs, h⟩) => .dct (hl _ _ n (.inr (.inl ⟨_, rfl⟩)) h).1 (.inl ⟨kvs, (hl _ _ n (.inr (.inl ⟨_, rfl⟩)) h).2⟩)
  | _, _, .dct n (.inr ⟨es, h⟩) => .dct (hl _ _ n (.inr (.inr ⟨_, rfl⟩)) h).1 (.inr ⟨es, (hl _ _ n (.inr (.inr ⟨_, rfl⟩)) h).2⟩)
theorem DxA.mp {K : PySem.W.Frag} {N N' : List Addr} {H H' : Hp} (hl : ∀ a o, a ∉ N → ((∃ xs, o = HO.lst xs) ∨ (∃ kvs, o = HO.dK kvs) ∨ ∃ es, o = DictO a es) → H a = some o → a ∉ N' ∧ H' a = some o) (ht : TK K H H') : ∀ {vs : List V} {ds : List PyData}, DxA K N H vs ds → DxA K N' H' vs ds
  | _, _, .nil => .nil
  | _, _, .cons h a => .cons (Dx.mp hl ht h) (DxA.mp hl ht a)
end
mutual
theorem Dn.dx {K : PySem.W.Frag} {N : List Addr} {H : Hp} : ∀ {v : V} {d : PyData}, Dn K N H v d → Dx K N H v d
  | _, _, .non => .non
  | _, _, .bl b => .bl b
  | _, _, .int i => .int i
  | _, _, .str x => .str x
  | _, _, .lst n h a => .lst n h (DnA.dx a)
  | _, _, .tup h a => .tup h (DnA.dx a)
theorem DnA.dx {K : PySem.W.Frag} {N : List Addr} {H : Hp} : ∀ {vs : List V} {ds : List PyData}, DnA K N H vs ds → DxA K N H vs ds
  | _, _, .nil => .nil
  | _, _, .cons h a => .cons (Dn.dx h) (DnA.dx a)
end
end My
namespace My
open PySem L2 PyProof.Rows
section
variable {K : PySem.W.Frag} {N N' : List Addr} {H H' : Hp} {v : V} {d : PyData} {vs : List V} {ds : List PyData} {Q : VK}
theorem Dx.same (e : Same H H') (h : Dx K N H v d) : Dx K N H' v d := h.mp (fun _ _ n _ h => ⟨n, e _ _ h⟩) (TK.same e)
theorem DxA.same (e : Same H H') (h : DxA K N H vs ds) : DxA K N H' vs ds := h.mp (fun _ _ n _ h => ⟨n, e _ _ h⟩) (TK.same e)
theorem Dx.fr {st : Addr} (e : Fr st H H') (hs : My.St K H st) (hN : st ∈ N) (h : Dx K N H v d) : Dx K N H' v d :=
  h.mp (fun a _ n _ h => ⟨n, e.keep _ _ (fun q => n (q ▸ hN)) h⟩) (TK.fr e hs)
theorem DxA.fr {st : Addr} (e : Fr st H H') (hs : My.St K H st) (hN : st ∈ N) (h : DxA K N H vs ds) : DxA K N H' vs ds :=
  h.mp (fun a _ n _ h => ⟨n, e.keep _ _ (fun q => n (q ▸ hN)) h⟩) (TK.fr e hs)
theorem Dx.mono (hN : ∀ a, a ∈ N' → a ∈ N) (h : Dx K N H v d) : Dx K N' H v d := h.mp (fun _ _ n _ h => ⟨fun q => n (hN _ q), h⟩) (TK.refl _ _)
theorem Dx.add {l : Addr} (hl : H l = none) (h : Dx K N H v d) : Dx K (l :: N) H v d :=
  h.mp (fun a _ n _ h => ⟨fun e => (List.mem_cons.1 e).elim (fun e => by rw [e, hl] at h; cases h) n, h⟩) (TK.refl _ _)
theorem DxA.add {l : Addr} (hl : H l = none) (h : DxA K N H vs ds) : DxA K (l :: N) H vs ds :=
  h.mp (fun a _ n _ h => ⟨fun e => (List.mem_cons.1 e).elim (fun e => by rw [e, hl] at h; cases h) n, h⟩) (TK.refl _ _)
theorem DxA.mono (hN : ∀ a, a ∈ N' → a ∈ N) (h : DxA K N H vs ds) : DxA K N' H vs ds := h.mp (fun _ _ n _ h => ⟨fun q => n (hN _ q), h⟩) (TK.refl _ _)
set_option Elab.async true in
/-- the object at l changes, which data off N does not know -/
theorem Dx.upd {l : Addr} {o o' : HO} (hN : l ∈ N) (hl : H l = some o') (hm : ∀ xs, o' ≠ .tup xs) (hf : ∀ ob u, o' ≠ .frz ob u) (h : Dx K N H v d) : Dx K N (L2.upd H l o) v d :=
  h.mp (fun a _ n _ h => ⟨n, (upd_ne (fun e => n (e ▸ hN))).trans h⟩) (fun a xs q => by
    rcases q with (q | ⟨ob, q⟩) | q
    · exact .inl (.inl ((upd_ne (fun e => by rw [e, hl] at q; cases q; exact hm _ rfl)).trans q))
    · exact .inl (.inr ⟨ob, (upd_ne (fun e => by rw [e, hl] at q; cases q; exact hf _ _ rfl)).trans q⟩)
    · exact .inr q)
in #guard_msgs in universe u_z
set_option Elab.async true in
theorem DxA.upd {l : Addr} {o o' : HO} (hN : l ∈ N) (hl : H l = some o') (hm : ∀ xs, o' ≠ .tup xs) (hf : ∀ ob u, o' ≠ .frz ob u) (h : DxA K N H vs ds) : DxA K N (L2.upd H l o) vs ds :=
  h.mp (fun a _ n _ h => ⟨n, (upd_ne (fun e => n (e ▸ hN))).trans h⟩) (fun a xs q => by
    rcases q with (q | ⟨ob, q⟩) | q
    · exact .inl (.inl ((upd_ne (fun e => by rw [e, hl] at q; cases q; exact hm _ rfl)).trans q))
    · exact .inl (.inr ⟨ob, (upd_ne (fun e => by rw [e, hl] at q; cases q; exact hf _ _ rfl)).trans q⟩)
    · exact .inr q)
in #guard_msgs in universe u_z
theorem DxA.len : ∀ {vs : List V} {ds : List PyData}, DxA K N H vs ds → vs.length = ds.length
  | _, _, .nil => rfl
  | _, _, .cons _ t => congrArg (· + 1) (DxA.len t)
theorem DxA.get : ∀ {vs : List V} {ds : List PyData} (_ : DxA K N H vs ds) {i : Nat} {x : V} (_ : vs[i]? = some x), ∃ d, ds[i]? = some d ∧ Dx K N H x d
  | _, _, .nil, _, _, e => by simp at e
  | _, _, .cons a t, 0, _, e => by cases e; exact ⟨_, rfl, a⟩
  | _, _, .cons a t, i + 1, _, e => DxA.get t e
theorem DxA.snoc : ∀ {vs : List V} {ds : List PyData} (_ : DxA K N H vs ds) (_ : Dx K N H v d), DxA K N H (vs ++ [v]) (ds ++ [d])
  | _, _, .nil, h => .cons h .nil
  | _, _, .cons a t, h => .cons a (DxA.snoc t h)
theorem DxA.two (h : DxA K N H vs ds) (l : vs.length = 2) : ∃ x y d e, vs = [x, y] ∧ ds = [d, e] ∧ Dx K N H x d ∧ Dx K N H y e := by
  match vs, l with
  | [x, y], _ =>
    match ds, h with
    | [d, e], .cons a (.cons b .nil) => exact ⟨x, y, d, e, rfl, rfl, a, b⟩
theorem DxA.three (h : DxA K N H vs ds) (l : vs.length = 3) : ∃ x y z d e f, vs = [x, y, z] ∧ ds = [d, e, f] ∧ Dx K N H x d ∧ Dx K N H y e ∧ Dx K N H z f := by
  match vs, l with
  | [x, y, z], _ =>
    match ds, h with
    | [d, e, f], .cons a (.cons b (.cons c .nil)) => exact ⟨x, y, z, d, e, f, rfl, rfl, a, b, c⟩
/-- kinds -/
def TyY (K : PySem.W.Frag) (H : Hp) (v : V) (t : Value) : Prop := TyX K H v t ∨ ∃ a es, v = .ref a ∧ H a = some (DictO a es) ∧ t = .type "dict"
set_option Elab.async true in
theorem Dx.ty (h : Dx K N H v d) : TyY K H v (.type (kdD d)) := by
  cases h with
  | non => exact .inl (.base .non)
  | bl b => exact .inl (.base (.bl b))
  | int i => exact .inl (.base (.int i))
  | str x => exact .inl (.base (.str x))
  | lst n h _ => exact .inl (.base (.lst h))
  | tup h _ =>
    rcases h with (h | ⟨o, h⟩) | ⟨o, its, n, ho, hc, _⟩
    · exact .inl (.base (.tup h))
    · exact .inl (.fTuple h)
    · exact .inl (.kTuple ho hc)
  | dct n h =>
    rcases h with ⟨kvs, h⟩ | ⟨es, h⟩
    · exact .inl (.base (.dK h))
    · exact .inr ⟨_, _, rfl, h, rfl⟩
in #guard_msgs in universe u_z
theorem Dx.tupC (h : Dx K N H v d) : (∃ a xs ds, v = .ref a ∧ d = .tuple ds ∧ SqT K H a xs ∧ DxA K N H xs ds) ∨ (kitB (kdD d) "tuple" = some false ∧ ∀ ds, d ≠ .tuple ds) := by
  cases h with
  | tup q a => exact .inl ⟨_, _, _, rfl, rfl, q, a⟩
  | _ => exact .inr ⟨by dsimp only [kdD]; decide +kernel, fun _ e => nomatch e⟩
def rIsx (K : PySem.W.Frag) : List V → Hp → VK → Prop := fun xs H Q => ∃ (x c : V) (t u : Value) (b : Bool), xs = [x, c] ∧ ClsV c u ∧ TyY K H x t ∧ PySem.W.kitOne K t u = some b ∧ Q (.bl b) H
theorem r_isxi {x c : V} {t u : Value} {b : Bool} (hc : ClsV c u) (ht : TyX K H x t) (e : PySem.W.kitOne K t u = some b) (h : Q (.bl b) H) : rIsx K [x, c] H Q := ⟨x, c, t, u, b, rfl, hc, .inl ht, e, h⟩
theorem r_isX {n : String} {b : Bool} (h : Dx K N H v d) (e : kitB (kdD d) n = some b) (q : Q (.bl b) H) : rIsx K [v, .ty n] H Q := ⟨v, .ty n, _, _, b, rfl, .ty n, h.ty, kit_ty e, q⟩
end
section
variable {X : Cx} {K : PySem.W.Frag}
set_option Elab.async true in
theorem kit_ofY {pins : List (Addr × Obj)} {σ : L2.St} {H : Hp} {s : Shared} {x : V} {u t : Value} (I : Inv X pins σ H s) (rx : RelV x u) (ty : TyY X.K H x t) : ∃ P : Heap → Prop, PySem.W.KitX X.K u t P ∧ P s.heap ∧ u ≠ .builtin "__main__.__loader__#opaque" := by
  rcases ty with ty | ⟨a, es, rfl, ha, rfl⟩
  · exact kit_of I rx ty
  · cases (show u = Value.ref a from rx)
    obtain ⟨⟨o, ep, h1, h2, _⟩, _⟩ := (show ObjOk X.prog X.w H s.heap a (DictO a es) from I.hok a _ ha)
    exact ⟨_, PySem.W.kitx_dict, ⟨o, h1, h2.1⟩, fun z => nomatch z⟩
in #guard_msgs in universe u_z
theorem call_isx : CallR X (.builtin "isinstance") (rIsx X.K) := by
  intro pins s σ H xs us Q I r h
  obtain ⟨x, c, t, u, b, rfl, k, ty, e, q⟩ := h
  obtain ⟨u1, u2, rfl, r1, r2⟩ := vals2 r
  have e2 := k.eq r2
  subst e2
  obtain ⟨P, Z, p, hx⟩ := kit_ofY I r1 ty
  exact PySem.W.kia_one Z I.kIn p e hx fun tk => ⟨.bl b, H, I.tok tk, rfl, q⟩
theorem kc_isx (h : X.K = K) : CallR X (.builtin "isinstance") (rIsx K) := h ▸ call_isx
theorem kset_x {w : World} (h : X.w = w) (hu : X.A.units + 64 < cLine) : PSet X (rSetX w) := h ▸ set_x hu
theorem kpe_dnewX {w : World} {pos : Pos} (h : X.w = w) : PE X (.Dict [] [] pos) (tDNewX w) := h ▸ pe_dnewX
theorem w_dnewX {w : World} {σ : L2.St} {H : Hp} {Q : VK} (h : ∀ p H1, H p = none → Same H H1 → MD w H1 p [] → Q (.ref p) H1) : tDNewX w σ H Q := h
end
section
variable {w : World} {K : PySem.W.Frag} {H H' : Hp} {a st : Addr} {ks : List NestedKey}
theorem MD.same (e : Same H H') (h : MD w H a ks) : MD w H' a ks := by
  obtain ⟨es, h1, h2⟩ := h
  exact ⟨es, e _ _ h1, Paired.mapP h2 fun _ _ ⟨h4, y, h5, h6⟩ => ⟨h4, y, h5, h6.same (fun t xs q => e _ _ q)⟩⟩
set_option Elab.async true in
theorem MD.fr (e : Fr st H H') (hs : My.St K H st) (h : MD w H a ks) : MD w H' a ks := by
  obtain ⟨es, h1, h2⟩ := h
  have hst : ∃ xs, H st = some (.lst xs) := by
    obtain ⟨l, ns, i1, i2, i3, i4, i5, i6, q⟩ := hs
    exact ⟨_, q.at_⟩
  obtain ⟨xs, hst⟩ := hst
  have ne : ∀ b o, H b = some o → (∀ ys, o ≠ .lst ys) → H' b = some o := fun b o q n => e.keep _ _ (fun z => by rw [z, hst] at q; cases q; exact n _ rfl) q
  exact ⟨es, ne _ _ h1 (fun _ z => nomatch z), Paired.mapP h2 fun _ _ ⟨h4, y, h5, h6⟩ => ⟨h4, y, h5, h6.same (fun t xs q => ne _ _ q (fun _ z => nomatch z))⟩⟩
in #guard_msgs in universe u_z
theorem MD.dct (h : MD w H a ks) : IsDct H a := let ⟨es, h1, _⟩ := h; .inr ⟨es, h1⟩
end
end My
namespace My
open PySem L2 PyProof.Rows
/-- a point over a common bottom -/
structure W4 (p : V3) (a0 a1 a2 a3 : Int) : Prop where
  e0 : (a0 : Rat) = p.x * (a3 : Rat)
  e1 : (a1 : Rat) = p.y * (a3 : Rat)
  e2 : (a2 : Rat) = p.z * (a3 : Rat)
  nz : (a3 : Rat) ≠ 0
  b0 : B 402 a0
  b1 : B 402 a1
  b2 : B 402 a2
  b3 : B 402 a3
theorem W4.mk' {p : V3} (h : VN 134 134 p) : W4 p (p.x.num * (p.y.den : Int) * (p.z.den : Int)) (p.y.num * (p.x.den : Int) * (p.z.den : Int)) (p.z.num * (p.x.den : Int) * (p.y.den : Int)) ((p.x.den : Int) * (p.y.den : Int) * (p.z.den : Int)) := by
  obtain ⟨e0, e1, e2, nz⟩ := whole_q p.x p.y p.z
  exact ⟨e0, e1, e2, nz, B.mul (B.mul h.x.n h.y.d) h.z.d, B.mul (B.mul h.y.n h.x.d) h.z.d, B.mul (B.mul h.z.n h.x.d) h.y.d, B.mul (B.mul h.x.d h.y.d) h.z.d⟩
theorem w4z {x : Rat} {a d : Int} (h : (a : Rat) = x * (d : Rat)) (nz : (d : Rat) ≠ 0) : a = 0 ↔ x = 0 := by
  constructor
  · intro e
    subst e
    have : x * (d : Rat) = 0 := by rw [← h]; rfl
    grind
  · intro e
    subst e
    have : (a : Rat) = 0 := by rw [h]; grind
    exact_mod_cast this
theorem vD_dx {K : PySem.W.Frag} {N : List Addr} {H : Hp} {a : Addr} {p : V3} (h : Vc K H a p) : Dx K N H (.ref a) (vD p) := (Vc.dn h).dx
theorem qD_dx {K : PySem.W.Frag} {N : List Addr} {H : Hp} {a : Addr} {q : Rat} (h : SqT K H a [.int q.num, .int (q.den : Int)]) : Dx K N H (.ref a) (qD q) := .tup h (.cons (.int _) (.cons (.int _) .nil))
end My
namespace My
open PySem L2 PyProof.Rows
def kyT (j : Nat) : NestedKey := .text (Str.ofString (toString ((0 : Int) + (j : Int))))
def Kys (i : Nat) (ks : List NestedKey) : Prop := ∀ nk, nk ∈ ks → ∃ j, j < i ∧ (nk = .num ((0 : Int) + (j : Int)) ∨ nk = kyT j ∨ nk = .tup [.num ((0 : Int) + (j : Int)), .text (Str.ofString "a")])
theorem kyT_inj {i j : Nat} (hi : i < 3) (hj : j < i) (h : kyT i = kyT j) : False := by
  unfold kyT at h
  injection h with h
  have : (i = 1 ∧ j = 0) ∨ (i = 2 ∧ j = 0) ∨ (i = 2 ∧ j = 1) := by omega
  rcases this with ⟨rfl, rfl⟩ | ⟨rfl, rfl⟩ | ⟨rfl, rfl⟩ <;> exact absurd h (by decide +kernel)
theorem Kys.num {i : Nat} {ks : List NestedKey} (h : Kys i ks) : NestedKey.num ((0 : Int) + (i : Int)) ∉ ks := fun hm => by
  obtain ⟨j, hj, e | e | e⟩ := h _ hm
  · injection e with e; omega
  · unfold kyT at e; cases e
  · cases e
theorem Kys.text {i : Nat} {ks : List NestedKey} (h : Kys i ks) (hi : i < 3) : kyT i ∉ ks := fun hm => by
  obtain ⟨j, hj, e | e | e⟩ := h _ hm
  · unfold kyT at e; cases e
  · exact kyT_inj hi hj e
  · unfold kyT at e; cases e
theorem Kys.tup {i : Nat} {ks : List NestedKey} (h : Kys i ks) : NestedKey.tup [.num ((0 : Int) + (i : Int)), .text (Str.ofString "a")] ∉ ks := fun hm => by
  obtain ⟨j, hj, e | e | e⟩ := h _ hm
  · cases e
  · unfold kyT at e; cases e
  · injection e with e
    injection e with e
    injection e with e
    omega
theorem Kys.snoc {i : Nat} {ks : List NestedKey} {nk : NestedKey} (h : Kys i ks) (hn : nk = .num ((0 : Int) + (i : Int)) ∨ nk = kyT i ∨ nk = .tup [.num ((0 : Int) + (i : Int)), .text (Str.ofString "a")]) : Kys (i + 1) (ks ++ [nk]) := fun k hk => by
  rcases List.mem_append.1 hk with hk | hk
  · obtain ⟨j, hj, e⟩ := h k hk
    exact ⟨j, by omega, e⟩
  · rw [List.mem_singleton.1 hk]
    exact ⟨i, by omega, hn⟩
end My
namespace My
open PySem L2 PyProof.Rows
section
variable {p q r : V3} {a0 a1 a2 a3 b0 b1 b2 b3 c0 c1 c2 c3 : Int}
theorem w4C0 (A : W4 p a0 a1 a2 a3) (B' : W4 q b0 b1 b2 b3) : (cr p q).x * ((a3 * b3 : Int) : Rat) = ((a1 * b2 - a2 * b1 : Int) : Rat) := by
  obtain ⟨x0, x1, x2, _, _, _, _, _⟩ := A
  obtain ⟨y0, y1, y2, _, _, _, _, _⟩ := B'
  simp only [cr, Rat.intCast_add, Rat.intCast_sub, Rat.intCast_mul, Rat.intCast_neg, x0, x1, x2, y0, y1, y2]
  grind
theorem w4N0 (A : W4 p a0 a1 a2 a3) (B' : W4 q b0 b1 b2 b3) : (cr q p).x * ((a3 * b3 : Int) : Rat) = ((-(a1 * b2 - a2 * b1) : Int) : Rat) := by
  obtain ⟨x0, x1, x2, _, _, _, _, _⟩ := A
  obtain ⟨y0, y1, y2, _, _, _, _, _⟩ := B'
  simp only [cr, Rat.intCast_add, Rat.intCast_sub, Rat.intCast_mul, Rat.intCast_neg, x0, x1, x2, y0, y1, y2]
  grind
theorem w4C1 (A : W4 p a0 a1 a2 a3) (B' : W4 q b0 b1 b2 b3) : (cr p q).y * ((a3 * b3 : Int) : Rat) = ((a2 * b0 - a0 * b2 : Int) : Rat) := by
  obtain ⟨x0, x1, x2, _, _, _, _, _⟩ := A
  obtain ⟨y0, y1, y2, _, _, _, _, _⟩ := B'
  simp only [cr, Rat.intCast_add, Rat.intCast_sub, Rat.intCast_mul, Rat.intCast_neg, x0, x1, x2, y0, y1, y2]
  grind
theorem w4N1 (A : W4 p a0 a1 a2 a3) (B' : W4 q b0 b1 b2 b3) : (cr q p).y * ((a3 * b3 : Int) : Rat) = ((-(a2 * b0 - a0 * b2) : Int) : Rat) := by
  obtain ⟨x0, x1, x2, _, _, _, _, _⟩ := A
  obtain ⟨y0, y1, y2, _, _, _, _, _⟩ := B'
  simp only [cr, Rat.intCast_add, Rat.intCast_sub, Rat.intCast_mul, Rat.intCast_neg, x0, x1, x2, y0, y1, y2]
  grind
theorem w4C2 (A : W4 p a0 a1 a2 a3) (B' : W4 q b0 b1 b2 b3) : (cr p q).z * ((a3 * b3 : Int) : Rat) = ((a0 * b1 - a1 * b0 : Int) : Rat) := by
  obtain ⟨x0, x1, x2, _, _, _, _, _⟩ := A
  obtain ⟨y0, y1, y2, _, _, _, _, _⟩ := B'
  simp only [cr, Rat.intCast_add, Rat.intCast_sub, Rat.intCast_mul, Rat.intCast_neg, x0, x1, x2, y0, y1, y2]
  grind
theorem w4N2 (A : W4 p a0 a1 a2 a3) (B' : W4 q b0 b1 b2 b3) : (cr q p).z * ((a3 * b3 : Int) : Rat) = ((-(a0 * b1 - a1 * b0) : Int) : Rat) := by
  obtain ⟨x0, x1, x2, _, _, _, _, _⟩ := A
  obtain ⟨y0, y1, y2, _, _, _, _, _⟩ := B'
  simp only [cr, Rat.intCast_add, Rat.intCast_sub, Rat.intCast_mul, Rat.intCast_neg, x0, x1, x2, y0, y1, y2]
  grind
theorem w4D (A : W4 p a0 a1 a2 a3) (B' : W4 q b0 b1 b2 b3) : dt p q * ((a3 * b3 : Int) : Rat) = ((a0 * b0 + a1 * b1 + a2 * b2 : Int) : Rat) := by
  obtain ⟨x0, x1, x2, _, _, _, _, _⟩ := A
  obtain ⟨y0, y1, y2, _, _, _, _, _⟩ := B'
  simp only [dt, Rat.intCast_add, Rat.intCast_sub, Rat.intCast_mul, Rat.intCast_neg, x0, x1, x2, y0, y1, y2]
  grind
theorem at_0 {x y z : V} {tl : List V} : atI (x :: y :: z :: tl) 0 = some x := atI_nat (j := 0) rfl
theorem at_1 {x y z : V} {tl : List V} : atI (x :: y :: z :: tl) 1 = some y := atI_nat (j := 1) rfl
theorem at_2 {x y z : V} {tl : List V} : atI (x :: y :: z :: tl) 2 = some z := atI_nat (j := 2) rfl
theorem cr_dt1 (p q : V3) : dt (cr p q) p * ((1 : Int) : Rat) = ((0 : Int) : Rat) := by
  simp only [dt, cr, Rat.intCast_one, Rat.intCast_zero]
  grind
theorem cr_dt2 (p q : V3) : dt q (cr p q) * ((1 : Int) : Rat) = ((0 : Int) : Rat) := by
  simp only [dt, cr, Rat.intCast_one, Rat.intCast_zero]
  grind
theorem dt_comm' (p q : V3) : dt q p = dt p q := by
  simp only [dt]
  grind
end
end My

namespace My
open PySem L2 PyProof.Rows
section
variable {K : PySem.W.Frag} {N : List Addr} {H : Hp}
theorem DxA.four {xs : List V} {ds : List PyData} (h : DxA K N H xs ds) (e : xs.length = 4) : ∃ x0 x1 x2 x3 d0 d1 d2 d3, xs = [x0, x1, x2, x3] ∧ ds = [d0, d1, d2, d3] ∧ Dx K N H x0 d0 ∧ Dx K N H x1 d1 ∧ Dx K N H x2 d2 ∧ Dx K N H x3 d3 := by
  match h, e with
  | .cons h0 (.cons h1 (.cons h2 (.cons h3 .nil))), _ => exact ⟨_, _, _, _, _, _, _, _, rfl, rfl, h0, h1, h2, h3⟩
end
/-- a half among data -/
def IsHfD (d : PyData) : Prop := ∃ (p : PyData) (sd : Int), d = .tuple [p, .int sd] ∧ IsPlD p ∧ (sd = 1 ∨ sd = -1)
end My
namespace My
open PySem L2 PyProof.Rows
/-- four ratios over one bottom above zero -/
structure F4 (q0 q1 q2 q3 : Rat) (f0 f1 f2 f3 c : Int) : Prop where
  c0 : 0 < c
  e0 : (f0 : Rat) = q0 * (c : Rat)
  e1 : (f1 : Rat) = q1 * (c : Rat)
  e2 : (f2 : Rat) = q2 * (c : Rat)
  e3 : (f3 : Rat) = q3 * (c : Rat)
  b0 : B 1100 f0
  b1 : B 1100 f1
  b2 : B 1100 f2
  b3 : B 1100 f3
end My
namespace My
open PySem L2 PyProof.Rows
set_option Elab.async true in
theorem QtL.four {K : PySem.W.Frag} {H : Hp} {acc : List V} {x y z t : Rat} (h : QtL K H acc [x, y, z, t]) : ∃ a b c d : Addr, acc = [.ref a, .ref b, .ref c, .ref d] ∧ SqT K H a [.int x.num, .int (x.den : Int)] ∧ SqT K H b [.int y.num, .int (y.den : Int)] ∧ SqT K H c [.int z.num, .int (z.den : Int)] ∧ SqT K H d [.int t.num, .int (t.den : Int)] := by
  unfold QtL at h
  cases h with
  | cons r1 h =>
    cases h with
    | cons r2 h =>
      cases h with
      | cons r3 h =>
        cases h with
        | cons r4 h =>
          cases h
          obtain ⟨a, rfl, ha⟩ := r1
          obtain ⟨b, rfl, hb⟩ := r2
          obtain ⟨c, rfl, hc⟩ := r3
          obtain ⟨d, rfl, hd⟩ := r4
          exact ⟨a, b, c, d, rfl, ha, hb, hc, hd⟩
in #guard_msgs in universe u_z
theorem sg_int (t : Int) : (sg (t : Rat) = 1 ∧ 0 < t) ∨ (sg (t : Rat) = 0 ∧ t = 0) ∨ (sg (t : Rat) = -1 ∧ t < 0) := by
  rcases Int.lt_trichotomy t 0 with h | h | h
  · exact .inr (.inr ⟨sg_neg (by exact_mod_cast h), h⟩)
  · subst h; exact .inr (.inl ⟨sg_0, rfl⟩)
  · exact .inl ⟨sg_pos (by exact_mod_cast h), h⟩
set_option Elab.async true in
set_option maxHeartbeats 2000000 in
theorem F4.over {q0 q1 q2 q3 : Rat} (h0 : BQ 134 q0) (h1 : BQ 134 q1) (h2 : BQ 134 q2) (h3 : BQ 134 q3) :
    F4 q0 q1 q2 q3 (q0.num * (1 * (q0.den : Int) * (q1.den : Int) * (q2.den : Int) * (q3.den : Int)).fdiv (q0.den : Int)) (q1.num * (1 * (q0.den : Int) * (q1.den : Int) * (q2.den : Int) * (q3.den : Int)).fdiv (q1.den : Int)) (q2.num * (1 * (q0.den : Int) * (q1.den : Int) * (q2.den : Int) * (q3.den : Int)).fdiv (q2.den : Int)) (q3.num * (1 * (q0.den : Int) * (q1.den : Int) * (q2.den : Int) * (q3.den : Int)).fdiv (q3.den : Int)) (1 * (q0.den : Int) * (q1.den : Int) * (q2.den : Int) * (q3.den : Int)) := by
  have p0 := denP q0
  have p1 := denP q1
  have p2 := denP q2
  have p3 := denP q3
  have E0 : (1 * (q0.den : Int) * (q1.den : Int) * (q2.den : Int) * (q3.den : Int)).fdiv (q0.den : Int) = (q1.den : Int) * (q2.den : Int) * (q3.den : Int) := by
    rw [show 1 * (q0.den : Int) * (q1.den : Int) * (q2.den : Int) * (q3.den : Int) = (q0.den : Int) * ((q1.den : Int) * (q2.den : Int) * (q3.den : Int)) by grind, Int.mul_fdiv_cancel_left _ (by omega)]
  have E1 : (1 * (q0.den : Int) * (q1.den : Int) * (q2.den : Int) * (q3.den : Int)).fdiv (q1.den : Int) = (q0.den : Int) * (q2.den : Int) * (q3.den : Int) := by
    rw [show 1 * (q0.den : Int) * (q1.den : Int) * (q2.den : Int) * (q3.den : Int) = (q1.den : Int) * ((q0.den : Int) * (q2.den : Int) * (q3.den : Int)) by grind, Int.mul_fdiv_cancel_left _ (by omega)]
  have E2 : (1 * (q0.den : Int) * (q1.den : Int) * (q2.den : Int) * (q3.den : Int)).fdiv (q2.den : Int) = (q0.den : Int) * (q1.den : Int) * (q3.den : Int) := by
    rw [show 1 * (q0.den : Int) * (q1.den : Int) * (q2.den : Int) * (q3.den : Int) = (q2.den : Int) * ((q0.den : Int) * (q1.den : Int) * (q3.den : Int)) by grind, Int.mul_fdiv_cancel_left _ (by omega)]
  have E3 : (1 * (q0.den : Int) * (q1.den : Int) * (q2.den : Int) * (q3.den : Int)).fdiv (q3.den : Int) = (q0.den : Int) * (q1.den : Int) * (q2.den : Int) := by
    rw [show 1 * (q0.den : Int) * (q1.den : Int) * (q2.den : Int) * (q3.den : Int) = (q3.den : Int) * ((q0.den : Int) * (q1.den : Int) * (q2.den : Int)) by grind, Int.mul_fdiv_cancel_left _ (by omega)]
  rw [E0, E1, E2, E3]
  have m0 := numc q0
  have m1 := numc q1
  have m2 := numc q2
  have m3 := numc q3
  refine ⟨Int.mul_pos (Int.mul_pos (Int.mul_pos (Int.mul_pos (by decide) p0) p1) p2) p3, ?_, ?_, ?_, ?_, (B.mul h0.n (B.mul (B.mul h1.d h2.d) h3.d)).le (by decide), (B.mul h1.n (B.mul (B.mul h0.d h2.d) h3.d)).le (by decide), (B.mul h2.n (B.mul (B.mul h0.d h1.d) h3.d)).le (by decide), (B.mul h3.n (B.mul (B.mul h0.d h1.d) h2.d)).le (by decide)⟩
  all_goals
    simp only [Rat.intCast_mul] at m0 m1 m2 m3 ⊢
    generalize ((q0.den : Int) : Rat) = d0 at *
    generalize ((q1.den : Int) : Rat) = d1 at *
    generalize ((q2.den : Int) : Rat) = d2 at *
    generalize ((q3.den : Int) : Rat) = d3 at *
    first | rw [← m0]; grind | rw [← m1]; grind | rw [← m2]; grind | rw [← m3]; grind
in #guard_msgs in universe u_z
end My
namespace My
open PySem L2 PyProof.Rows
section
variable {n : V3} {t : Rat} {p0 p1 p2 p3 s f0 f1 f2 f3 c : Int}
set_option Elab.async true in
theorem pla_pair {l x y : Rat} {s a b f g c : Int} (hs : s = 1 ∨ s = -1) (ha : ((s * a : Int) : Rat) = l * x) (hb : ((s * b : Int) : Rat) = l * y) (hf : (f : Rat) = x * (c : Rat)) (hg : (g : Rat) = y * (c : Rat)) : a * g = b * f := by
  have h : ((s * a * g : Int) : Rat) = ((s * b * f : Int) : Rat) := by
    rw [Rat.intCast_mul, Rat.intCast_mul (s * b), ha, hb, hf, hg]
    grind
  have h2 : s * a * g = s * b * f := by exact_mod_cast h
  rcases hs with rfl | rfl
  · simpa using h2
  · have : -(a * g) = -(b * f) := by simpa [Int.neg_mul] using h2
    omega
in #guard_msgs in universe u_z
theorem Pla.pairs (h : Pla n t p0 p1 p2 p3 s) (F : F4 n.x n.y n.z t f0 f1 f2 f3 c) : p1 * f0 = p0 * f1 ∧ p2 * f0 = p0 * f2 ∧ p2 * f1 = p1 * f2 ∧ p3 * f0 = p0 * f3 ∧ p3 * f1 = p1 * f3 ∧ p3 * f2 = p2 * f3 := by
  obtain ⟨l, _, e0, e1, e2, e3⟩ := h.ex
  exact ⟨pla_pair h.hs e1 e0 F.e1 F.e0, pla_pair h.hs e2 e0 F.e2 F.e0, pla_pair h.hs e2 e1 F.e2 F.e1, pla_pair h.hs e3 e0 F.e3 F.e0, pla_pair h.hs e3 e1 F.e3 F.e1, pla_pair h.hs e3 e2 F.e3 F.e2⟩
set_option Elab.async true in
theorem pla_sq {l x : Rat} {s a f c : Int} (hl : 0 < l) (hc : 0 < c) (ha : ((s * a : Int) : Rat) = l * x) (hf : (f : Rat) = x * (c : Rat)) : 0 ≤ s * (a * f) ∧ (s * (a * f) = 0 → s * a = 0) := by
  have cc : (0 : Rat) < (c : Rat) := by exact_mod_cast hc
  have h : ((s * (a * f) : Int) : Rat) = (l * (c : Rat)) * (x * x) := by
    rw [← Int.mul_assoc, Rat.intCast_mul, ha, hf]
    grind
  have lc : 0 < l * (c : Rat) := Rat.mul_pos hl cc
  have xx : 0 ≤ x * x := by
    rcases (Rat.le_total : (0 : Rat) ≤ x ∨ x ≤ 0) with q | q
    · exact Rat.mul_nonneg q q
    · have := Rat.mul_nonneg (show 0 ≤ -x by grind) (show 0 ≤ -x by grind)
      grind
  constructor
  · have : (0 : Rat) ≤ ((s * (a * f) : Int) : Rat) := by rw [h]; exact Rat.mul_nonneg (Rat.le_of_lt lc) xx
    exact_mod_cast this
  · intro z
    rw [z] at h
    have xz : x = 0 := by
      rcases Rat.mul_eq_zero.1 h.symm with q | q
      · grind
      · rcases Rat.mul_eq_zero.1 q with q | q <;> exact q
    rw [xz, Rat.mul_zero] at ha
    exact_mod_cast ha
in #guard_msgs in universe u_z
theorem Pla.pos (h : Pla n t p0 p1 p2 p3 s) (F : F4 n.x n.y n.z t f0 f1 f2 f3 c) : 0 < s * (p0 * f0 + p1 * f1 + p2 * f2 + p3 * f3) := by
  obtain ⟨l, hl, e0, e1, e2, e3⟩ := h.ex
  have a0 := pla_sq hl F.c0 e0 F.e0
  have a1 := pla_sq hl F.c0 e1 F.e1
  have a2 := pla_sq hl F.c0 e2 F.e2
  have a3 := pla_sq hl F.c0 e3 F.e3
  have nz := h.p.nz
  rw [Int.mul_add, Int.mul_add, Int.mul_add]
  rcases h.hs with rfl | rfl <;> omega
theorem Pla.neg (h : Pla n t p0 p1 p2 p3 s) : Pla ⟨-n.x, -n.y, -n.z⟩ (-t) p0 p1 p2 p3 (-s) := by
  obtain ⟨l, hl, e0, e1, e2, e3⟩ := h.ex
  refine ⟨h.p, by rcases h.hs with rfl | rfl <;> simp, l, hl, ?_, ?_, ?_, ?_⟩
  all_goals
    rw [Int.neg_mul, Rat.intCast_neg]
    first | rw [e0]; grind | rw [e1]; grind | rw [e2]; grind | rw [e3]; grind
end
end My

namespace My
open PySem L2 PyProof.Rows
section
variable {n : V3} {t : Rat} {q0 q1 q2 q3 : Rat} {p0 p1 p2 p3 s f0 f1 f2 f3 c : Int}
theorem F4.neg (F : F4 q0 q1 q2 q3 f0 f1 f2 f3 c) : F4 (-q0) (-q1) (-q2) (-q3) (-f0) (-f1) (-f2) (-f3) c :=
  ⟨F.c0, by rw [Rat.intCast_neg, F.e0]; grind, by rw [Rat.intCast_neg, F.e1]; grind, by rw [Rat.intCast_neg, F.e2]; grind, by rw [Rat.intCast_neg, F.e3]; grind, F.b0.neg, F.b1.neg, F.b2.neg, F.b3.neg⟩
theorem f4_z {x : Rat} {f c : Int} (hc : 0 < c) (e : (f : Rat) = x * (c : Rat)) : x = 0 ↔ f = 0 := by
  have cc : (0 : Rat) < (c : Rat) := by exact_mod_cast hc
  constructor
  · intro h
    rw [h, Rat.zero_mul] at e
    exact_mod_cast e
  · intro h
    rw [h] at e
    rcases Rat.mul_eq_zero.1 (show x * (c : Rat) = 0 by rw [← e]; rfl) with h | h
    · exact h
    · grind
theorem F4.nul (F : F4 n.x n.y n.z t f0 f1 f2 f3 c) : (n.x = 0 ∧ n.y = 0 ∧ n.z = 0) ↔ (f0 = 0 ∧ f1 = 0 ∧ f2 = 0) := by
  rw [f4_z F.c0 F.e0, f4_z F.c0 F.e1, f4_z F.c0 F.e2]
set_option Elab.async true in
theorem Pla.toHF (h : Pla n t p0 p1 p2 p3 s) (F : F4 n.x n.y n.z t f0 f1 f2 f3 c) : ∃ g, HF f0 f1 f2 f3 p0 p1 p2 p3 s g := by
  obtain ⟨l, hl, e0, e1, e2, e3⟩ := h.ex
  have lp := num_pos.2 hl
  have lc := numc l
  have ld := denP l
  have cd : 0 < c * (l.den : Int) := Int.mul_pos F.c0 ld
  obtain ⟨m, hm⟩ := Int.eq_ofNat_of_zero_le (Int.le_of_lt lp)
  obtain ⟨N, hN⟩ := Int.eq_ofNat_of_zero_le (Int.le_of_lt cd)
  have go : ∀ {a f : Int} {x : Rat}, ((s * a : Int) : Rat) = l * x → (f : Rat) = x * (c : Rat) → f * (m : Int) = s * a * (N : Int) := by
    intro a f x h1 h2
    have : ((f * (m : Int) : Int) : Rat) = ((s * a * (N : Int) : Int) : Rat) := by
      rw [← show l.num = (m : Int) from hm, ← show c * (l.den : Int) = (N : Int) from hN]
      simp only [Rat.intCast_mul] at *
      rw [h2]
      grind
    exact_mod_cast this
  have r0 := go e0 F.e0
  have r1 := go e1 F.e1
  have r2 := go e2 F.e2
  have r3 := go e3 F.e3
  have m0 : 0 < m := by omega
  have gs : gl [s * p0, s * p1, s * p2, s * p3] = 1 := by
    rcases h.hs with rfl | rfl
    · simpa using h.p.g
    · have := gl_neg p0 p1 p2 p3
      simpa [h.p.g] using this
  have g1 := gl_mul m f0 f1 f2 f3
  rw [r0, r1, r2, r3, gl_mul, gs, Nat.one_mul] at g1
  have gp : 0 < gl [f0, f1, f2, f3] := by
    rcases Nat.eq_zero_or_pos (gl [f0, f1, f2, f3]) with z | z
    · rw [z, Nat.zero_mul] at g1; omega
    · exact z
  rw [g1] at r0 r1 r2 r3
  have fin : ∀ {a f : Int}, f * (m : Int) = s * a * ((gl [f0, f1, f2, f3] * m : Nat) : Int) → f = a * (s * ((gl [f0, f1, f2, f3] : Nat) : Int)) := by
    intro a f h
    apply Int.eq_of_mul_eq_mul_right (show (m : Int) ≠ 0 by omega)
    rw [h, Int.natCast_mul]
    grind
  exact ⟨_, by exact_mod_cast gp, h.hs, fin r0, fin r1, fin r2, fin r3, h.p⟩
in #guard_msgs in universe u_z
theorem Pla.small {k : Nat} (h : Pla n t p0 p1 p2 p3 s) (F : F4 n.x n.y n.z t f0 f1 f2 f3 c) (b0 : B k f0) (b1 : B k f1) (b2 : B k f2) (b3 : B k f3) : B k p0 ∧ B k p1 ∧ B k p2 ∧ B k p3 := by
  obtain ⟨g, hf⟩ := h.toHF F
  exact (hf.out b0 b1 b2 b3).2
theorem Pla.eqs {a b c' d s' : Int} (h : Pla n t p0 p1 p2 p3 s) (h' : Pla n t a b c' d s') : a = p0 ∧ b = p1 ∧ c' = p2 ∧ d = p3 :=
  Pla.same (k := 1) (.inl rfl) h h' (by grind) (by grind) (by grind) (by grind)
theorem Pla.sd {s' : Int} (h : Pla n t p0 p1 p2 p3 s) (h' : Pla n t p0 p1 p2 p3 s') : s' = s := by
  obtain ⟨l, hl, x0, x1, x2, x3⟩ := h.ex
  obtain ⟨j, hj, y0, y1, y2, y3⟩ := h'.ex
  have pl := num_pos.2 hl
  have pj := num_pos.2 hj
  obtain ⟨_, _, _, _, r⟩ := HF.uniq (HF.self h.p h.hs) (HF.self h'.p h'.hs) (Int.mul_pos pj (denP l)) (Int.mul_pos pl (denP j)) (rat_int (by grind)) (rat_int (by grind)) (rat_int (by grind)) (rat_int (by grind))
  exact r
set_option Elab.async true in
theorem Pla.sgn {v : V3} (h : Pla n t p0 p1 p2 p3 s) (F : F4 n.x n.y n.z t f0 f1 f2 f3 c) {tot : Int} {D : Int} (hD : 0 < D) (e : (tot : Rat) = pval f0 f1 f2 f3 v * (D : Rat)) : s * sg (pval p0 p1 p2 p3 v) = sg (tot : Rat) := by
  obtain ⟨l, hl, hv⟩ := h.val
  have cc : (0 : Rat) < (c : Rat) := by exact_mod_cast F.c0
  have dd : (0 : Rat) < (D : Rat) := by exact_mod_cast hD
  have pv : pval f0 f1 f2 f3 v = (c : Rat) * (dt n v + t) := by
    simp only [pval, dt, F.e0, F.e1, F.e2, F.e3]
    grind
  have e2 : (tot : Rat) = ((c : Rat) * (D : Rat)) * (dt n v + t) := by rw [e, pv]; grind
  rw [e2]
  have h1 := hv v
  have k1 : sg ((s : Rat) * pval p0 p1 p2 p3 v) = sg (dt n v + t) := by rw [h1]; exact sg_mul hl
  have k2 : sg (((c : Rat) * (D : Rat)) * (dt n v + t)) = sg (dt n v + t) := sg_mul (Rat.mul_pos cc dd)
  rw [k2, ← k1, sg_s h.hs]
in #guard_msgs in universe u_z
end
end My
namespace My
open PySem L2 PyProof.Rows
theorem RvL.four {K : PySem.W.Frag} {H : Hp} {acc : List V} {x y z t : Rat} (h : Paired (fun v q => RvQ K H v q) acc [x, y, z, t]) : ∃ a b c d : V, acc = [a, b, c, d] ∧ RvQ K H a x ∧ RvQ K H b y ∧ RvQ K H c z ∧ RvQ K H d t := by
  cases h with
  | cons r1 h =>
    cases h with
    | cons r2 h =>
      cases h with
      | cons r3 h =>
        cases h with
        | cons r4 h =>
          cases h
          exact ⟨_, _, _, _, rfl, r1, r2, r3, r4⟩
end My
namespace My
open PySem L2 PyProof.Rows
theorem eqv_l3 (a b c d e f : Int) : PyData.eqv (.list [.int a, .int b, .int c]) (.list [.int d, .int e, .int f]) = decide (a = d ∧ b = e ∧ c = f) := by
  rw [eqv_L, eqv_C, eqv_C, eqv_C, eqv_N, eqv_I, eqv_I, eqv_I]
  simp [Bool.decide_and]
set_option Elab.async true in
theorem pd_h {n : Nat} {a b c d s : Int} (h0 : B 1100 a) (h1 : B 1100 b) (h2 : B 1100 c) (h3 : B 1100 d) (hs : B 1100 s) : Pd (n + 3) (.tuple [.tuple [.int a, .int b, .int c, .int d], .int s]) := by
  refine ⟨(by decide : 2 ≤ 150), fun x hx => ?_⟩
  simp only [List.mem_cons, List.not_mem_nil, or_false] at hx
  rcases hx with rfl | rfl
  · refine ⟨(by decide : 4 ≤ 150), fun x hx => ?_⟩
    simp only [List.mem_cons, List.not_mem_nil, or_false] at hx
    rcases hx with rfl | rfl | rfl | rfl
    · exact h0
    · exact h1
    · exact h2
    · exact h3
  · exact hs
in #guard_msgs in universe u_z
theorem pd_p {n : Nat} {a b c d : Int} (h0 : B 1100 a) (h1 : B 1100 b) (h2 : B 1100 c) (h3 : B 1100 d) : Pd (n + 2) (.tuple [.int a, .int b, .int c, .int d]) := by
  refine ⟨(by decide : 4 ≤ 150), fun x hx => ?_⟩
  simp only [List.mem_cons, List.not_mem_nil, or_false] at hx
  rcases hx with rfl | rfl | rfl | rfl
  · exact h0
  · exact h1
  · exact h2
  · exact h3
end My
namespace My
open PySem L2 PyProof.Rows
theorem f4_001 : F4 ((0 : Int) : Rat) ((0 : Int) : Rat) ((-1 : Int) : Rat) ((0 : Int) : Rat) 0 0 (-1) 0 1 :=
  ⟨by decide, by decide +kernel, by decide +kernel, by decide +kernel, by decide +kernel, (B.lit (k := 1) (by decide)).le (by decide), (B.lit (k := 1) (by decide)).le (by decide), (B.lit (k := 2) (by decide)).le (by decide), (B.lit (k := 1) (by decide)).le (by decide)⟩
theorem vn_int3 {a b c : Int} (h0 : B 100 a) (h1 : B 100 b) (h2 : B 100 c) : VN 134 134 (⟨(a : Rat), (b : Rat), (c : Rat)⟩ : V3) := (VN.int3 h0 h1 h2).le (by decide) (by decide)
end My
namespace My
open PySem L2 PyProof.Rows
theorem RvL.four' {K : PySem.W.Frag} {H : Hp} {acc : List V} {x y z t : Rat} (h : Paired (fun v q => RvQ K H v (-q)) acc [x, y, z, t]) : ∃ a b c d : V, acc = [a, b, c, d] ∧ RvQ K H a (-x) ∧ RvQ K H b (-y) ∧ RvQ K H c (-z) ∧ RvQ K H d (-t) := by
  cases h with
  | cons r1 h =>
    cases h with
    | cons r2 h =>
      cases h with
      | cons r3 h =>
        cases h with
        | cons r4 h =>
          cases h
          exact ⟨_, _, _, _, rfl, r1, r2, r3, r4⟩
end My
namespace My
open PySem L2 PyProof.Rows
theorem dxa_ints {K : PySem.W.Frag} {N : List Addr} {H : Hp} (zs : List Int) : DxA K N H (zs.map V.int) (zs.map PyData.int) := by
  induction zs with
  | nil => exact .nil
  | cons z zs ih => exact .cons (.int z) ih
end My

set_option Elab.async false
set_option linter.all false
set_option maxRecDepth 100000
/-! sums of conditions with multipliers -/
namespace My
open PySem L2
section
variable {K : PySem.W.Frag} {a b : Addr} {xs ys : List V} {D : Ends} {σ : L2.St} {H : Hp}
/-- a loop over zip of two lists -/
theorem f_zL {g : TG} {t : TS} (hl : xs.length = ys.length) (Pv : Nat → L2.St → Hp → Prop) (h0 : Pv 0 σ H) (hq : ∀ i σ H', Pv i σ H' → SqL K H' a xs ∧ SqL K H' b ys)
    (hs : ∀ (i : Nat) (x y : V) (T : Addr) (σ : L2.St) (H1 H2 : Hp), xs[i]? = some x → ys[i]? = some y → Pv i σ H1 → Same H1 H2 → H2 T = some (.tup [x, y]) → g (.ref T) σ H2 fun σ2 H3 => t { D with nx := Pv (i + 1), ct := Pv (i + 1), bk := D.nx } σ2 H3)
    (hd : ∀ σ H, Pv xs.length σ H → D.nx σ H) : forT (Itz K a b) g t D σ H :=
  RZ.for_zipL hl Pv h0 hq (fun i x y T σ H1 ex ey p nT => hs i x y T σ H1 _ ex ey p (Same.new nT) upd_same) hd
end
def Cd.co (c : Cd) (k : Nat) : Int := match k with
  | 0 => c.a
  | 1 => c.b
  | 2 => c.c
  | _ => c.d
def Cd.tn (c : Cd) : Int := if c.n < 0 then -1 else 1
theorem Cd.co_get (c : Cd) {k : Nat} (h : k < 4) : ([.int c.a, .int c.b, .int c.c, .int c.d] : List V)[k]? = some (.int (c.co k)) := by
  rcases k with _ | _ | _ | _ | k
  · rfl
  · rfl
  · rfl
  · rfl
  · omega
theorem Cd.Good.co {c : Cd} (h : c.Good) (k : Nat) : B 1000 (c.co k) := by
  rcases k with _ | _ | _ | k
  · exact h.ba
  · exact h.bb
  · exact h.bc
  · exact h.bd
theorem Cd.tn_v (c : Cd) : c.tn = 1 ∨ c.tn = -1 := by
  unfold Cd.tn
  split
  · exact .inr rfl
  · exact .inl rfl
theorem Cd.Good.wt {c : Cd} (h : c.Good) (k : Nat) : B 1000 (c.tn * c.co k) := by
  rcases c.tn_v with e | e <;> rw [e]
  · rw [Int.one_mul]; exact h.co k
  · rw [Int.neg_mul, Int.one_mul]; exact (h.co k).neg
/-- the sum over conditions of a multiplier times a number of the plane, towards the needed side -/
def wsm (k : Nat) : List Cd → List Rat → Rat
  | c :: cs, q :: qs => q * ((c.tn * c.co k : Int) : Rat) + wsm k cs qs
  | _, _ => 0
theorem wsm_snoc (k : Nat) : ∀ (cs : List Cd) (qs : List Rat) (c : Cd) (q : Rat), cs.length = qs.length → wsm k (cs ++ [c]) (qs ++ [q]) = wsm k cs qs + q * ((c.tn * c.co k : Int) : Rat)
  | [], [], c, q, _ => by simp only [wsm, List.nil_append]; grind
  | x :: cs, y :: qs, c, q, h => by
    have ih := wsm_snoc k cs qs c q (by simpa using h)
    simp only [wsm, List.cons_append]
    rw [ih]
    grind
theorem wsm_take {k i : Nat} {cs : List Cd} {qs : List Rat} {c : Cd} {q : Rat} (l : cs.length = qs.length) (hc : cs[i]? = some c) (hq : qs[i]? = some q) : wsm k (cs.take (i + 1)) (qs.take (i + 1)) = wsm k (cs.take i) (qs.take i) + q * ((c.tn * c.co k : Int) : Rat) := by
  rw [List.take_add_one, hc, List.take_add_one, hq]
  exact wsm_snoc k _ _ c q (by simp [l])
/-- ratios with bounds of their own below, that add up to no more than n -/
structure QW (qs : List Rat) (ds : List Nat) (n : Nat) : Prop where
  len : ds.length = qs.length
  sum : ds.sum ≤ n
  few : ds.length ≤ 60
  all : ∀ (i : Nat) (q : Rat) (d : Nat), qs[i]? = some q → ds[i]? = some d → BN 1200 d q
theorem sum_take (ds : List Nat) {i d : Nat} (h : ds[i]? = some d) : (ds.take (i + 1)).sum = (ds.take i).sum + d := by
  rw [List.take_add_one, h]
  simp
theorem sum_take_le : ∀ (ds : List Nat) (i : Nat), (ds.take i).sum ≤ ds.sum
  | [], i => by simp
  | d :: ds, 0 => by simp
  | d :: ds, i + 1 => by
    have := sum_take_le ds i
    simp only [List.take_succ_cons, List.sum_cons]
    omega
end My
namespace My
open PySem L2
theorem BN.mulI {n d k : Nat} {q : Rat} {w : Int} (h : BN n d q) (hw : B k w) : BN (n + k) d (q * (w : Rat)) :=
  BN.ofD (D := (q.den : Int)) (N := q.num * w) (denP q) h.d (B.mul h.n hw) (by
    have := numc q
    rw [Rat.intCast_mul]
    grind)
theorem wsm_nil (k : Nat) (cs : List Cd) (qs : List Rat) : wsm k (cs.take 0) (qs.take 0) = 0 := rfl
end My
namespace My
open PySem L2 PyProof.Rows
section
variable {K : PySem.W.Frag} {N : List Addr} {H : Hp} {v : V} {d : PyData}
theorem Dx.lstC (h : Dx K N H v d) : (∃ a xs ds, v = .ref a ∧ d = .list ds ∧ H a = some (.lst xs) ∧ DxA K N H xs ds) ∨ (kitB (kdD d) "list" = some false ∧ ∀ ds, d ≠ .list ds) := by
  cases h with
  | lst n q a => exact .inl ⟨_, _, _, rfl, rfl, q, a⟩
  | _ => exact .inr ⟨by dsimp only [kdD]; decide +kernel, fun _ e => nomatch e⟩
theorem r_any {a : Addr} {bs : List Bool} {Q : VK} (q : SqL K H a (bs.map V.bl)) (h : Q (.bl (bs.any id)) H) : rAny K [.ref a] H Q := ⟨a, bs, rfl, q, h⟩
theorem Dx.qd {q : Rat} (h : Dx K N H v (qD q)) : ∃ a, v = .ref a ∧ SqT K H a [.int q.num, .int (q.den : Int)] := by
  unfold qD at h
  cases h with
  | tup s a =>
    cases a with
    | cons h1 a =>
      cases a with
      | cons h2 a =>
        cases a
        cases h1
        cases h2
        exact ⟨_, rfl, s⟩
theorem DxA.qtl : ∀ {vs : List V} {qs : List Rat}, DxA K N H vs (qs.map qD) → QtL K H vs qs
  | [], [], _ => .nil
  | v :: vs, q :: qs, .cons h t => .cons (Dx.qd h) (DxA.qtl t)
theorem all_qs : ∀ {ds : List PyData}, (∀ d, d ∈ ds → IsR d) → ∃ qs : List Rat, ds = qs.map qD
  | [], _ => ⟨[], rfl⟩
  | d :: ds, h => by
    obtain ⟨q, e⟩ := isR_iff.1 (h d (by simp))
    obtain ⟨qs, e2⟩ := all_qs (ds := ds) fun x hx => h x (List.mem_cons_of_mem _ hx)
    exact ⟨q :: qs, by rw [e, e2]; rfl⟩
end
/-- what is_refutation tells of conditions and a value -/
structure Rfd (cs : List Cd) (qs : List Rat) : Prop where
  len : qs.length = cs.length
  pos : ∀ p : Cd × Rat, p ∈ cs.zip qs → p.1.n ≠ 0 → 0 ≤ p.2
  s0 : wsm 0 cs qs = 0
  s1 : wsm 1 cs qs = 0
  s2 : wsm 2 cs qs = 0
  s3 : wsm 3 cs qs < 0 ∨ (wsm 3 cs qs = 0 ∧ ∃ p : Cd × Rat, p ∈ cs.zip qs ∧ (p.1.n = 1 ∨ p.1.n = -1) ∧ 0 < p.2)
def RfD (cs : List Cd) (d : PyData) : Prop := ∃ qs : List Rat, d = .list (qs.map qD) ∧ Rfd cs qs
theorem qDs_inj : ∀ {ps qs : List Rat}, ps.map qD = qs.map qD → ps = qs
  | [], [], _ => rfl
  | [], _ :: _, h => by simp at h
  | _ :: _, [], h => by simp at h
  | p :: ps, q :: qs, h => by
    simp only [List.map_cons, List.cons.injEq] at h
    rw [qD_inj h.1, qDs_inj h.2]
theorem RfD.qs {cs : List Cd} {qs : List Rat} (h : RfD cs (.list (qs.map qD))) : Rfd cs qs := by
  obtain ⟨ps, e, r⟩ := h
  injection e with e
  rw [qDs_inj e]
  exact r
theorem any_iff {bs : List Bool} : bs.any id = true ↔ ∃ i : Nat, bs[i]? = some true := by
  rw [List.any_eq_true]
  constructor
  · rintro ⟨b, hb, e⟩
    obtain ⟨i, hi⟩ := List.mem_iff_getElem?.1 hb
    exact ⟨i, by rw [hi]; simpa using e⟩
  · rintro ⟨i, hi⟩
    exact ⟨true, List.mem_of_getElem? hi, rfl⟩
theorem all_iff {bs : List Bool} : bs.all id = true ↔ ∀ (i : Nat) (b : Bool), bs[i]? = some b → b = true := by
  rw [List.all_eq_true]
  constructor
  · intro h i b hb
    exact h b (List.mem_of_getElem? hb)
  · intro h b hb
    obtain ⟨i, hi⟩ := List.mem_iff_getElem?.1 hb
    exact h i b hi
end My
namespace My
open PySem L2
theorem paired_allB {α : Type} {R : α → Prop} {acc : List V} {ds : List α} (h : Paired (fun v d => ∃ b, v = V.bl b ∧ (b = true ↔ R d)) acc ds) : ∃ bs : List Bool, acc = bs.map V.bl ∧ (bs.all id = true ↔ ∀ d, d ∈ ds → R d) := by
  induction h with
  | nil => exact ⟨[], rfl, by simp⟩
  | cons r _ ih =>
    obtain ⟨b, rfl, hb⟩ := r
    obtain ⟨bs, rfl, hbs⟩ := ih
    refine ⟨b :: bs, rfl, ?_⟩
    rw [List.all_cons, Bool.and_eq_true, hbs]
    simp only [id_eq, hb, List.mem_cons, forall_eq_or_imp]
set_option Elab.async true in
theorem paired_anyB {α : Type} {R : α → Prop} {acc : List V} {ds : List α} (h : Paired (fun v d => ∃ b, v = V.bl b ∧ (b = true ↔ R d)) acc ds) : ∃ bs : List Bool, acc = bs.map V.bl ∧ (bs.any id = true ↔ ∃ d, d ∈ ds ∧ R d) := by
  induction h with
  | nil => exact ⟨[], rfl, by simp⟩
  | cons r _ ih =>
    obtain ⟨b, rfl, hb⟩ := r
    obtain ⟨bs, rfl, hbs⟩ := ih
    refine ⟨b :: bs, rfl, ?_⟩
    rw [List.any_cons, Bool.or_eq_true, hbs]
    simp only [id_eq, hb, List.mem_cons]
    constructor
    · rintro (h | ⟨d, h1, h2⟩)
      · exact ⟨_, .inl rfl, h⟩
      · exact ⟨d, .inr h1, h2⟩
    · rintro ⟨d, rfl | h1, h2⟩
      · exact .inl h2
      · exact .inr ⟨d, h1, h2⟩
in #guard_msgs in universe u_z
theorem zip_at {α β : Type} {xs : List α} {ys : List β} {i : Nat} {x : α} {y : β} (h1 : xs[i]? = some x) (h2 : ys[i]? = some y) : (xs.zip ys)[i]? = some (x, y) := List.getElem?_zip_eq_some.2 ⟨h1, h2⟩
end My
namespace My
open PySem L2
theorem sg_lt {x : Rat} : sg x < 0 ↔ x < 0 := by
  rcases (Rat.le_total : (0 : Rat) ≤ x ∨ x ≤ 0) with h | h
  · by_cases e : x = 0
    · subst e; simp [sg_0]
    · rw [sg_pos (by grind)]; constructor <;> intro z <;> grind
  · by_cases e : x = 0
    · subst e; simp [sg_0]
    · rw [sg_neg (by grind)]; constructor <;> intro z <;> grind
theorem sg_gt {x : Rat} : 0 < sg x ↔ 0 < x := by
  rcases (Rat.le_total : (0 : Rat) ≤ x ∨ x ≤ 0) with h | h
  · by_cases e : x = 0
    · subst e; simp [sg_0]
    · rw [sg_pos (by grind)]; constructor <;> intro z <;> grind
  · by_cases e : x = 0
    · subst e; simp [sg_0]
    · rw [sg_neg (by grind)]; constructor <;> intro z <;> grind
theorem sg_eq0 {x : Rat} : sg x = 0 ↔ x = 0 := ⟨sg_z, fun e => by rw [e]; exact sg_0⟩
theorem zip_mem {α β : Type} {xs : List α} {ys : List β} {i : Nat} {x : α} {y : β} (h1 : xs[i]? = some x) (h2 : ys[i]? = some y) : (x, y) ∈ xs.zip ys := List.mem_of_getElem? (zip_at h1 h2)
theorem all_next {α : Type} {P : α → Prop} {xs : List α} {i : Nat} {x : α} (e : xs[i]? = some x) (h : ∀ p, p ∈ xs.take i → P p) (hx : P x) : ∀ p, p ∈ xs.take (i + 1) → P p := fun p hp => by
  rw [List.take_add_one, e] at hp
  rcases List.mem_append.1 hp with q | q
  · exact h p q
  · simp at q
    exact q ▸ hx
end My
namespace My
open PySem L2
/-- the sum of the multipliers of the strict ones -/
def ssm : List Cd → List Rat → Rat
  | c :: cs, q :: qs => (if c.n = 1 ∨ c.n = -1 then q else 0) + ssm cs qs
  | _, _ => 0
theorem ssm_snoc : ∀ (cs : List Cd) (qs : List Rat) (c : Cd) (q : Rat), cs.length = qs.length → ssm (cs ++ [c]) (qs ++ [q]) = ssm cs qs + (if c.n = 1 ∨ c.n = -1 then q else 0)
  | [], [], c, q, _ => by simp only [ssm, List.nil_append]; grind
  | x :: cs, y :: qs, c, q, h => by
    have ih := ssm_snoc cs qs c q (by simpa using h)
    simp only [ssm, List.cons_append]
    rw [ih]
    grind
theorem ssm_take {i : Nat} {cs : List Cd} {qs : List Rat} {c : Cd} {q : Rat} (l : cs.length = qs.length) (hc : cs[i]? = some c) (hq : qs[i]? = some q) : ssm (cs.take (i + 1)) (qs.take (i + 1)) = ssm (cs.take i) (qs.take i) + (if c.n = 1 ∨ c.n = -1 then q else 0) := by
  rw [List.take_add_one, hc, List.take_add_one, hq]
  exact ssm_snoc _ _ c q (by simp [l])
set_option Elab.async true in
theorem ssm_pos : ∀ (cs : List Cd) (qs : List Rat), (∀ p : Cd × Rat, p ∈ cs.zip qs → p.1.n ≠ 0 → 0 ≤ p.2) → 0 ≤ ssm cs qs ∧ (0 < ssm cs qs ↔ ∃ p : Cd × Rat, p ∈ cs.zip qs ∧ (p.1.n = 1 ∨ p.1.n = -1) ∧ 0 < p.2)
  | [], qs, _ => by simp [ssm]
  | c :: cs, [], _ => by simp [ssm]
  | c :: cs, q :: qs, h => by
    have ih := ssm_pos cs qs fun p hp => h p (by simp [hp])
    have h0 : c.n ≠ 0 → 0 ≤ q := h (c, q) (by simp)
    obtain ⟨i1, i2⟩ := ih
    simp only [ssm, List.zip_cons_cons, List.mem_cons]
    by_cases hs : c.n = 1 ∨ c.n = -1
    · rw [if_pos hs]
      have hq : 0 ≤ q := h0 (by omega)
      refine ⟨by grind, fun hp => ?_, ?_⟩
      · by_cases q0 : 0 < q
        · exact ⟨(c, q), .inl rfl, hs, q0⟩
        · obtain ⟨p, h1, h2⟩ := i2.1 (by grind)
          exact ⟨p, .inr h1, h2⟩
      · rintro ⟨p, rfl | h1, h2, h3⟩
        · have h3' : 0 < q := h3
          grind
        · have := i2.2 ⟨p, h1, h2, h3⟩
          grind
    · rw [if_neg hs]
      have e : (0 : Rat) + ssm cs qs = ssm cs qs := by grind
      rw [e]
      refine ⟨i1, fun hp => ?_, ?_⟩
      · obtain ⟨p, h1, h2⟩ := i2.1 hp
        exact ⟨p, .inr h1, h2⟩
      · rintro ⟨p, rfl | h1, h2, h3⟩
        · exact absurd h2 hs
        · exact i2.2 ⟨p, h1, h2, h3⟩
in #guard_msgs in universe u_z
set_option Elab.async true in
/-- the sums over one common bottom decide -/
theorem rfd_due {cs : List Cd} {qs : List Rat} {C T0 T1 T2 T3 S : Int} (hC : 0 < C) (len : qs.length = cs.length) (hp : ∀ p : Cd × Rat, p ∈ cs.zip qs → p.1.n ≠ 0 → 0 ≤ p.2)
    (e0 : (T0 : Rat) = (C : Rat) * wsm 0 cs qs) (e1 : (T1 : Rat) = (C : Rat) * wsm 1 cs qs) (e2 : (T2 : Rat) = (C : Rat) * wsm 2 cs qs) (e3 : (T3 : Rat) = (C : Rat) * wsm 3 cs qs) (es : (S : Rat) = (C : Rat) * ssm cs qs) :
    Rfd cs qs ↔ (T0 = 0 ∧ T1 = 0 ∧ T2 = 0) ∧ (T3 < 0 ∨ (T3 = 0 ∧ 0 < S)) := by
  have cc : (0 : Rat) < (C : Rat) := by exact_mod_cast hC
  have zz : ∀ {T : Int} {x : Rat}, (T : Rat) = (C : Rat) * x → (T = 0 ↔ x = 0) := fun {T x} e => by
    constructor
    · intro h
      rw [h] at e
      rcases Rat.mul_eq_zero.1 (show (C : Rat) * x = 0 by rw [← e]; rfl) with h | h
      · grind
      · exact h
    · intro h
      rw [h, Rat.mul_zero] at e
      exact_mod_cast e
  have pp : ∀ {T : Int} {x : Rat}, (T : Rat) = (C : Rat) * x → (0 < T ↔ 0 < x) := fun {T x} e => by
    have : (0 : Rat) < (T : Rat) ↔ 0 < x := by
      rw [e, ← sg_gt (x := (C : Rat) * x), sg_mul cc, sg_gt]
    rw [← this]
    exact_mod_cast Iff.rfl
  have nn : ∀ {T : Int} {x : Rat}, (T : Rat) = (C : Rat) * x → (T < 0 ↔ x < 0) := fun {T x} e => by
    have : (T : Rat) < 0 ↔ x < 0 := by
      rw [e, ← sg_lt (x := (C : Rat) * x), sg_mul cc, sg_lt]
    rw [← this]
    exact_mod_cast Iff.rfl
  rw [zz e0, zz e1, zz e2, zz e3, nn e3, pp es, (ssm_pos cs qs hp).2]
  exact ⟨fun r => ⟨⟨r.s0, r.s1, r.s2⟩, r.s3⟩, fun ⟨⟨a, b, c⟩, d⟩ => ⟨len, hp, a, b, c, d⟩⟩
in #guard_msgs in universe u_z
end My
namespace My
open PySem L2
/-- the sizes of the ratios among data -/
structure DW (ds : List PyData) (ws : List Nat) (n : Nat) : Prop where
  len : ws.length = ds.length
  sum : ws.sum ≤ n
  few : ws.length ≤ 60
  all : ∀ (i : Nat) (q : Rat) (d : Nat), ds[i]? = some (qD q) → ws[i]? = some d → BN 1200 d q
theorem DW.qw {qs : List Rat} {ws : List Nat} {n : Nat} (h : DW (qs.map qD) ws n) : QW qs ws n :=
  ⟨by have := h.len; simpa using this, h.sum, h.few, fun i q d h1 h2 => h.all i q d (by rw [List.getElem?_map, h1]; rfl) h2⟩
set_option Elab.async true in
theorem lcm_step7 {C : Int} {m : Nat} (hC : 0 < C) (hm : 0 < m) :
    0 < Nat.gcd C.natAbs (m : Int).natAbs ∧ Nat.gcd C.natAbs (m : Int).natAbs ≤ m ∧ (m : Int) ∣ C * (m : Int).fdiv ((Nat.gcd C.natAbs (m : Int).natAbs : Nat) : Int) ∧ 0 < (m : Int).fdiv ((Nat.gcd C.natAbs (m : Int).natAbs : Nat) : Int) := by
  obtain ⟨c, rfl⟩ := Int.eq_ofNat_of_zero_le (Int.le_of_lt hC)
  simp only [Int.natAbs_natCast]
  have g0 : 0 < Nat.gcd c m := Nat.gcd_pos_of_pos_right _ hm
  rw [← Int.ofNat_fdiv]
  obtain ⟨a, ha⟩ := Nat.gcd_dvd_left c m
  obtain ⟨b, hb⟩ := Nat.gcd_dvd_right c m
  have e : m / Nat.gcd c m = b := by
    rw [Nat.div_eq_iff_eq_mul_right g0 (Nat.gcd_dvd_right c m)]
    exact hb
  rw [e]
  refine ⟨g0, Nat.le_of_dvd hm (Nat.gcd_dvd_right c m), ?_, ?_⟩
  · have : m ∣ c * b := ⟨a, by
      generalize Nat.gcd c m = g at ha hb
      rw [ha, hb]
      exact Nat.mul_right_comm g a b⟩
    exact_mod_cast this
  · have : 0 < b := by
      rcases Nat.eq_zero_or_pos b with z | z
      · rw [z, Nat.mul_zero] at hb; omega
      · exact z
    exact_mod_cast this
in #guard_msgs in universe u_z
end My
namespace My
open PySem L2
theorem mul_over {q : Rat} {C : Int} (h : (q.den : Int) ∣ C) : ((q.num * C.fdiv (q.den : Int) : Int) : Rat) = (C : Rat) * q := by
  obtain ⟨t, rfl⟩ := h
  have d0 := denP q
  rw [Int.mul_fdiv_cancel_left _ (by omega)]
  have := numc q
  simp only [Rat.intCast_mul] at *
  rw [← this]
  grind
theorem strict_sq {n : Int} (h : -2 ≤ n ∧ n ≤ 2) : n * n = 1 ↔ n = 1 ∨ n = -1 := by
  have : n = -2 ∨ n = -1 ∨ n = 0 ∨ n = 1 ∨ n = 2 := by omega
  rcases this with rfl | rfl | rfl | rfl | rfl <;> decide
end My
namespace My
open PySem L2
theorem over_neg {n C : Int} {q : Rat} (hC : 0 < C) (e : (n : Rat) = (C : Rat) * q) : n < 0 ↔ q < 0 := by
  have cc : (0 : Rat) < (C : Rat) := by exact_mod_cast hC
  have : (n : Rat) < 0 ↔ q < 0 := by
    rw [e, ← sg_lt (x := (C : Rat) * q), sg_mul cc, sg_lt]
  rw [← this]
  exact_mod_cast Iff.rfl
theorem tot_step {C T n t k : Int} {q w : Rat} (e : (T : Rat) = (C : Rat) * w) (en : (n : Rat) = (C : Rat) * q) : ((T + t * n * k : Int) : Rat) = (C : Rat) * (w + q * ((t * k : Int) : Rat)) := by
  simp only [Rat.intCast_add, Rat.intCast_mul]
  rw [e, en]
  grind
end My
namespace My
open PySem L2
set_option Elab.async true in
theorem ok_term {c : Cd} {q : Rat} {p : V3} (h0 : c.n ≠ 0 → 0 ≤ q) (hc : c.ok p) : 0 ≤ q * ((c.tn : Rat) * pval c.a c.b c.c c.d p) ∧ ((c.n = 1 ∨ c.n = -1) → 0 < q → 0 < q * ((c.tn : Rat) * pval c.a c.b c.c c.d p)) := by
  unfold Cd.ok Fits at hc
  generalize hP : pval c.a c.b c.c c.d p = P at hc ⊢
  unfold Cd.tn
  have one : (((1 : Int)) : Rat) = 1 := rfl
  have mone : (((-1 : Int)) : Rat) = -1 := rfl
  have ge : ∀ {t : Rat}, c.n ≠ 0 → 0 ≤ t → 0 ≤ q * t := fun h1 h2 => Rat.mul_nonneg (h0 h1) h2
  rcases hc with ⟨e, s⟩ | ⟨e, s⟩ | ⟨e, s⟩ | ⟨e, s⟩ | ⟨e, s⟩
  · rw [if_neg (by omega), one, Rat.one_mul]
    have pp : 0 < P := sg_gt.1 (by omega)
    exact ⟨ge (by omega) (Rat.le_of_lt pp), fun _ hq => Rat.mul_pos hq pp⟩
  · rw [if_neg (by omega), one, Rat.one_mul]
    have pp : ¬ P < 0 := fun z => by have := sg_lt.2 z; omega
    exact ⟨ge (by omega) (by grind), fun h => by omega⟩
  · have pp : P = 0 := sg_eq0.1 s
    rw [pp, Rat.mul_zero, Rat.mul_zero]
    exact ⟨by decide, fun h => by omega⟩
  · rw [if_pos (by omega), mone]
    have pp : P < 0 := sg_lt.1 (by omega)
    have e2 : (-1 : Rat) * P = -P := by grind
    rw [e2]
    exact ⟨ge (by omega) (by grind), fun _ hq => Rat.mul_pos hq (by grind)⟩
  · rw [if_pos (by omega), mone]
    have pp : ¬ 0 < P := fun z => by have := sg_gt.2 z; omega
    have e2 : (-1 : Rat) * P = -P := by grind
    rw [e2]
    exact ⟨ge (by omega) (by grind), fun h => by omega⟩
in #guard_msgs in universe u_z
def tot (p : V3) (cs : List Cd) (qs : List Rat) : Rat := wsm 0 cs qs * p.x + wsm 1 cs qs * p.y + wsm 2 cs qs * p.z + wsm 3 cs qs
theorem tot_cons (p : V3) (c : Cd) (cs : List Cd) (q : Rat) (qs : List Rat) : tot p (c :: cs) (q :: qs) = q * ((c.tn : Rat) * pval c.a c.b c.c c.d p) + tot p cs qs := by
  simp only [tot, wsm, Cd.co, pval, Rat.intCast_mul]
  grind
set_option Elab.async true in
theorem ok_sum (p : V3) : ∀ (cs : List Cd) (qs : List Rat), (∀ z : Cd × Rat, z ∈ cs.zip qs → z.1.n ≠ 0 → 0 ≤ z.2) → (∀ c, c ∈ cs → c.ok p) →
    0 ≤ tot p cs qs ∧ ((∃ z : Cd × Rat, z ∈ cs.zip qs ∧ (z.1.n = 1 ∨ z.1.n = -1) ∧ 0 < z.2) → 0 < tot p cs qs)
  | [], qs, _, _ => ⟨by simp only [tot, wsm]; grind, fun ⟨z, hz, _⟩ => by simp at hz⟩
  | c :: cs, [], _, _ => ⟨by simp only [tot, wsm]; grind, fun ⟨z, hz, _⟩ => by simp at hz⟩
  | c :: cs, q :: qs, h, ho => by
    obtain ⟨i1, i2⟩ := ok_sum p cs qs (fun z hz => h z (by simp [hz])) (fun x hx => ho x (by simp [hx]))
    obtain ⟨t1, t2⟩ := ok_term (h (c, q) (by simp)) (ho c (by simp))
    rw [tot_cons]
    refine ⟨by grind, ?_⟩
    rintro ⟨z, hz, hs, hq⟩
    rw [List.zip_cons_cons, List.mem_cons] at hz
    rcases hz with rfl | hz
    · have := t2 hs hq
      grind
    · have := i2 ⟨z, hz, hs, hq⟩
      grind
in #guard_msgs in universe u_z
/-- a refutation leaves no point -/
theorem Rfd.no {cs : List Cd} {qs : List Rat} (r : Rfd cs qs) (p : V3) : ¬ ∀ c, c ∈ cs → c.ok p := fun ho => by
  obtain ⟨i1, i2⟩ := ok_sum p cs qs r.pos ho
  unfold tot at i1 i2
  rw [r.s0, r.s1, r.s2] at i1 i2
  rcases r.s3 with h | ⟨h, hz⟩
  · grind
  · have := i2 hz
    grind
end My
namespace My
open PySem L2
theorem odd_q (t : Int) : ∃ q : Rat, q.num = t * 2 + 1 ∧ (q.den : Int) = 2 := by
  refine ⟨⟨t * 2 + 1, 2, by decide, ?_⟩, rfl, rfl⟩
  unfold Nat.Coprime
  rw [Nat.gcd_comm, Nat.gcd_rec, show (t * 2 + 1).natAbs % 2 = 1 by omega]
  rfl
end My
namespace My
open PySem L2
theorem cut_lo {xs : List V} {n : Nat} (h : n ≤ xs.length) : cutV xs none (some (n : Int)) = xs.take n := by
  unfold cutV
  rw [HT.sIx_none, HT.sIx_nat, List.drop_zero, Nat.sub_zero, Nat.min_eq_left h]
theorem cut_hi {xs : List V} {n : Nat} (h : n ≤ xs.length) : cutV xs (some (n : Int)) none = xs.drop n := by
  unfold cutV
  rw [HT.sIx_none, HT.sIx_nat, Nat.min_eq_left h]
  exact List.take_of_length_le (by simp)
theorem QtL.app {K : PySem.W.Frag} {H : Hp} {a b : List V} {p q : List Rat} (h : QtL K H a p) (h' : QtL K H b q) : QtL K H (a ++ b) (p ++ q) := paired_app h' h
theorem QtL.dropN {K : PySem.W.Frag} {H : Hp} {a : List V} {p : List Rat} (h : QtL K H a p) (n : Nat) : QtL K H (a.drop n) (p.drop n) := paired_drop n h
theorem QtL.takeN {K : PySem.W.Frag} {H : Hp} {a : List V} {p : List Rat} (h : QtL K H a p) (n : Nat) : QtL K H (a.take n) (p.take n) := paired_take n h
end My
namespace My
open PySem L2
section
variable {K : PySem.W.Frag} {H H' : Hp} {v : V}
def Cd.by (f : Int → Int) (c : Cd) : Cd := ⟨c.a, c.b, c.c, c.d, f c.n⟩
/-- conditions whose needs are bent, so that they may be none -/
def CnF (K : PySem.W.Frag) (H : Hp) (f : Int → Int) (acc : List V) (cs : List Cd) : Prop := Paired (fun v c => CnV K H v (Cd.by f c) ∧ c.Good) acc cs
theorem CnF.nil {f : Int → Int} : CnF K H f [] [] := Paired.nil
theorem CnF.tk {f : Int → Int} {acc : List V} {cs : List Cd} (h : CnF K H f acc cs) (e : TK K H H') : CnF K H' f acc cs := paired_map (fun _ _ h => ⟨h.1.tk e, h.2⟩) h
theorem CnF.len {f : Int → Int} {acc : List V} {cs : List Cd} (h : CnF K H f acc cs) : acc.length = cs.length := Paired.length h
theorem CnF.get {f : Int → Int} {acc : List V} {cs : List Cd} (h : CnF K H f acc cs) {i : Nat} {x : V} (e : acc[i]? = some x) : ∃ c, cs[i]? = some c ∧ CnV K H x (Cd.by f c) ∧ c.Good := paired_get h e
theorem CnF.snoc {f : Int → Int} {acc : List V} {cs : List Cd} {c : Cd} (h : CnF K H f acc cs) (r : CnV K H v (Cd.by f c)) (g : c.Good) : CnF K H f (acc ++ [v]) (cs ++ [c]) := paired_snoc ⟨r, g⟩ h
theorem CnF.notS {f : Int → Int} {acc : List V} {cs : List Cd} (h : CnF K H f acc cs) : notS acc = true := by
  have q : ∀ x, x ∈ acc → ∃ t : Addr, x = .ref t := fun x hx => let ⟨_, ⟨t, _, e, _⟩, _⟩ := paired_mem1 h hx; ⟨t, e⟩
  unfold My.notS
  split
  · obtain ⟨t, e⟩ := q _ (List.mem_cons_of_mem _ List.mem_cons_self)
    cases e
  · rfl
end
end My
namespace My
open PySem L2
theorem paired_setX {α β : Type} {R : α → β → Prop} {x : α} {y : β} (r : R x y) : ∀ {xs : List α} {ys : List β} (_ : Paired R xs ys) (j : Nat), Paired R (xs.set j x) (ys.set j y)
  | _, _, .nil, _ => .nil
  | _, _, .cons _ t, 0 => .cons r t
  | _, _, .cons a t, j + 1 => .cons a (paired_setX r t j)
theorem CnA.set {K : PySem.W.Frag} {H : Hp} {acc : List V} {cs : List Cd} {v : V} {c : Cd} {j : Nat} (h : CnA K H acc cs) (r : CnV K H v c) (g : c.Good) : CnA K H (acc.set j v) (cs.set j c) := paired_setX ⟨r, g⟩ h j
end My

set_option Elab.async false
set_option linter.all false
set_option maxRecDepth 100000
/-! values behind a bend with their sizes; repr of any plain value -/
namespace My
open PySem L2 PyProof.Rows
def wx (n : Nat) : Nat := if n ≤ 1 then 3 else 45
def wz (n : Nat) : Nat := if n ≤ 1 then 8 else 60
theorem wx_wz (n : Nat) : wx n + 5 ≤ wz n ∧ 3 ≤ wx n ∧ wz n ≤ 60 ∧ wx n ≤ wx (n + 1) ∧ wz n ≤ wz (n + 1) ∧ wx n ≤ 45 := by
  unfold wx wz
  repeat' split
  all_goals omega
/-- what is bent: small ints in lists and tuples -/
def Px : Nat → PyData → Prop
  | 0, _ => False
  | _ + 1, .int i => B 120 i
  | n + 1, .list ds => ds.length ≤ wx n ∧ ∀ d, d ∈ ds → Px n d
  | n + 1, .tuple ds => ds.length ≤ wx n ∧ ∀ d, d ∈ ds → Px n d
  | _ + 1, _ => False
/-- the same behind a bend -/
def Pz : Nat → PyData → Prop
  | 0, _ => False
  | _ + 1, .none => True
  | _ + 1, .bool _ => True
  | _ + 1, .int i => B 125 i
  | _ + 1, .str x => x.length ≤ 45 ∧ ∀ c ∈ x.cps.toList, c < 16 ^ 8
  | n + 1, .list ds => ds.length ≤ wz n ∧ ∀ d, d ∈ ds → Pz n d
  | n + 1, .tuple ds => ds.length ≤ wz n ∧ ∀ d, d ∈ ds → Pz n d
  | _ + 1, _ => False
theorem Px.succ : ∀ {n : Nat} {d : PyData}, Px n d → Px (n + 1) d
  | 0, _, h => h.elim
  | n + 1, .int _, h => h
  | n + 1, .list _, h => ⟨Nat.le_trans h.1 (wx_wz n).2.2.2.1, fun d q => (h.2 d q).succ⟩
  | n + 1, .tuple _, h => ⟨Nat.le_trans h.1 (wx_wz n).2.2.2.1, fun d q => (h.2 d q).succ⟩
theorem Px.mono {n m : Nat} {d : PyData} (h : Px n d) (e : n ≤ m) : Px m d := by
  induction e with
  | refl => exact h
  | step _ ih => exact ih.succ
theorem Pz.succ : ∀ {n : Nat} {d : PyData}, Pz n d → Pz (n + 1) d
  | 0, _, h => h.elim
  | n + 1, .none, _ => trivial
  | n + 1, .bool _, _ => trivial
  | n + 1, .int _, h => h
  | n + 1, .str _, h => h
  | n + 1, .list _, h => ⟨Nat.le_trans h.1 (wx_wz n).2.2.2.2.1, fun d q => (h.2 d q).succ⟩
  | n + 1, .tuple _, h => ⟨Nat.le_trans h.1 (wx_wz n).2.2.2.2.1, fun d q => (h.2 d q).succ⟩
theorem Pz.mono {n m : Nat} {d : PyData} (h : Pz n d) (e : n ≤ m) : Pz m d := by
  induction e with
  | refl => exact h
  | step _ ih => exact ih.succ
theorem Px.pz : ∀ {n : Nat} {d : PyData}, Px n d → Pz n d
  | 0, _, h => h.elim
  | n + 1, .int _, h => B.le h (by decide)
  | n + 1, .list _, h => ⟨by have := wx_wz n; have := h.1; omega, fun d q => (h.2 d q).pz⟩
  | n + 1, .tuple _, h => ⟨by have := wx_wz n; have := h.1; omega, fun d q => (h.2 d q).pz⟩
theorem Px.pd : ∀ {n : Nat} {d : PyData}, Px n d → Pd n d
  | 0, _, h => h.elim
  | n + 1, .int _, h => B.le h (by decide)
  | n + 1, .list _, h => ⟨by have := wx_wz n; have := h.1; omega, fun d q => (h.2 d q).pd⟩
  | n + 1, .tuple _, h => ⟨by have := wx_wz n; have := h.1; omega, fun d q => (h.2 d q).pd⟩
def Pzn (K : PySem.W.Frag) (N : List Addr) (H : Hp) (n : Nat) (v : V) : Prop := ∃ d, Dn K N H v d ∧ Pz n d
def PzA (K : PySem.W.Frag) (N : List Addr) (H : Hp) (n m : Nat) (vs : List V) : Prop := ∃ ds, DnA K N H vs ds ∧ (∀ d, d ∈ ds → Pz n d) ∧ vs.length ≤ m
section
variable {K : PySem.W.Frag} {N N' : List Addr} {H H' : Hp} {v : V} {vs ws : List V} {n m m' : Nat} {a : Addr}
theorem Pzn.same (e : Same H H') (h : Pzn K N H n v) : Pzn K N H' n v := let ⟨d, x, y⟩ := h; ⟨d, x.same e, y⟩
theorem Pzn.mono (h : Pzn K N H n v) {m : Nat} (e : n ≤ m) : Pzn K N H m v := let ⟨d, x, y⟩ := h; ⟨d, x, y.mono e⟩
theorem Pzn.up (h : Pzn K N H n v) : Pzn K N H (n + 1) v := h.mono (Nat.le_succ n)
theorem Pzn.non : Pzn K N H (n + 1) .non := ⟨_, .non, trivial⟩
theorem Pzn.bl (b : Bool) : Pzn K N H (n + 1) (.bl b) := ⟨_, .bl b, trivial⟩
theorem Pzn.int {i : Int} (h : B 125 i) : Pzn K N H (n + 1) (.int i) := ⟨_, .int i, h⟩
theorem Pzn.str {x : Str} (h : x.length ≤ 45 ∧ ∀ c ∈ x.cps.toList, c < 16 ^ 8) : Pzn K N H (n + 1) (.str x) := ⟨_, .str x, h⟩
theorem Pzn.tup (q : SqT K H a vs) (h : PzA K N H n m vs) (l : m ≤ wz n) : Pzn K N H (n + 1) (.ref a) := let ⟨ds, x, y, z⟩ := h; ⟨_, .tup q x, by rw [← x.len]; omega, y⟩
theorem Pzn.lst (hn : a ∉ N) (q : H a = some (.lst vs)) (h : PzA K N H n m vs) (l : m ≤ wz n) : Pzn K N H (n + 1) (.ref a) := let ⟨ds, x, y, z⟩ := h; ⟨_, .lst hn q x, by rw [← x.len]; omega, y⟩
theorem PzA.nil : PzA K N H n 0 [] := ⟨[], .nil, fun _ q => absurd q (by simp), Nat.le_refl _⟩
theorem PzA.cons (h : Pzn K N H n v) (t : PzA K N H n m vs) : PzA K N H n (m + 1) (v :: vs) := let ⟨d, x, y⟩ := h; let ⟨ds, z, u, l⟩ := t; ⟨d :: ds, .cons x z, fun e q => (List.mem_cons.1 q).elim (fun q => q ▸ y) (u e), Nat.succ_le_succ l⟩
theorem PzA.append (h : PzA K N H n m vs) (t : PzA K N H n m' ws) : PzA K N H n (m + m') (vs ++ ws) := let ⟨ds, x, y, l⟩ := h; let ⟨es, z, u, l'⟩ := t; ⟨ds ++ es, x.append z, fun e q => (List.mem_append.1 q).elim (y e) (u e), by rw [List.length_append]; omega⟩
theorem PzA.snoc (h : PzA K N H n m vs) (t : Pzn K N H n v) : PzA K N H n (m + 1) (vs ++ [v]) := h.append (.cons t .nil)
theorem PzA.cut (h : PzA K N H n m vs) (lo hi : Option Int) : PzA K N H n m (cutV vs lo hi) := let ⟨ds, x, y, l⟩ := h; ⟨_, (x.drop _).take _, fun e q => y e (List.mem_of_mem_drop (List.mem_of_mem_take q)), Nat.le_trans (cutV_length _ _ _) l⟩
theorem cutV_one (vs : List V) : (cutV vs none (some 1)).length ≤ 1 := by
  cases vs with
  | nil => decide
  | cons x xs => simp [cutV, HT.sIx]; try omega
theorem PzA.cut1 (h : PzA K N H n m vs) : PzA K N H n 1 (cutV vs none (some 1)) := let ⟨ds, x, y, _⟩ := h.cut none (some 1); ⟨ds, x, y, cutV_one vs⟩
theorem PzA.rev (h : PzA K N H n m vs) : PzA K N H n m vs.reverse := let ⟨ds, x, y, l⟩ := h; ⟨_, x.rev, fun e q => y e (List.mem_reverse.1 q), by rw [List.length_reverse]; exact l⟩
theorem PzA.same (e : Same H H') (h : PzA K N H n m vs) : PzA K N H' n m vs := let ⟨d, x, y⟩ := h; ⟨d, x.same e, y⟩
theorem PzA.mono (h : PzA K N H n m vs) {n' : Nat} (e : n ≤ n') : PzA K N H n' m vs := let ⟨d, x, y, z⟩ := h; ⟨d, x, fun z q => (y z q).mono e, z⟩
theorem PzA.upd {l : Addr} {xs : List V} {o : HO} (hN : l ∈ N) (hl : H l = some (.lst xs)) (h : PzA K N H n m vs) : PzA K N (L2.upd H l o) n m vs := let ⟨d, x, y⟩ := h; ⟨d, x.upd hN hl, y⟩
theorem PzA.less (hN : ∀ a, a ∈ N' → a ∈ N) (h : PzA K N H n m vs) : PzA K N' H n m vs := let ⟨d, x, y⟩ := h; ⟨d, x.mono hN, y⟩
theorem Pzn.less (hN : ∀ a, a ∈ N' → a ∈ N) (h : Pzn K N H n v) : Pzn K N' H n v := let ⟨d, x, y⟩ := h; ⟨d, x.mono hN, y⟩
end
/-- what repr wants of data -/
structure Rq (d : PyData) : Prop where
  sh : d.showable = true
  dp : d.depth + 2 ≤ 60
  ls : d.shown.length ≤ sizeLine
structure Lz (n m : Nat) (d : PyData) : Prop where
  sh : d.showable = true
  dp : d.depth ≤ n
  ls : d.shown.length ≤ m
structure LzA (n m : Nat) (ds : List PyData) : Prop where
  sh : PyData.showableAll ds = true
  dp : PyData.depthAll ds ≤ n
  ls : ((PyData.shownAll ds).map (·.length)).sum ≤ ds.length * m
set_option Elab.async true in
theorem Lz.all {n m : Nat} : ∀ {ds : List PyData}, (∀ d, d ∈ ds → Lz n m d) → LzA n m ds
  | [], _ => ⟨by simp [PyData.showableAll], by simp [PyData.depthAll], by simp [PyData.shownAll]⟩
  | d :: ds, h => by
    have h1 := h d (by simp)
    have h2 := Lz.all (fun x hx => h x (List.mem_cons_of_mem _ hx))
    refine ⟨by simp [PyData.showableAll, h1.sh, h2.sh], by rw [PyData.depthAll.eq_2]; exact Nat.max_le.mpr ⟨h1.dp, h2.dp⟩, ?_⟩
    rw [PyData.shownAll, List.map_cons, List.sum_cons, List.length_cons, Nat.succ_mul]
    have := h1.ls
    have := h2.ls
    omega
in #guard_msgs in universe u_z
theorem Lz.list {n m l : Nat} {ds : List PyData} (h : ∀ d, d ∈ ds → Lz n m d) (hl : ds.length ≤ l) : Lz (n + 1) (l * (m + 2) + 3) (.list ds) := by
  have a := Lz.all h
  refine ⟨by rw [PyData.showable]; exact a.sh, by rw [PyData.depth]; have := a.dp; omega, ?_⟩
  have h2 := listText_len_le (PyData.shownAll ds)
  have h3 := PyData.shownAll_length ds
  have h4 := Nat.mul_le_mul_right (m + 2) hl
  have h5 := a.ls
  rw [PyData.shown]
  simp only [Nat.mul_add] at h4 ⊢
  omega
theorem Lz.tuple {n m l : Nat} {ds : List PyData} (h : ∀ d, d ∈ ds → Lz n m d) (hl : ds.length ≤ l) : Lz (n + 1) (l * (m + 2) + 3) (.tuple ds) := by
  have a := Lz.all h
  refine ⟨by rw [PyData.showable]; exact a.sh, by rw [PyData.depth]; have := a.dp; omega, ?_⟩
  have h2 := tupleText_len_le (PyData.shownAll ds)
  have h3 := PyData.shownAll_length ds
  have h4 := Nat.mul_le_mul_right (m + 2) hl
  have h5 := a.ls
  rw [PyData.shown]
  simp only [Nat.mul_add] at h4 ⊢
  omega
theorem Lz.le {n m n' m' : Nat} {d : PyData} (h : Lz n m d) (h1 : n ≤ n') (h2 : m ≤ m') : Lz n' m' d := ⟨h.sh, Nat.le_trans h.dp h1, Nat.le_trans h.ls h2⟩
set_option Elab.async true in
theorem Lz.int {k : Nat} {i : Int} (h : B k i) (hk : k < 1900) : Lz 0 (k + 2) (.int i) := by
  have hl : i.natAbs.log2 < k + 1 := PySem.Flt.log2_lt_of (k := k + 1) (by omega) (Nat.lt_of_lt_of_le h.lt (Nat.pow_le_pow_right (by decide) (by omega)))
  refine ⟨by simp only [PyData.showable, decide_eq_true_eq]; omega, by simp [PyData.depth], ?_⟩
  rw [PyData.shown]
  show (PySem.Str.ofString (toString i)).length ≤ _
  rw [PySem.ofString_length]
  exact PySem.int_text_length_le (k := k + 1) (by omega) hl
in #guard_msgs in universe u_z
theorem Lz.str {x : Str} {k : Nat} (h : x.length ≤ k) (hx : ∀ c ∈ x.cps.toList, c < 16 ^ 8) : Lz 0 (10 * k + 2) (.str x) := by
  refine ⟨by simp [PyData.showable], by simp [PyData.depth], ?_⟩
  rw [PyData.shown]
  have := PySem.StrLaws.reprText_len x hx
  omega
def lz : Nat → Nat
  | 0 => 452
  | 1 => 452
  | n + 2 => wz (n + 1) * (lz (n + 1) + 2) + 452
theorem lz_ge (n : Nat) : 452 ≤ lz n := by
  rcases n with _ | _ | n
  · exact Nat.le_refl _
  · exact Nat.le_refl _
  · exact Nat.le_add_left _ _
theorem Pz.none0 {ds : List PyData} (h : ∀ d, d ∈ ds → Pz 0 d) : ds.length ≤ 0 := by
  cases ds with
  | nil => exact Nat.le_refl _
  | cons d ds => exact (h d (by simp)).elim
set_option Elab.async true in
theorem Pz.lz : ∀ {n : Nat} {d : PyData}, Pz n d → Lz n (My.lz n) d
  | 0, _, h => h.elim
  | n + 1, .none, _ => ⟨by simp [PyData.showable], by simp [PyData.depth], Nat.le_trans (by decide) (lz_ge _)⟩
  | n + 1, .bool b, _ => ⟨by simp [PyData.showable], by simp [PyData.depth], Nat.le_trans (by cases b <;> decide) (lz_ge _)⟩
  | n + 1, .int _, h => (Lz.int (k := 125) h (by decide)).le (Nat.zero_le _) (Nat.le_trans (by decide) (lz_ge _))
  | n + 1, .str _, h => (Lz.str h.1 h.2).le (Nat.zero_le _) (lz_ge _)
  | 1, .list _, h => (Lz.list (n := 0) (m := 452) (fun d q => (h.2 d q).lz) (Pz.none0 h.2)).le (Nat.le_refl _) (by decide)
  | 1, .tuple _, h => (Lz.tuple (n := 0) (m := 452) (fun d q => (h.2 d q).lz) (Pz.none0 h.2)).le (Nat.le_refl _) (by decide)
  | n + 2, .list _, h => (Lz.list (fun d q => (h.2 d q).lz) h.1).le (Nat.le_refl _) (by rw [My.lz]; omega)
  | n + 2, .tuple _, h => (Lz.tuple (fun d q => (h.2 d q).lz) h.1).le (Nat.le_refl _) (by rw [My.lz]; omega)
in #guard_msgs in universe u_z
theorem Lz.rq {n m : Nat} {d : PyData} (h : Lz n m d) (hn : n ≤ 50) (hm : m ≤ sizeLine) : Rq d := ⟨h.sh, by have := h.dp; omega, Nat.le_trans h.ls hm⟩
theorem Pz.rq {d : PyData} (h : Pz 4 d) : Rq d := h.lz.rq (by decide) (by decide)
end My
namespace My
open PySem L2 PyProof.Rows
/-- a value whose repr is told -/
inductive Shw (K : PySem.W.Frag) (N : List Addr) (H : Hp) : V → PyData → Prop
  | dat {v : V} {d : PyData} : Dn K N H v d → Shw K N H v d
  | d0 {a : Addr} : a ∉ N → H a = some (.dK []) → Shw K N H (.ref a) (.dict [])
  | d1 {a : Addr} : a ∉ N → H a = some (.dK [(.inr "a", .int 1)]) → Shw K N H (.ref a) (.dict [(.str "a", .int 1)])
section
variable {K : PySem.W.Frag} {N N' : List Addr} {H H' : Hp} {v : V} {d e : PyData}
theorem Shw.same (s : Same H H') (h : Shw K N H v d) : Shw K N H' v d := by
  cases h with
  | dat h => exact .dat (h.same s)
  | d0 n h => exact .d0 n (s _ _ h)
  | d1 n h => exact .d1 n (s _ _ h)
theorem Shw.fr {st : Addr} (s : Fr st H H') (hs : My.St K H st) (hN : st ∈ N) (h : Shw K N H v d) : Shw K N H' v d := by
  cases h with
  | dat h => exact .dat (h.fr s hs hN)
  | d0 n h => exact .d0 n (s.keep _ _ (fun q => n (q ▸ hN)) h)
  | d1 n h => exact .d1 n (s.keep _ _ (fun q => n (q ▸ hN)) h)
theorem Shw.mono (hN : ∀ a, a ∈ N' → a ∈ N) (h : Shw K N H v d) : Shw K N' H v d := by
  cases h with
  | dat h => exact .dat (h.mono hN)
  | d0 n h => exact .d0 (fun q => n (hN _ q)) h
  | d1 n h => exact .d1 (fun q => n (hN _ q)) h
end
mutual
theorem dp_noDict {K : PySem.W.Frag} {H : Hp} : ∀ {v : V} {d : PyData}, Dp K H v d → d.hasDict = false
  | _, _, .non => by simp only [PyData.hasDict]
  | _, _, .bl _ => by simp only [PyData.hasDict]
  | _, _, .int _ => by simp only [PyData.hasDict]
  | _, _, .str _ => by simp only [PyData.hasDict]
  | _, _, .lst _ a => by simp only [PyData.hasDict]; exact dpa_noDict a
  | _, _, .tup _ a => by simp only [PyData.hasDict]; exact dpa_noDict a
theorem dpa_noDict {K : PySem.W.Frag} {H : Hp} : ∀ {vs : List V} {ds : List PyData}, DpAll K H vs ds → PyData.hasDictAll ds = false
  | _, _, .nil => by simp only [PyData.hasDictAll]
  | _, _, .cons h a => by simp only [PyData.hasDictAll, dp_noDict h, dpa_noDict a, Bool.or_false]
end
section
variable {X : Cx} {pins : List (Addr × Obj)} {σ : L2.St} {H : Hp} {s : Shared} {N : List Addr} {v : V} {u : Value} {d : PyData}
set_option Elab.async true in
theorem Shw.reads (I : Inv X pins σ H s) (h : Shw X.K N H v d) (r : RelV v u) : ∃ as, Reads s.heap u d as ∧ (d.hasDict = true → sysModules ∉ as) := by
  cases h with
  | dat h =>
    obtain ⟨as, q⟩ := Dp.reads I d v u h.dp r
    exact ⟨as, q, PyData.noDict_hsm (dp_noDict h.dp)⟩
  | d0 n h =>
    cases r
    obtain ⟨_, y, vs, kv, o, es, ep, e1, e2, e3, e4, e5, e6⟩ := (show ObjOk X.prog X.w H s.heap _ (.dK []) from I.hok _ _ h)
    cases kv
    have e5' : es.toList = [] := by
      generalize es.toList = l at e5
      cases e5
      rfl
    refine ⟨_, .dict (as := []) (bs := []) e1 e2.1 e3 ?_ ?_, fun _ q => ?_⟩
    · rw [e5']; exact .nil
    · rw [e5']; exact .nil
    · simp only [List.append_nil, List.mem_singleton] at q
      rw [q] at y
      simp at y
  | d1 n h =>
    cases r
    obtain ⟨_, y, vs, kv, o, es, ep, e1, e2, e3, e4, e5, e6⟩ := (show ObjOk X.prog X.w H s.heap _ (.dK [(.inr "a", .int 1)]) from I.hok _ _ h)
    cases kv with
    | cons k1 k2 =>
      cases k2
      rename_i p
      obtain ⟨pk, pv⟩ := p
      obtain ⟨rfl, t2, rfl⟩ := k1
      obtain ⟨e0, hl, hk, hv⟩ : ∃ e0, es.toList = [e0] ∧ (mixKind X.prog X.w).is (.inr "a") e0.key = true ∧ e0.val = .int 1 t2 := by
        generalize es.toList = l at e5
        cases e5 with
        | cons a b c =>
          cases c
          exact ⟨_, rfl, a, b⟩
      obtain ⟨t1, hk1⟩ : ∃ t1, e0.key = .str "a" t1 := by
        rcases keyIs_shape (show keyIs (.inr "a") e0.key = true from hk) with ⟨i, t, z, _⟩ | ⟨x, t, z, e⟩
        · cases z
        · cases z
          exact ⟨t, e⟩
      refine ⟨_, .dict (as := [] ++ []) (bs := [] ++ []) e1 e2.1 e3 ?_ ?_, fun _ q => ?_⟩
      · rw [hl]
        simp only [List.map_cons, List.map_nil, hk1]
        exact .cons (.str _ _) .nil
      · rw [hl]
        simp only [List.map_cons, List.map_nil, hv]
        exact .cons (.int _ _) .nil
      · simp only [List.append_nil, List.mem_singleton] at q
        rw [q] at y
        simp at y
in #guard_msgs in universe u_z
end
section
variable {X : Cx}
/-- repr of any such value -/
def rReprX (K : PySem.W.Frag) : List V → Hp → VK → Prop := fun xs H Q => ∃ (v : V) (d : PyData) (N : List Addr), xs = [v] ∧ Shw K N H v d ∧ Rq d ∧ Q (.str d.shown) H
set_option Elab.async true in
theorem kc_reprX {K : PySem.W.Frag} (hK : X.K = K) (hG : X.A.guards = some []) (hu : X.A.units + 64 < cLine) : CallR X (.builtin "repr") (rReprX K) := by
  subst hK
  intro pins s σ H xs us Q I r h
  obtain ⟨v, d, N, rfl, hd, ⟨hs, hdp, hl⟩, q⟩ := h
  obtain ⟨u1, rfl, r1⟩ : ∃ u1, us = [u1] ∧ RelV v u1 := by
    cases r with
    | cons r1 r2 => cases r2; exact ⟨_, rfl, r1⟩
  obtain ⟨as, rd, hm⟩ := Shw.reads I hd r1
  cases rd with
  | none => exact PySem.P.repr_of_none ⟨.str _, H, I.tok _, ⟨_, by rw [PyData.shown]⟩, q⟩
  | bool b => exact PySem.P.repr_of_bool ⟨.str _, H, I.tok _, ⟨_, by rw [PyData.shown]⟩, q⟩
  | int i t =>
    rw [PyData.showable, decide_eq_true_eq] at hs
    exact PySem.P.repr_of_int hs ⟨.str _, H, I.tok _, ⟨_, by rw [PyData.shown]⟩, q⟩
  | str x t =>
    rw [PyData.shown] at hl
    exact PySem.P.repr_of_str ⟨.str _, H, I.tok _, ⟨_, by rw [PyData.shown]⟩, q⟩ hl
  | list h1 h2 h3 h4 => exact repr_of_reads' (.list h1 h2 h3 h4) hs hm hG (by omega) (fun _ _ h => h) (fun h' u tk keep => ⟨.str _, H, I.kept keep, ⟨_, rfl⟩, q⟩) hl
  | tuple h1 h2 h3 h4 => exact repr_of_reads' (.tuple h1 h2 h3 h4) hs hm hG (by omega) (fun _ _ h => h) (fun h' u tk keep => ⟨.str _, H, I.kept keep, ⟨_, rfl⟩, q⟩) hl
  | dict h1 h2 h3 h4 h5 => exact repr_of_reads' (.dict h1 h2 h3 h4 h5) hs hm hG (by omega) (fun _ _ h => h) (fun h' u tk keep => ⟨.str _, H, I.kept keep, ⟨_, rfl⟩, q⟩) hl
in #guard_msgs in universe u_z
end
section
variable {K : PySem.W.Frag} {N N' : List Addr} {H H' : Hp} {v : V} {d e : PyData} {Q : VK}
theorem r_reprX (h : Shw K N H v d) (r : Rq d) (q : Q (.str d.shown) H) : rReprX K [v] H Q := ⟨v, d, N, rfl, h, r, q⟩
theorem Rp.rq {n m : Nat} (h : Rp n m d) (hn : n ≤ 50) (hm : m ≤ 8000) : Rq d :=
  ⟨h.sh, by have := h.dp; omega, Nat.le_trans (PyData.shown_le_bulk 1921 (by decide) d h.ls) (Nat.le_trans (Nat.add_le_add_right (Nat.mul_le_mul_left _ (Nat.le_trans h.bk hm)) _) (by decide))⟩
theorem Rq.d0 : Rq (.dict []) := ⟨by decide +kernel, by decide +kernel, by decide +kernel⟩
theorem Rq.d1 : Rq (.dict [(.str "a", .int 1)]) := ⟨by decide +kernel, by decide +kernel, by decide +kernel⟩
/-- the sizes that a list among the values has -/
def DWc (d : PyData) : Prop := ∀ ds : List PyData, d = .list ds → ∃ ws, DW ds ws 8800
/-- a value that is asked -/
structure Ask (K : PySem.W.Frag) (N : List Addr) (H : Hp) (v : V) (d e : PyData) : Prop where
  dx : Dx K N H v d
  dw : DWc d
  sh : Shw K N H v e
  rq : Rq e
theorem Ask.same (s : Same H H') (h : Ask K N H v d e) : Ask K N H' v d e := ⟨h.dx.same s, h.dw, h.sh.same s, h.rq⟩
theorem Ask.fr {st : Addr} (s : Fr st H H') (hs : My.St K H st) (hN : st ∈ N) (h : Ask K N H v d e) : Ask K N H' v d e := ⟨h.dx.fr s hs hN, h.dw, h.sh.fr s hs hN, h.rq⟩
theorem Ask.mono (hN : ∀ a, a ∈ N' → a ∈ N) (h : Ask K N H v d e) : Ask K N' H v d e := ⟨h.dx.mono hN, h.dw, h.sh.mono hN, h.rq⟩
theorem DWc.no (h : ∀ ds, d ≠ .list ds) : DWc d := fun ds e => absurd e (h ds)
theorem Ask.dat (h : Dn K N H v d) (w : DWc d) (r : Rq d) : Ask K N H v d d := ⟨h.dx, w, .dat h, r⟩
/-- asked, whatever it holds -/
def AskE (K : PySem.W.Frag) (N : List Addr) (H : Hp) (v : V) : Prop := ∃ d e, Ask K N H v d e
theorem AskE.same (s : Same H H') (h : AskE K N H v) : AskE K N H' v := let ⟨d, e, h⟩ := h; ⟨d, e, h.same s⟩
theorem AskE.fr {st : Addr} (s : Fr st H H') (hs : My.St K H st) (hN : st ∈ N) (h : AskE K N H v) : AskE K N H' v := let ⟨d, e, h⟩ := h; ⟨d, e, h.fr s hs hN⟩
theorem AskE.mono (hN : ∀ a, a ∈ N' → a ∈ N) (h : AskE K N H v) : AskE K N' H v := let ⟨d, e, h⟩ := h; ⟨d, e, h.mono hN⟩
theorem AskE.d0 {a : Addr} (n : a ∉ N) (h : H a = some (.dK [])) : AskE K N H (.ref a) := ⟨_, _, .dct n (.inl ⟨_, h⟩), .no (fun _ e => nomatch e), .d0 n h, .d0⟩
theorem AskE.d1 {a : Addr} (n : a ∉ N) (h : H a = some (.dK [(.inr "a", .int 1)])) : AskE K N H (.ref a) := ⟨_, _, .dct n (.inl ⟨_, h⟩), .no (fun _ e => nomatch e), .d1 n h, .d1⟩
end
/-- sizes of the ratios in a bent value -/
theorem sum_rep (k n : Nat) : (List.replicate n k).sum = n * k := by simp
set_option Elab.async true in
theorem Pz.dwc {d : PyData} (h : Pz 4 d) : DWc d := by
  rintro ds rfl
  obtain ⟨hl, hp⟩ := h
  have hl : ds.length ≤ 60 := hl
  refine ⟨List.replicate ds.length 125, by simp, by rw [sum_rep]; omega, by simpa using hl, fun i q k h1 h2 => ?_⟩
  have h3 : k = 125 := by
    rw [List.getElem?_replicate] at h2
    split at h2
    · exact (Option.some.inj h2).symm
    · cases h2
  subst h3
  have h4 := hp _ (List.mem_of_getElem? h1)
  unfold qD at h4
  have h5 : ∀ d, d ∈ [PyData.int q.num, .int (q.den : Int)] → Pz 2 d := h4.2
  have h6 : B 125 q.num := h5 (.int q.num) (by simp)
  have h7 : B 125 (q.den : Int) := h5 (.int (q.den : Int)) (by simp)
  exact ⟨h6.le (by decide), h7⟩
in #guard_msgs in universe u_z
section
variable {K : PySem.W.Frag} {N : List Addr} {H : Hp} {v : V}
theorem Pzn.ask (h : Pzn K N H 4 v) : AskE K N H v := let ⟨d, x, y⟩ := h; ⟨d, d, .dat x y.dwc y.rq⟩
end
end My
namespace My
open PySem L2 PyProof.Rows
section
variable {K : PySem.W.Frag} {N : List Addr} {H H' : Hp} {acc : List V} {qs : List Rat} {l : Addr} {n e : Nat}
theorem QtL.dna : ∀ {acc : List V} {qs : List Rat}, QtL K H acc qs → DnA K N H acc (qs.map qD)
  | [], [], _ => .nil
  | v :: vs, q :: qs, .cons h t => by
    obtain ⟨a, rfl, s⟩ := h
    exact .cons (by unfold qD; exact .tup s (.cons (.int _) (.cons (.int _) .nil))) (QtL.dna t)
theorem rp_q {q : Rat} (h : BN n e q) (hn : n ≤ 1800) (he : e ≤ 1800) : Rp 1 2 (qD q) := by
  unfold qD
  refine (Rp.tuple (n := 0) (m := 0) (l := 2) (fun d q => ?_) (by simp)).le (by decide) (by decide)
  simp only [List.mem_cons, List.not_mem_nil, or_false] at q
  rcases q with rfl | rfl
  · exact Rp.int (h.n.le (by omega))
  · exact Rp.int (h.d.le (by omega))
theorem rq_qs {qs : List Rat} (h : ∀ q, q ∈ qs → BN n e q) (hn : n ≤ 1200) (he : e ≤ 1800) (hl : qs.length ≤ 60) : Rq (.list (qs.map qD)) :=
  (Rp.list (n := 1) (m := 2) (l := 60) (fun d q => by
    obtain ⟨x, hx, rfl⟩ := List.mem_map.1 q
    exact rp_q (h x hx) (by omega) he) (by simpa using hl)).rq (by decide) (by decide)
theorem rq_qt {qs : List Rat} (h : ∀ q, q ∈ qs → BN n e q) (hn : n ≤ 1200) (he : e ≤ 1800) (hl : qs.length ≤ 60) : Rq (.tuple (qs.map qD)) :=
  (Rp.tuple (n := 1) (m := 2) (l := 60) (fun d q => by
    obtain ⟨x, hx, rfl⟩ := List.mem_map.1 q
    exact rp_q (h x hx) (by omega) he) (by simpa using hl)).rq (by decide) (by decide)
set_option Elab.async true in
theorem dwc_qs {qs : List Rat} (h : ∀ q, q ∈ qs → BN n e q) (hn : n ≤ 1200) (hl : qs.length ≤ 60) (hs : qs.length * e ≤ 8800) : DWc (.list (qs.map qD)) := by
  intro ds z
  injection z with z
  subst z
  refine ⟨List.replicate qs.length e, by simp, by rw [sum_rep]; exact hs, by simpa using hl, fun i q k h1 h2 => ?_⟩
  have h3 : k = e := by
    rw [List.getElem?_replicate] at h2
    split at h2
    · exact (Option.some.inj h2).symm
    · cases h2
  subst h3
  rw [List.getElem?_map] at h1
  cases h4 : qs[i]? with
  | none => rw [h4] at h1; cases h1
  | some x =>
    rw [h4] at h1
    have h5 : x = q := qD_inj (Option.some.inj h1)
    subst h5
    exact (h _ (List.mem_of_getElem? h4)).le hn (Nat.le_refl _)
in #guard_msgs in universe u_z
theorem QL.ask (hl : l ∉ N) (h : QL K H l qs) (hb : ∀ q, q ∈ qs → BN n e q) (hn : n ≤ 1200) (he : e ≤ 1800) (h6 : qs.length ≤ 60) (hs : qs.length * e ≤ 8800) : Ask K N H (.ref l) (.list (qs.map qD)) (.list (qs.map qD)) :=
  let ⟨_, h1, h2⟩ := h
  .dat (.lst hl h1 h2.dna) (dwc_qs hb hn h6 hs) (rq_qs hb hn he h6)
theorem QtL.askT {a : Addr} (h1 : SqT K H a acc) (h2 : QtL K H acc qs) (hb : ∀ q, q ∈ qs → BN n e q) (hn : n ≤ 1200) (he : e ≤ 1800) (h6 : qs.length ≤ 60) : Ask K N H (.ref a) (.tuple (qs.map qD)) (.tuple (qs.map qD)) :=
  .dat (.tup h1 h2.dna) (.no fun _ z => nomatch z) (rq_qt hb hn he h6)
theorem px_qs {qs : List Rat} (h : ∀ q, q ∈ qs → BN 120 120 q) (hl : qs.length ≤ 45) : Px 3 (.list (qs.map qD)) := by
  refine ⟨by simpa [wx] using hl, fun d hd => ?_⟩
  obtain ⟨x, hx, rfl⟩ := List.mem_map.1 hd
  unfold qD
  refine ⟨by simp [wx], fun d hd => ?_⟩
  simp only [List.mem_cons, List.not_mem_nil, or_false] at hd
  rcases hd with rfl | rfl
  · exact (h x hx).n
  · exact (h x hx).d
/-- many values, each asked -/
def AskA (K : PySem.W.Frag) (N : List Addr) (H : Hp) (xs : List V) : Prop := ∀ x, x ∈ xs → AskE K N H x
theorem AskA.same {xs : List V} (s : Same H H') (h : AskA K N H xs) : AskA K N H' xs := fun x q => (h x q).same s
theorem AskA.fr {st : Addr} {xs : List V} (s : Fr st H H') (hs : My.St K H st) (hN : st ∈ N) (h : AskA K N H xs) : AskA K N H' xs := fun x q => (h x q).fr s hs hN
theorem AskA.nil : AskA K N H [] := fun _ q => absurd q (by simp)
theorem AskA.cons {v : V} {xs : List V} (h : AskE K N H v) (t : AskA K N H xs) : AskA K N H (v :: xs) := fun x q => (List.mem_cons.1 q).elim (fun q => q ▸ h) (t x)
theorem AskA.append {xs ys : List V} (h : AskA K N H xs) (t : AskA K N H ys) : AskA K N H (xs ++ ys) := fun x q => (List.mem_append.1 q).elim (h x) (t x)
end
end My
namespace My
open PySem L2 PyProof.Rows
theorem cps_lt (s : String) : ∀ c ∈ (PySem.Str.ofString s).cps.toList, c < 16 ^ 8 := by
  rw [PySem.Str.ofString_eq_toList]
  intro c hc
  simp only [List.mem_map] at hc
  obtain ⟨x, _, rfl⟩ := hc
  have := x.valid
  have h : x.toNat < 0x110000 := by
    have h2 := x.valid
    unfold UInt32.isValidChar Nat.isValidChar at h2
    show x.val.toNat < _
    omega
  exact Nat.lt_trans h (by decide)
theorem strI_short {i : Int} (h : B 120 i) : (PySem.Str.ofString (toString i)).length ≤ 45 ∧ ∀ c ∈ (PySem.Str.ofString (toString i)).cps.toList, c < 16 ^ 8 := by
  refine ⟨?_, cps_lt _⟩
  rw [PySem.ofString_length]
  exact Nat.le_trans (PySem.int_text_length_le10 (k := 37) (by decide) (Nat.lt_trans h.lt (by decide))) (by decide)
theorem B.half {i : Int} (h : B 120 i) : B 125 ((i.natAbs : Int).fdiv 2) :=
  (B.fdiv (k := 120) (b := 2) (by decide) (B.of_le (y := i) (by simp) h) (by omega)).le (by decide)
section
variable {K : PySem.W.Frag} {N : List Addr} {H : Hp} {n : Nat}
theorem Pzn.strI {i : Int} (h : B 120 i) : Pzn K N H (n + 1) (.str (PySem.Str.ofString (toString i))) := Pzn.str (strI_short h)
end
end My
namespace My
theorem eqv_b (b : Bool) : PySem.PyData.eqv (.bool b) (.bool b) = true := by cases b <;> rfl
theorem eqv_s (x : PySem.Str) : PySem.PyData.eqv (.str x) (.str x) = true := by simp [PySem.PyData.eqv]
end My
namespace My
theorem deq (v : L2.V) : decide (v = v) = true := by simp
end My
namespace My
open PySem L2 PyProof.Rows
section
variable {X : Cx} {K : PySem.W.Frag} {o : Expr} {to : TE} {name : Str} {apos cpos : Pos} {T id : String} {r : V → List V → Hp → VK → Prop}
theorem k_bm0 (h : X.K = K) (pa : PlainAttrs T) (slot : Slot T name id) (hty : typeOf (.builtin id) = pure (.type "method_descriptor")) (hm : MtR X id r) (ho : PE X o to)
    (hbase : attributeBase o name X.env (eval o X.env) = eval o X.env := by rfl) (hline : (apos.endLine == cpos.line) = true := by rfl) : PE X (.Call (.Attribute o name apos) [] [] cpos) (tBM0 K T r to) := h ▸ pe_bm0 pa slot hty hm ho hbase hline
theorem w_bm0 {σ : L2.St} {H : Hp} {Q : VK} (h : to σ H fun x H1 => bmP K T x H1 (r x [] H1 Q)) : tBM0 K T r to σ H Q := h
end
section
variable {K : PySem.W.Frag} {H H' : Hp} {l : Addr} {xs : List V} {y : V} {qs : List Rat} {Q : VK}
theorem r_pop0 (h : H l = some (.lst (xs ++ [y]))) (q : Q y (upd H l (.lst xs))) : rPop (.ref l) [] H Q :=
  ⟨l, xs ++ [y], y, rfl, rfl, h, by simp, by rw [List.dropLast_concat]; exact q⟩
theorem QL.same (e : Same H H') (h : QL K H l qs) : QL K H' l qs := let ⟨acc, a, b⟩ := h; ⟨acc, e _ _ a, b.tk (TK.same e)⟩
theorem QL.fr {st : Addr} (e : Fr st H H') (hs : My.St K H st) (h : QL K H l qs) : QL K H' l qs := let ⟨acc, a, b⟩ := h; ⟨acc, Fr.lstN e hs a b.notS, b.tk (TK.fr e hs)⟩
theorem QL.ne {st : Addr} (hs : My.St K H st) (h : QL K H l qs) : l ≠ st := let ⟨acc, a, b⟩ := h; st_ne hs a b.notS
end
/-- q + 1, written as the law writes it -/
def qup (q : Rat) : Rat := ⟨q.num + q.den, q.den, q.den_nz, by
  have h : Int.gcd q.num (q.den : Int) = 1 := by simpa [Int.gcd] using q.reduced
  have h2 : Int.gcd (q.num + (q.den : Int)) (q.den : Int) = 1 := by rw [Int.gcd_add_self_left]; exact h
  simpa [Int.gcd, Nat.Coprime] using h2⟩
theorem qup_n (q : Rat) : (qup q).num = q.num + q.den := rfl
theorem qup_d (q : Rat) : (qup q).den = q.den := rfl
theorem BN.up {n d : Nat} {q : Rat} (h : BN n d q) : BN (n + d + 1) d (qup q) := ⟨by rw [qup_n]; exact (B.add (h.n.le (show n ≤ n + d by omega)) (h.d.le (show d ≤ n + d by omega))).le (by omega), h.d⟩
theorem qs_set {qs : List Rat} {n e j : Nat} {q : Rat} (h : ∀ q, q ∈ qs → BN n e q) (hq : BN n e q) : ∀ x, x ∈ qs.set j q → BN n e x := by
  intro x hx
  rcases List.mem_or_eq_of_mem_set hx with hx | rfl
  · exact h x hx
  · exact hq
end My
namespace My
open PySem L2 PyProof.Rows
section
variable {K : PySem.W.Frag} {N : List Addr} {H : Hp} {v : V} {d e : PyData} {l : Addr} {xs : List V} {o : HO}
theorem Shw.upd (hN : l ∈ N) (hl : H l = some (.lst xs)) (h : Shw K N H v d) : Shw K N (L2.upd H l o) v d := by
  cases h with
  | dat h => exact .dat (h.upd hN hl)
  | d0 n h => exact .d0 n ((upd_ne (fun e => n (by first | (rw [e]; exact hN) | (rw [← e]; exact hN)))).trans h)
  | d1 n h => exact .d1 n ((upd_ne (fun e => n (by first | (rw [e]; exact hN) | (rw [← e]; exact hN)))).trans h)
theorem Shw.add (hl : H l = none) (h : Shw K N H v d) : Shw K (l :: N) H v d := by
  cases h with
  | dat h => exact .dat (h.add hl)
  | d0 n h => exact .d0 (fun e => (List.mem_cons.1 e).elim (fun e => by rw [e, hl] at h; cases h) n) h
  | d1 n h => exact .d1 (fun e => (List.mem_cons.1 e).elim (fun e => by rw [e, hl] at h; cases h) n) h
theorem Ask.upd (hN : l ∈ N) (hl : H l = some (.lst xs)) (h : Ask K N H v d e) : Ask K N (L2.upd H l o) v d e := ⟨h.dx.upd hN hl (fun _ q => nomatch q) (fun _ _ q => nomatch q), h.dw, h.sh.upd hN hl, h.rq⟩
theorem Ask.add (hl : H l = none) (h : Ask K N H v d e) : Ask K (l :: N) H v d e := ⟨h.dx.add hl, h.dw, h.sh.add hl, h.rq⟩
theorem AskE.upd (hN : l ∈ N) (hl : H l = some (.lst xs)) (h : AskE K N H v) : AskE K N (L2.upd H l o) v := let ⟨d, e, h⟩ := h; ⟨d, e, h.upd hN hl⟩
theorem AskE.add (hl : H l = none) (h : AskE K N H v) : AskE K (l :: N) H v := let ⟨d, e, h⟩ := h; ⟨d, e, h.add hl⟩
theorem AskA.upd {ys : List V} (hN : l ∈ N) (hl : H l = some (.lst xs)) (h : AskA K N H ys) : AskA K N (L2.upd H l o) ys := fun x q => (h x q).upd hN hl
theorem AskA.add {ys : List V} (hl : H l = none) (h : AskA K N H ys) : AskA K (l :: N) H ys := fun x q => (h x q).add hl
theorem AskA.mono {N' : List Addr} {ys : List V} (hN : ∀ a, a ∈ N' → a ∈ N) (h : AskA K N H ys) : AskA K N' H ys := fun x q => (h x q).mono hN
theorem AskA.snoc {ys : List V} (h : AskA K N H ys) (r : AskE K N H v) : AskA K N H (ys ++ [v]) := h.append (.cons r .nil)
/-- a list of ratios is asked -/
theorem QL.askE {qs : List Rat} {n m : Nat} (hl : l ∉ N) (h : QL K H l qs) (hb : ∀ q, q ∈ qs → BN n m q) (hn : n ≤ 1200) (he : m ≤ 1800) (h6 : qs.length ≤ 60) (hs : qs.length * m ≤ 8800) : AskE K N H (.ref l) := ⟨_, _, h.ask hl hb hn he h6 hs⟩
theorem AskE.lit (h : Dn K N H v d) (r : Pz 4 d) : AskE K N H v := ⟨d, d, .dat h r.dwc r.rq⟩
end
end My
namespace My
open PySem L2 PyProof.Rows
set_option Elab.async true in
theorem paired_perm {α β : Type} {R : α → β → Prop} {ys xs : List α} (p : ys.Perm xs) : ∀ {qs : List β}, Paired R xs qs → ∃ rs, Paired R ys rs ∧ rs.Perm qs := by
  induction p with
  | nil => intro qs h; exact ⟨qs, h, .refl _⟩
  | cons x p ih =>
    intro qs h
    cases h with
    | cons a t =>
      obtain ⟨rs, h1, h2⟩ := ih t
      exact ⟨_ :: rs, .cons a h1, h2.cons _⟩
  | swap x y l =>
    intro qs h
    cases h with
    | cons a t =>
      cases t with
      | cons b t => exact ⟨_ :: _ :: _, .cons b (.cons a t), .swap _ _ _⟩
  | trans p1 p2 ih1 ih2 =>
    intro qs h
    obtain ⟨rs, h1, h2⟩ := ih2 h
    obtain ⟨ts, h3, h4⟩ := ih1 h1
    exact ⟨ts, h3, h4.trans h2⟩
in #guard_msgs in universe u_z
theorem QtL.perm {K : PySem.W.Frag} {H : Hp} {ys xs : List V} {qs : List Rat} (p : ys.Perm xs) (h : QtL K H xs qs) : ∃ rs, QtL K H ys rs ∧ rs.Perm qs := paired_perm p h
theorem AskA.perm {K : PySem.W.Frag} {N : List Addr} {H : Hp} {ys xs : List V} (p : ys.Perm xs) (h : AskA K N H xs) : AskA K N H ys := fun x q => h x (p.mem_iff.1 q)
end My
namespace My
open PySem L2 PyProof.Rows
structure Cd.Sm (x : Cd) : Prop where
  a : B 100 x.a
  b : B 100 x.b
  c : B 100 x.c
  d : B 100 x.d
/-- conditions with multipliers, each pair in a tuple -/
def PtA (K : PySem.W.Frag) (H : Hp) (acc : List V) (ps : List (Cd × Int)) : Prop := Paired (fun v x => ∃ (t : Addr) (cv : V), v = .ref t ∧ SqT K H t [cv, .int x.2] ∧ CnV K H cv x.1 ∧ x.1.Good) acc ps
section
variable {K : PySem.W.Frag} {H H' : Hp} {acc : List V} {ps : List (Cd × Int)} {v : V} {x : Cd × Int}
theorem PtA.tk (e : TK K H H') (h : PtA K H acc ps) : PtA K H' acc ps := Paired.mapP h fun _ _ ⟨t, cv, e1, h1, h2, g⟩ => ⟨t, cv, e1, e _ _ h1, h2.tk e, g⟩
theorem PtA.nil : PtA K H [] [] := Paired.nil
theorem PtA.len (h : PtA K H acc ps) : acc.length = ps.length := Paired.length h
theorem PtA.one {t : Addr} {cv : V} (h1 : SqT K H t [cv, .int x.2]) (h2 : CnV K H cv x.1) (g : x.1.Good) : PtA K H [.ref t] [x] := Paired.cons ⟨t, cv, rfl, h1, h2, g⟩ Paired.nil
theorem PtA.app {bcc : List V} {qs : List (Cd × Int)} (h : PtA K H acc ps) (h' : PtA K H bcc qs) : PtA K H (acc ++ bcc) (ps ++ qs) := paired_app h' h
theorem PtA.dropN (h : PtA K H acc ps) (n : Nat) : PtA K H (acc.drop n) (ps.drop n) := paired_drop n h
theorem PtA.takeN (h : PtA K H acc ps) (n : Nat) : PtA K H (acc.take n) (ps.take n) := paired_take n h
theorem PtA.get {i : Nat} (h : PtA K H acc ps) (e : acc[i]? = some v) : ∃ (x : Cd × Int) (t : Addr) (cv : V), ps[i]? = some x ∧ v = .ref t ∧ SqT K H t [cv, .int x.2] ∧ CnV K H cv x.1 ∧ x.1.Good := by
  induction h generalizing i with
  | nil => simp at e
  | cons a t ih =>
    obtain ⟨t, cv, h⟩ := a
    cases i with
    | zero => cases e; exact ⟨_, t, cv, rfl, h⟩
    | succ i => exact ih e
end
theorem B.gcd {k : Nat} {a b : Int} (ha : B k a) (hb : B k b) : B k ((Nat.gcd a.natAbs b.natAbs : Nat) : Int) := by
  by_cases h : a.natAbs = 0
  · rw [h, Nat.gcd_zero_left]
    exact B.of_le (y := b) (by simp) hb
  · exact B.of_le (y := a) (by simpa using Nat.gcd_le_left _ (by omega)) ha
end My
namespace My
open PySem L2 PyProof.Rows
theorem r_insU {H : Hp} {l : Addr} {xs : List V} {i : Int} {y : V} {Q : VK} (h : H l = some (.lst xs)) (hz : xs.length < 100000) (h0 : 0 ≤ i ∧ i ≤ 1000) (q : Q .non (upd H l (.lst (xs.take i.toNat ++ [y] ++ xs.drop i.toNat)))) : rInsert (.ref l) [.int i, y] H Q :=
  ⟨l, xs, i, y, rfl, rfl, h, Nat.lt_of_lt_of_le hz (by decide), h0.1, by omega, q⟩
end My
namespace My
open PySem L2 PyProof.Rows
theorem AskA.cut {K : PySem.W.Frag} {N : List Addr} {H : Hp} {xs : List V} (h : AskA K N H xs) (lo hi : Option Int) : AskA K N H (cutV xs lo hi) := fun x q => h x (List.mem_of_mem_drop (List.mem_of_mem_take q))
theorem mem_cut {xs : List V} {x : V} {lo hi : Option Int} (q : x ∈ cutV xs lo hi) : x ∈ xs := List.mem_of_mem_drop (List.mem_of_mem_take q)
end My

set_option Elab.async false
set_option linter.all false
set_option maxRecDepth 100000
set_option maxHeartbeats 2000000
/-! sorted(xs, key=lambda x: f(x, y)): the lambda made, called, the sort -/
namespace My
open PySem L2 PyProof.Rows LamX NdefX
/-! a lambda with parameters and captured cells, called -/
section
variable {CX : CXT} {P : Program} {w : World} {K : PySem.W.Frag} {mg : Str → Option Value} {base : Heap} {N ps fr : List Str} {F : NF} {f : Addr} {k : Nat} {body : Expr}
set_option Elab.async true in
theorem lam_run (S : NScope N ps fr F.scope) (hb : ∀ (pm ctv : Value) (us : List Value), us.length = ps.length → bindArgs (PySem.W.kla_fn "<lambda>" F.qual F.params body F.scope F.cl pm (.ref F.c) ctv) ⟨us, []⟩ = pure (ps.zip us))
    {A : Around} {outer : List Env} {s : Shared} {H : Hp} {us : List Value} {vs : List V} {ws : List (Option V)} {Q : VK} {E : XK} {pm ctv : Value} (hr : Room (k + 1) A) (e0 : Env0 P w K mg base A outer s H)
    (ho : s.heap.get? f = some (PySem.W.kla_obj "<lambda>" F.qual F.params body F.scope F.cl pm F.c ctv)) (hc : H F.c = some (CodeO F.c F.qual)) (C : CellsAt F.cl fr ws s.heap H) (r : Vals vs us) (hl : vs.length = ps.length)
    (hbody : Room k (A.deeper (envF F f s.heap.objs.size)) → ∃ t, PE (ncx CX P w K mg base N F f A outer s H E) body t ∧ t (startF N vs ws) H Q) :
    codeAny (model P w) A (.call (.ref f) ⟨us, []⟩) (CR CX outer P w H s Q E) s := by
  have lim : s.heap.NoLimit := e0.mod.nolimit.keeps fun b o e => (e0.bs b o e).1
  refine PySem.W.kla_callFunE hr.depth ho rfl S.co S.gen rfl (codeO_at e0.hok hc) ?_
  rw [hb pm ctv us (by rw [← r.length]; exact hl)]
  refine wpAny_pure (wpAny_newFunctionEnv S.nocell (fun ⟨n, _⟩ hy => S.par n (List.of_mem_zip hy).1) (fun h₁ hns hsb => ⟨lim.fresh _ hsb, ?_⟩) S.kind)
  show codeAny _ _ (.expr body (envF F f s.heap.objs.size)) _ _
  have kp : ∀ b o, s.heap.get? b = some o → h₁.get? b = some o := fun b o e => hsb.extBut b o (Nat.ne_of_lt (Heap.lt_size e)) (Heap.get?_push_of_some _ e)
  obtain ⟨t, ht, hq⟩ := hbody (hr.deeper _)
  have I : Inv (ncx CX P w K mg base N F f A outer s H E) [] (startF N vs ws) H { s with heap := h₁, toks := s.toks + (ps.zip us).length } := inv_startN S hr.hd e0 hl r C hns kp
  refine PySem.W.kla_codeExpr (wpAny_mono (ht.run [] _ (startF N vs ws) H Q I hq) (fun v s' hs => ?_) fun e s' hs => hs)
  obtain ⟨w', H', J, rv, q⟩ := hs
  exact ⟨w', H', J.os, J.bare, J.base, J.hok, rv, q⟩
in #guard_msgs in universe u_z
end
/-! an address that the running def alone knows -/
section
variable {X : Cx} {pins : List (Addr × Obj)} {σ : L2.St} {H Hj : Hp} {s s' : Shared} {a b : Addr}
theorem frs_fresh (I : Inv X pins σ H s) (h : s.heap.objs.size ≤ a) : a ∉ frs X.stack := fun z => by
  rcases List.mem_cons.mp (I.stkSub _ z) with e | e
  · have h1 := I.lt
    rw [← e] at h1
    exact Nat.lt_irrefl _ (Nat.lt_of_lt_of_le h1 h)
  · exact I.nofs h e
structure Mine (X : Cx) (pins : List (Addr × Obj)) (a : Addr) : Prop where
  l : a ≠ X.env.locals
  z : X.s_0.heap.objs.size ≤ a
  c : ∀ x c, X.env.cells.lookup x = some c → c ≠ a
  p : ∀ q ∈ X.pn ++ pins, q.1 ≠ a
  f : a ∉ frs X.stack
set_option Elab.async true in
theorem Mine.new (I : Inv X pins σ H s) (h : s.heap.objs.size ≤ a) : Mine X pins a := by
  refine ⟨fun e => ?_, Nat.le_trans I.sz h, fun x c e z => ?_, fun q hq e => ?_, frs_fresh I h⟩
  · have q := I.lt
    rw [← e] at q
    exact Nat.lt_irrefl _ (Nat.lt_of_lt_of_le q h)
  · obtain ⟨v, o, ho, _⟩ := I.cell x c e
    have q := Heap.lt_size ho
    rw [z] at q
    exact Nat.lt_irrefl _ (Nat.lt_of_lt_of_le q h)
  · have q' := Heap.lt_size (I.pin q hq).1
    rw [e] at q'
    exact Nat.lt_irrefl _ (Nat.lt_of_lt_of_le q' h)
in #guard_msgs in universe u_z
theorem Mine.turned {h' : Heap} {t' : Nat} (M : Mine X pins a) (I : Inv X pins σ H s) (n : H a = none) (k : ∀ b o, b ≠ a → s.heap.get? b = some o → h'.get? b = some o) : Inv X pins σ H { s with heap := h', toks := t' } :=
  I.turned k n M.l (.inr M.z) M.c M.p
set_option Elab.async true in
/-- two such turn, the one is tracked from now on -/
theorem Mine.two {h' : Heap} {t' : Nat} {o : HO} (M : Mine X pins a) (M2 : Mine X pins b) (I : Inv X pins σ H s) (n : H a = none) (n2 : H b = none) (k : ∀ c o, c ≠ a → c ≠ b → s.heap.get? c = some o → h'.get? c = some o)
    (new : ObjOk X.prog X.w (upd H a o) h' a o) : Inv X pins σ (upd H a o) { s with heap := h', toks := t' } := by
  have na : ∀ c u, H c = some u → c ≠ a := fun c u e z => by rw [z, n] at e; cases e
  have nb : ∀ c u, H c = some u → c ≠ b := fun c u e z => by rw [z, n2] at e; cases e
  refine I.step (g' := s.gens) (d' := s.drawn) (ch := [a, b]) (fun c hc => ?_) (fun c o _ _ hc e _ => k c o (fun z => hc (by simp [z])) (fun z => hc (by simp [z])) e) (fun c o _ _ hc e _ => ⟨o.slots, k c o (fun z => hc (by simp [z])) (fun z => hc (by simp [z])) e⟩)
    (fun c o hc e q => by rw [upd_ne (fun z => hc (by simp [z]))]; exact q) (fun c o hc e => ⟨o, k c o (fun z => hc (by simp [z])) (fun z => hc (by simp [z])) e⟩) (fun c xs e => by rw [upd_ne (na c _ e)]; exact e) (fun c o u e => by rw [upd_ne (na c _ e)]; exact e)
    (fun c ps e => ⟨#[], by rw [upd_ne (na c _ e), e]; simp⟩) (fun m hm => ?_) (fun c u e => ?_) I.bare
  · have hc : c = a ∨ c = b := by simpa using hc
    rcases hc with rfl | rfl
    · exact ⟨.inr M.z, M.l, M.c, M.p⟩
    · exact ⟨.inr M2.z, M2.l, M2.c, M2.p⟩
  · obtain ⟨o, es, ep, ho, r⟩ := hm
    exact ⟨o, es, ep, k _ o (Ne.symm M.l) (Ne.symm M2.l) ho, r⟩
  · by_cases hc : c = a
    · subst hc
      rw [upd_same] at e
      cases e
      exact new
    · rw [upd_ne hc] at e
      refine (I.hok c u e).stay (fun d v hd q => k d v ?_ ?_ q) (fun d q => by rw [upd_ne (na d _ q)]; exact q) fun d xs q => by rw [upd_ne (na d _ q)]; exact q
      · rcases hd with z | z
        · rw [z]; exact hc
        · exact na d _ z
      · rcases hd with z | z
        · rw [z]; exact nb c u e
        · exact nb d _ z
in #guard_msgs in universe u_z
end
end My
namespace My
open PySem L2 PyProof.Rows LamX NdefX
section
variable {X : Cx} {pins : List (Addr × Obj)} {σ : L2.St} {H : Hp} {A' : Around}
/-- what stays while the keys are made -/
structure Gs (X : Cx) (pins : List (Addr × Obj)) (σ : L2.St) (H : Hp) (f : Addr) (lo : Obj) (Hj : Hp) (s' : Shared) : Prop where
  I : Inv X pins σ Hj s'
  e : Same H Hj
  o : s'.heap.get? f = some lo
  n : Hj f = none
/-- a call of the key's function at one item -/
def Turn (X : Cx) (pins : List (Addr × Obj)) (σ : L2.St) (A' : Around) (H : Hp) (f : Addr) (lo : Obj) (v : Value) (k : Int) : Prop :=
  ∀ (Hj : Hp) (s' : Shared), Gs X pins σ H f lo Hj s' → wpAny (model X.prog X.w) A' (call (.ref f) [v]) (fun u s'' => ∃ t Hj', u = .int k t ∧ Gs X pins σ H f lo Hj' s'' ∧ Un (frs X.stack) [] Hj Hj' s'.heap s''.heap) (fun _ _ => False) s'
theorem ints_each {h : Heap} : ∀ {vs : List Value} {ns : List Int}, IntsAre vs ns → PySem.W.EachIs (fun v k => ∃ as, Reads h v k as) vs (ns.map PyData.int)
  | _, _, .nil => .nil
  | _, _, .cons n t h => .cons ⟨_, .int n t⟩ (ints_each h)
theorem alike_ks (ks : List Int) : PySem.W.AllAlike (ks.map PyData.int) := PySem.W.AllAlike.of fun _ _ => by simp [PySem.W.alike]
theorem sortable_ks (ks : List Int) : PySem.W.Sortable (ks.map PyData.int) := PySem.W.Sortable.others fun _ => ⟨by simp, by simp⟩
set_option Elab.async true in
theorem srt_rest {a kS f : Addr} {vs : List Value} {ks : List Int} {s : Shared} {e1 : Nat} {lo : Obj} {H0 : Hp} {E : Value → Shared → Prop} {P : PySem.Fin → Shared → Prop} (Ma : Mine X pins a) (Mk : Mine X pins kS) (hka : kS ≠ a) (hfk : f ≠ kS)
    (G0 : Gs X pins σ H f lo H0 s) (na : H0 a = none) (nk : H0 kS = none) (hk0 : s.heap.get? kS = some (seqObj "list" #[] 0)) (ha0 : s.heap.get? a = some (seqObj "list" #[] e1)) (hlen : ks.length = vs.length) (hZ : vs.length ≤ sizeLine) (hu : A'.units + 1 < cLine)
    (turn : ∀ (i : Nat) (v : Value) (k : Int), vs[i]? = some v → ks[i]? = some k → Turn X pins σ A' H f lo v k)
    (h : ∀ (Hj : Hp) (s' : Shared) (out : List Value) (h3 : Heap) (tk c : Nat), Gs X pins σ H f lo Hj s' → Hj a = none → Hj kS = none → (∀ b o, b ≠ a → b ≠ kS → s'.heap.get? b = some o → h3.get? b = some o) → h3.get? a = some (seqObj "list" out.toArray c) →
      PySem.W.KeyedOut false (ks.map PyData.int) vs out → P (.done (.ret .none)) { s' with heap := h3, toks := tk }) :
    wpAny (model X.prog X.w) A' (ksk_rest a (.ref f) false vs.toArray e1 (.ref kS)) P E s := by
  unfold ksk_rest
  refine wpAny_bind (wpAny_rule ?_)
  first
    | rw [List.forIn_toArray]
    | skip
  refine wpAny_bind (ksk_fold (fun i s' => ∃ Hj kA e, Gs X pins σ H f lo Hj s' ∧ Hj a = none ∧ Hj kS = none ∧ s'.heap.get? kS = some (seqObj "list" kA e) ∧ s'.heap.get? a = some (seqObj "list" #[] e1) ∧ IntsAre kA.toList (ks.take i)) vs 0 s
    ⟨H0, #[], 0, G0, na, nk, hk0, ha0, by rw [List.take_zero]; exact IntsAre.nil⟩ ?step ?done)
  case step =>
    rintro j x s' hx ⟨Hj, kA, e, G, na', nk', hk', ha', hi⟩
    simp only [Nat.zero_add] at hi ⊢
    have hj : j < vs.length := (List.getElem?_eq_some_iff.mp hx).1
    obtain ⟨k, hkj⟩ : ∃ k, ks[j]? = some k := ⟨_, List.getElem?_eq_getElem (by omega)⟩
    have hz : kA.size ≤ vs.length := by
      have h1 := hi.length
      rw [Array.length_toList, List.length_take] at h1
      omega
    refine wpAny_bind (wpAny_attempt (wpAny_mono (turn j x k hx hkj Hj s' G) (fun v s'' he => ?_) fun _ _ hF => hF.elim))
    obtain ⟨t, Hj', rfl, G', U⟩ := he
    try dsimp only
    have hk2 : s''.heap.get? kS = some (seqObj "list" kA e) := U.keep kS _ hk' nk' Mk.f (by simp)
    have ha2 := U.keep a _ ha' na' Ma.f (by simp)
    have nk2 : Hj' kS = none := U.free kS _ hk' nk' (by simp)
    have na2 : Hj' a = none := U.free a _ ha' na' (by simp)
    have s1 := Heap.SameBut.update s''.heap kS (Obj.mapSeq (·.push (Value.int k t)))
    obtain ⟨c2, hc2⟩ : ∃ c2, (s''.heap.update kS (Obj.mapSeq (·.push (Value.int k t)))).get? kS = some (seqObj "list" (kA.push (Value.int k t)) c2) := ⟨_, get?_update_seq hk2 (·.push (Value.int k t))⟩
    have ek : ks.take (j + 1) = ks.take j ++ [k] := by rw [List.take_add_one, hkj]; simp
    have ea : (kA.push (Value.int k t)).toList = kA.toList ++ [Value.int k t] := by simp
    refine wpAny_bind (listUpdate_at hk2 rfl ?_ (Nat.le_trans hz hZ) (Nat.le_trans (Nat.le_of_eq (Array.size_push ..)) (Nat.succ_le_succ (Nat.le_trans hz hZ))))
    refine wpAny_pure ⟨rfl, Hj', _, c2, ⟨Mk.turned G'.I nk2 (fun b o hb e => (s1.2 b hb).trans e), G'.e, (s1.2 f hfk).trans G'.o, G'.n⟩, na2, nk2, hc2, (s1.2 a hka.symm).trans ha2, ?_⟩
    rw [ea, ek]
    exact ksk_snoc hi
  case done =>
    rintro s' ⟨Hj, kA, e, G, na', nk', hk', ha', hi⟩
    have e3 : ks.take (0 + vs.length) = ks := List.take_of_length_le (by omega)
    rw [e3] at hi
    have hsz : kA.size = vs.length := by
      have h1 := hi.length
      rw [Array.length_toList] at h1
      omega
    try dsimp only
    refine wpAny_bind (listItems_at hk' rfl ?_)
    refine PySem.W.keyH_end (κ := PySem.W.dataKind s'.heap (ks.map PyData.int)) (h₁ := hidT s'.heap (fun b => if b = kS then some (.lst []) else none)) (fun b o _ e => (of_hidT e).1) ?_ hk' ha' hka (PySem.W.SortsAt.data (ints_each hi) (alike_ks ks) (sortable_ks ks) (fun d hd => ?_)) hsz hZ (fun h3 tk3 c k3 n3 => ?_)
    · cases q : (hidT s'.heap (fun b => if b = kS then some (.lst []) else none)).get? kS with
      | none => rfl
      | some o =>
        have := (of_hidT q).2
        simp at this
    · obtain ⟨n, _, rfl⟩ := List.mem_map.1 hd
      have : (PyData.int n).depth = 0 := by simp [PyData.depth]
      omega
    · exact h Hj s' _ h3 tk3 c G na' nk' (fun b o hb hk e => k3 b o hb (hidT_get e (by simp [hk]))) n3 ⟨s'.heap, kA.toList, alike_ks ks, rfl, ints_each hi⟩
in #guard_msgs in universe u_z
end
end My
namespace My
open PySem L2 PyProof.Rows LamX NdefX
section
variable {X : Cx} {pins : List (Addr × Obj)} {σ : L2.St} {H : Hp} {A' : Around}
set_option Elab.async true in
theorem srt_tree {a f : Addr} {vs : List Value} {ks : List Int} {s : Shared} {n0 : Nat} {lo : Obj} {H0 : Hp} {E : Value → Shared → Prop} {P : PySem.Fin → Shared → Prop} (Ma : Mine X pins a) (hfa : f ≠ a)
    (G0 : Gs X pins σ H f lo H0 s) (na : H0 a = none) (ho : s.heap.get? a = some (seqObj "list" vs.toArray n0)) (hlen : ks.length = vs.length) (hZ : vs.length ≤ sizeLine) (hu : A'.units + 1 < cLine)
    (turn : ∀ (i : Nat) (v : Value) (k : Int), vs[i]? = some v → ks[i]? = some k → Turn X pins σ A' H f lo v k)
    (h : ∀ (Hj : Hp) (s' : Shared) (out : List Value) (h3 : Heap) (tk c kS : Nat), Gs X pins σ H f lo Hj s' → Hj a = none → Hj kS = none → Mine X pins kS → (∀ b o, b ≠ a → b ≠ kS → s'.heap.get? b = some o → h3.get? b = some o) → h3.get? a = some (seqObj "list" out.toArray c) →
      PySem.W.KeyedOut false (ks.map PyData.int) vs out → P (.done (.ret .none)) { s' with heap := h3, toks := tk }) :
    wpAny (model X.prog X.w) A' (ksk_tree a (.ref f) false) P E s := by
  have ha : a < s.heap.objs.size := Heap.lt_size ho
  obtain ⟨e1, ho1⟩ : ∃ e1, (s.heap.update a (Obj.mapSeq fun _ => (#[] : Array Value))).get? a = some (seqObj "list" #[] e1) := ⟨_, get?_update_seq ho fun _ => #[]⟩
  have hkS : ((s.heap.update a (Obj.mapSeq fun _ => (#[] : Array Value))).push (seqObj "tuple" vs.toArray 0)).objs.size = s.heap.objs.size + 1 := by rw [size_push', Heap.size_update]
  unfold ksk_tree
  refine wpAny_bind (listItems_at ho rfl ?_)
  refine wpAny_bind (listUpdate_at ho rfl ?_ (by rw [List.size_toArray]; exact hZ) (Nat.zero_le _))
  refine wpAny_bind (seqEpoch_at ho1 rfl ?_)
  refine wpAny_bind (wpAny_newTuple ?_ (by show vs.length ≤ _; exact hZ))
  refine wpAny_bind (wpAny_newList ?_ (Nat.zero_le _))
  refine wpAny_holding ?_
  have s1 := Heap.SameBut.update s.heap a (Obj.mapSeq fun _ => (#[] : Array Value))
  have kp : ∀ b o, b ≠ a → s.heap.get? b = some o → (((s.heap.update a (Obj.mapSeq fun _ => (#[] : Array Value))).push (seqObj "tuple" vs.toArray 0)).push (seqObj "list" #[] 0)).get? b = some o := fun b o hb q =>
    Heap.get?_push_of_some _ (Heap.get?_push_of_some _ ((s1.2 b hb).trans q))
  have Mk : Mine X pins ((s.heap.update a (Obj.mapSeq fun _ => (#[] : Array Value))).push (seqObj "tuple" vs.toArray 0)).objs.size := Mine.new G0.I (by rw [hkS]; exact Nat.le_succ _)
  have fk : f ≠ ((s.heap.update a (Obj.mapSeq fun _ => (#[] : Array Value))).push (seqObj "tuple" vs.toArray 0)).objs.size := fun z => by
    have q := Heap.lt_size G0.o
    rw [z, hkS] at q
    exact Nat.lt_irrefl _ (Nat.lt_of_lt_of_le (Nat.lt_succ_self _) (Nat.le_of_lt q))
  refine srt_rest (s := { s with heap := ((s.heap.update a (Obj.mapSeq fun _ => (#[] : Array Value))).push (seqObj "tuple" vs.toArray 0)).push (seqObj "list" #[] 0) }) Ma Mk (by rw [hkS]; exact Nat.ne_of_gt (Nat.lt_succ_of_lt ha)) fk
    ⟨Ma.turned G0.I na kp, G0.e, kp _ _ hfa G0.o, G0.n⟩ na (G0.I.hok.fresh (by rw [hkS]; exact Nat.le_succ _)) (Heap.get?_push_size _ rfl) (Heap.get?_push_of_some _ (Heap.get?_push_of_some _ ho1)) hlen hZ hu turn (fun Hj s' out h3 tk c G n1 n2 k3 n3 ko => h Hj s' out h3 tk c _ G n1 n2 Mk k3 n3 ko)
in #guard_msgs in universe u_z
theorem each_zip : ∀ {xs : List V} {us : List Value} {ks : List Int}, Vals xs us → ks.length = xs.length → PySem.W.EachIs (fun (u : Value) (p : V × Int) => RelV p.1 u) us (xs.zip ks)
  | _, _, [], .nil, _ => .nil
  | _, _, _ :: _, .nil, h => by simp at h
  | _, _, [], .cons _ _, h => by simp at h
  | _, _, _ :: _, .cons r t, h => .cons r (each_zip t (by simpa using h))
theorem each_vals : ∀ {us : List Value} {ps : List (V × Int)}, PySem.W.EachIs (fun (u : Value) (p : V × Int) => RelV p.1 u) us ps → Vals (ps.map Prod.fst) us
  | _, _, .nil => .nil
  | _, _, .cons r t => .cons r (each_vals t)
set_option Elab.async true in
/-- sorted(xs, key=f): f's calls keep all and give whole numbers -/
theorem srt_sorted {l f : Addr} {xs : List V} {ks : List Int} {s : Shared} {lo : Obj} {Q : VK} (hA : A' = X.A.in1.in1) (I : Inv X pins σ H s) (hl : SqL X.K H l xs) (ho : s.heap.get? f = some lo) (hn : H f = none) (hlen : ks.length = xs.length) (hu : X.A.units + 64 < cLine)
    (turn : ∀ (i : Nat) (x : V) (v : Value) (k : Int), xs[i]? = some x → RelV x v → ks[i]? = some k → Turn X pins σ A' H f lo v k)
    (q : ∀ (Hj : Hp) (p : Addr) (ps : List (V × Int)), Same H Hj → Hj p = none → H p = none → ps.Perm (xs.zip ks) → ps.Pairwise (fun x y => x.2 ≤ y.2) → Q (.ref p) (upd Hj p (.lst (ps.map Prod.fst)))) :
    wpAny (model X.prog X.w) X.A (call (.builtin "sorted") [.ref l] [(Str.ofString "key", .ref f)]) (EP X pins σ Q) X.xe s := by
  subst hA
  obtain ⟨its, rv, hls, hz⟩ := I.list hl
  have hz2 : its.length ≤ sizeLine := by rw [← rv.length]; exact hz
  refine PySem.W.sorted_of_sort hls.isList hz2 (ksk_s1 _ _) (fun _ => ksk_l1 _ _) fun E' => ?_
  rw [ksk_t1]
  have Ma : Mine X pins (s.heap.objs.size + 1) := Mine.new I (Nat.le_succ _)
  have na : H (s.heap.objs.size + 1) = none := I.hok.fresh (Nat.le_succ _)
  have fa : f ≠ s.heap.objs.size + 1 := fun z => by
    have q := Heap.lt_size ho
    rw [z] at q
    exact Nat.lt_irrefl _ (Nat.lt_of_lt_of_le (Nat.lt_succ_self _) (Nat.le_of_lt q))
  refine srt_tree (s := { s with heap := PySem.W.copyHeap s.heap its }) (H0 := H) Ma fa ⟨I.kept (fun b o e => PySem.W.copyHeap_old e), Same.refl _, PySem.W.copyHeap_old ho, hn⟩ na (PySem.W.copyHeap_at s.heap its) (by rw [hlen, rv.length]) hz2 (by show X.A.units + 1 + 1 + 1 < cLine; omega) (fun i v k h1 h2 => ?_) (fun Hj s' out h3 tk c kS G n1 n2 Mk k3 n3 ko => ⟨rfl, ?_⟩)
  · obtain ⟨x, hx, rx⟩ : ∃ x, xs[i]? = some x ∧ RelV x v := by
      have hi : i < xs.length := by rw [rv.length]; exact (List.getElem?_eq_some_iff.mp h1).1
      obtain ⟨u, hu', ru⟩ := rv.get (List.getElem?_eq_getElem hi)
      rw [h1] at hu'
      cases hu'
      exact ⟨_, List.getElem?_eq_getElem hi, ru⟩
    exact turn i x v k hx rx h2
  · have hk : ks.map PyData.int = (xs.zip ks).map (fun p : V × Int => PyData.int p.2) := by
      rw [show (fun p : V × Int => PyData.int p.2) = PyData.int ∘ Prod.snd from rfl, ← List.map_map, List.map_snd_zip (by omega)]
    rw [hk] at ko
    have ep := PySem.W.keyedOut_each (fun p : V × Int => PyData.int p.2) ko (each_zip rv hlen)
    rw [PySem.W.dataLe_int (fun p : V × Int => p.2)] at ep
    have pm := List.mergeSort_perm (xs.zip ks) (fun a b : V × Int => decide (a.2 ≤ b.2))
    have pw := List.pairwise_mergeSort (le := fun a b : V × Int => decide (a.2 ≤ b.2)) (fun a b c h1 h2 => by simp at *; omega) (fun a b => by simp; omega) (xs.zip ks)
    generalize (xs.zip ks).mergeSort (fun a b : V × Int => decide (a.2 ≤ b.2)) = ps at ep pm pw
    have lp : (ps.map Prod.fst).length ≤ sizeLine := by
      rw [List.length_map, pm.length_eq, List.length_zip]
      omega
    exact ⟨.ref _, upd Hj (s.heap.objs.size + 1) (.lst (ps.map Prod.fst)), Ma.two Mk G.I n1 n2 (fun b o h1 h2 e => k3 b o h1 h2 e) ⟨lp, out, c, each_vals ep, n3⟩, rfl, q Hj _ ps G.e n1 na pm (pw.imp fun h => by simpa using h)⟩
in #guard_msgs in universe u_z
end
end My
namespace My
open PySem L2 PyProof.Rows LamX NdefX
/-- sorted(xs, key=lambda x: ..): tb reads the lambda's body -/
def tSrt (T : List (Addr × Str)) (N : List Str) (js : List Nat) (tb : TE) (t : TA) : TE := fun σ H Q => t σ H fun vs H1 => Tabs T H1 ∧ ∃ (l : Addr) (xs : List V) (ks : List Int), vs = [.ref l] ∧ H1 l = some (.lst xs) ∧ ks.length = xs.length ∧
  (∀ (i : Nat) (x : V) (k : Int) (Hj : Hp), xs[i]? = some x → ks[i]? = some k → ExtN H1 Hj → tb (startF N [x] (js.map (slotAt σ))) Hj (fun v H' => v = .int k ∧ Same Hj H')) ∧
  ∀ (H2 : Hp) (p : Addr) (ps : List (V × Int)), ExtN H1 H2 → Tabs T H2 → (∀ b o, H1 b = some o → (∀ qs, o ≠ .tbl qs) → b ≠ p) → H2 p = some (.lst (ps.map Prod.fst)) → ps.Perm (xs.zip ks) → ps.Pairwise (fun x y => x.2 ≤ y.2) → Q (.ref p) H2
section
variable {X : Cx} {T : List (Addr × Str)} {N fr : List Str} {js : List Nat} {tb : TE} {t : TA} {e body : Expr} {params : Arguments} {scope : Scope} {p lpos kpos pos : Pos} {c P : Addr} {x : Str} {k : Nat}
set_option Elab.async true in
theorem pe_srt (hg : Gl X "sorted") (hm : X.mg "sorted" = none) (ha : PA X [e] t) (TB : TabB X.base X.mg c P) (hcode : X.env.code = .ref c) (hmT : (P, X.env.qual ++ "<lambda>") ∈ T) (hu : ∀ p ∈ T, p.1 = P → p.2 = X.env.qual ++ "<lambda>")
    (hdef : defaultsOf params X.env = ([], [])) (hfree : ∀ y ∈ scope.names, y.2 = .free → X.env.scope.names.lookup y.1 = some .cell ∨ X.env.scope.names.lookup y.1 = some .free) (S : NScope N [x] fr scope) (hfr : ∀ y ∈ fr, (y, NameKind.free) ∈ scope.names) (hjs : js.map (fun j => X.N[j]?) = fr.map some)
    (hb : ∀ (q : Str) (cl : List (Str × Addr)) (pm cv ctv : Value) (us : List Value), us.length = 1 → bindArgs (PySem.W.kla_fn "<lambda>" q params body scope cl pm cv ctv) ⟨us, []⟩ = pure ([x].zip us)) (hr : Room (k + 3) X.A)
    (hbody : ∀ (q : Str) (cl : List (Str × Addr)) (f c' : Addr) (A : Around) (outer : List Env) (s : Shared) (H : Hp) (E : XK), Room k (A.deeper (envF ⟨"<lambda>", q, params, [], scope, cl, c'⟩ f s.heap.objs.size)) → PE (ncx C8.CX0 X.prog X.w X.K X.mg X.base N ⟨"<lambda>", q, params, [], scope, cl, c'⟩ f A outer s H E) body tb)
    (hv : bootBuiltins "sorted" = some (.builtin "sorted") := by rfl) (hn : ("sorted" : Str) ≠ "__name__" := by decide) (hdb : (("sorted" : Str) == ("__debug__" : Str)) = false := by decide)
    (he : backTo pos (starEach [e] X.env) = (false, eval e X.env) :: backTo pos (starEach [] X.env) := by rfl) (hpl : (backTo pos (starEach [e] X.env)).any (·.1) = false := by rfl) :
    PE X (.Call (.Name "sorted" p) [e] [⟨some "key", .Lambda params body scope lpos, kpos⟩] pos) (tSrt T N js tb t) := by
  refine ⟨fun pins s σ H Q I h => ?_⟩
  refine wpAny_Call_Name_kw (ld_blt I hg hm hv ?_ hn hdb)
  refine PyProof.Rows.callWith_kw (thn (ha.run pos pins s σ H _ I h) fun us s1 ⟨vs, H1, I1, r1, hT, l, xs, ks, e1, hl, hlen, hturn, hQ⟩ => ?_) he hpl (by rfl) (by rfl)
  subst e1
  have hf2 : ∀ y ∈ scope.names, y.2 = .free → ∃ c, X.env.cells.lookup y.1 = some c := fun y hy e => (hfree y hy e).elim (fun z => I1.ok.has _ (.inl z)) fun z => I1.ok.has _ (.inr z)
  show wpAny _ _ (evalAll ((do let v ← eval (.Lambda params body scope lpos) X.env; standAt pos; pure v) :: [])) _ _ s1
  refine wpAny_evalAll_cons (wpAny_bind (lam_make2 I1 TB hcode hmT hu hT hdef hf2 fun f c' pm ctv H2 s2 I2 eN T2 hf hfn hfrm hco => wpAny_bind (wpAny_standAt (wpAny_pure (wpAny_evalAll_nil ?_)))))
  obtain rfl := Vals.ref1 r1
  show wpAny (model X.prog X.w) X.A (call (.builtin "sorted") [.ref l] [(Str.ofString "key", .ref f)]) (EP X pins σ Q) X.xe s2
  have hl2 : H2 l = some (.lst xs) := eN _ _ hl (fun _ z => nomatch z)
  refine srt_sorted rfl I2 (SqL.of hl2) hf hfn hlen hr.units (fun i y v kk h1 rx h2 Hj s' G => ?_) (fun Hj p ps sm n1 n2 pm pw => ?_)
  · have hj : ExtN H1 Hj := fun b o e n => G.e b o (eN b o e n)
    have C : CellsAt (cloFrom X.env.cells scope.names []) fr (js.map (slotAt σ)) s'.heap Hj := cells_of G.I (Caps.made G.I.ok hfree hfr hjs)
    refine wpAny_call (codeAny_mono (lam_run (CX := C8.CX0) (F := ⟨"<lambda>", X.env.qual ++ "<lambda>", params, [], scope, cloFrom X.env.cells scope.names [], c'⟩) (ws := js.map (slotAt σ)) (Q := fun v H' => v = .int kk ∧ Same Hj H') (E := C8.E0) (k := k) (fr := fr) (N := N) (ps := [x]) (vs := [y]) (us := [v]) (base := X.base) (K := X.K) (mg := X.mg) (outer := X.stack) (pm := pm) (ctv := ctv)
      S (fun pm ctv us h => hb _ _ pm _ ctv us h) hr.in1.in1 G.I.env0.in1.in1 G.o (G.e _ _ hco) C (.cons rx .nil) rfl (fun hr2 => ⟨tb, hbody _ _ f _ _ _ _ _ _ hr2, hturn i y kk Hj h1 h2 hj⟩)) fun r s'' hq => ?_)
    cases r with
    | error e => exact hq
    | ok fl =>
      cases fl with
      | ret u =>
        obtain ⟨v', H', os, bare, un, hok, rv, q1, q2⟩ := hq
        subst q1
        obtain ⟨t, rfl⟩ := rv
        exact ⟨t, H', rfl, ⟨G.I.call' os un hok bare (fun b z => absurd z (by simp)), G.e.trans q2, un.keep f _ G.o G.n hfrm (by simp), un.free f _ G.o G.n (by simp)⟩, un⟩
      | next => exact False.elim hq
      | brk => exact False.elim hq
      | cont => exact False.elim hq
  · have up : ∀ b o, H2 b = some o → upd Hj p (.lst (ps.map Prod.fst)) b = some o := fun b o e => by
      rw [upd_ne (fun z => by rw [z, n2] at e; cases e)]
      exact sm b o e
    refine hQ _ p ps (fun b o e n => up b o (eN b o e n)) (T2.ext up) (fun b o e n z => ?_) upd_same pm pw
    rw [← z, eN b o e n] at n2
    cases n2
in #guard_msgs in universe u_z
end
end My
namespace My
open PySem L2 PyProof.Rows
section
variable {X : Cx} {K : PySem.W.Frag}
/-- max(xs, default=d), whole numbers -/
def rMaxDef (K : PySem.W.Frag) : List V → List V → Hp → VK → Prop := fun vs zs H Q => ∃ (a : Addr) (ns : List Int) (d : Int), vs = [.ref a] ∧ zs = [.int d] ∧ SqL K H a (ns.map V.int) ∧ (ns = [] → Q (.int d) H) ∧ ∀ m, m ∈ ns → (∀ y, y ∈ ns → y ≤ m) → Q (.int m) H
theorem dpa_ints {H : Hp} : ∀ ns : List Int, DpAll K H (ns.map V.int) (ns.map PyData.int)
  | [] => .nil
  | n :: ns => .cons (.int n) (dpa_ints ns)
set_option Elab.async true in
theorem foldl_max : ∀ (ns : List Int) (n : Int), (ns.foldl max n = n ∨ ns.foldl max n ∈ ns) ∧ n ≤ ns.foldl max n ∧ ∀ y, y ∈ ns → y ≤ ns.foldl max n
  | [], n => ⟨.inl rfl, Int.le_refl _, fun _ h => by cases h⟩
  | m :: ns, n => by
    obtain ⟨h1, h2, h3⟩ := foldl_max ns (max n m)
    simp only [List.foldl_cons, List.mem_cons]
    refine ⟨?_, by omega, ?_⟩
    · rcases h1 with h1 | h1
      · rw [h1]
        by_cases h : n ≤ m
        · exact .inr (.inl (by omega))
        · exact .inl (by omega)
      · exact .inr (.inr h1)
    · rintro y (rfl | h)
      · omega
      · exact h3 y h
in #guard_msgs in universe u_z
theorem depth_ints : ∀ ns : List Int, PyData.depthAll (ns.map PyData.int) = 0
  | [] => by simp [PyData.depthAll]
  | n :: ns => by rw [List.map_cons, PyData.depthAll.eq_2, depth_ints ns]; simp [PyData.depth]
set_option Elab.async true in
theorem kc_maxdef (hK : X.K = K) (hh : X.A.handled = none) (hu : X.A.units + 64 < cLine) : CallRK X (.builtin "max") [Str.ofString "default"] (rMaxDef K) := by
  subst hK
  intro pins s σ H vs zs us ws Q I r rz h
  obtain ⟨a, ns, d, rfl, rfl, hs, q0, q1⟩ := h
  obtain rfl := Vals.ref1 r
  obtain ⟨w1, rfl, t1, rfl⟩ := vals1 rz
  obtain ⟨its, rv, hls, hz⟩ := I.list hs
  obtain ⟨as, rs⟩ := Dp.readsAll I (ns.map PyData.int) _ its (dpa_ints ns) rv
  refine PySem.W.max_list_default (vs := its.toArray) hh hls.isList rs ⟨fun x hx y hy => ?_, fun x hx => ?_⟩ (by rw [depth_ints]; omega) (fun e h' tk hk => ⟨.int d, H, I.kept hk, ⟨_, rfl⟩, q0 (List.map_eq_nil_iff.1 e)⟩) (fun y ys i v h' tk bs e hi rd hk => ?_)
  · obtain ⟨_, _, rfl⟩ := List.mem_map.1 hx
    obtain ⟨_, _, rfl⟩ := List.mem_map.1 hy
    simp [PySem.W.alike]
  · obtain ⟨_, _, rfl⟩ := List.mem_map.1 hx
    simp
  · cases ns with
    | nil => simp at e
    | cons n ns =>
      rw [List.map_cons] at e
      injection e with e1 e2
      subst e1
      subst e2
      rw [PySem.W.maxD_ints] at rd
      cases rd with
      | int _ t =>
        obtain ⟨h1, h2, h3⟩ := foldl_max ns n
        refine ⟨.int _, H, I.kept hk, ⟨_, rfl⟩, q1 _ ?_ ?_⟩
        · rcases h1 with h1 | h1
          · rw [h1]; exact List.mem_cons_self
          · exact List.mem_cons_of_mem _ h1
        · intro y hy
          rcases List.mem_cons.1 hy with rfl | hy
          · exact h2
          · exact h3 y hy
in #guard_msgs in universe u_z
end
section
variable {K : PySem.W.Frag} {σ : L2.St} {H : Hp} {a Da : Addr} {xs : List V} {vs : List Nat} {g : TG} {tt : TT} {te : TE} {Qd : Hp → Prop}
set_option Elab.async true in
/-- a comprehension over enumerate, with a test -/
theorem lc_enum (Pv : Nat → Hp → Prop) (h0 : Pv 0 (upd H Da (.lst []))) (hG : ∀ i H, i ≤ xs.length → Pv i H → SqL K H a xs)
    (hs : ∀ (i : Nat) (x : V) (T : Addr) (H1 H2 : Hp), xs[i]? = some x → Pv i H1 → Same H1 H2 → H2 T = some (.tup [.int (i : Nat), x]) → g (.ref T) (wipe σ vs) H2 fun σ2 H3 => wipe σ2 vs = wipe σ vs ∧ tt σ2 H3 fun b H4 =>
      if b = true then te σ2 H4 fun y H5 => ∃ acc, H5 Da = some (.lst acc) ∧ acc.length < sizeLine ∧ Pv (i + 1) (upd H5 Da (.lst (acc ++ [y]))) else Pv (i + 1) H4)
    (hd : ∀ H, Pv xs.length H → Qd H) : lcT (Ite K a) g tt te vs σ H Da Qd := by
  have z := L2.lc_it (walk_enum (K := K) (a := a) (xs := xs)) (g := g) (tt := tt) (te := te) (vs := vs) (σ := σ) (H1 := H) (D := Da) (Qd := Qd) Pv h0 hG (fun i v H1 H2 hi p y => by
    obtain ⟨T, x, z, rfl, nT, rfl, e1, e2⟩ := y
    cases e1
    exact hs i z T H1 _ e2 p (Same.new nT) upd_same) hd
  exact z
in #guard_msgs in universe u_z
end
end My
namespace My
open PySem L2 PyProof.Rows
section
variable {σ : L2.St} {H : Hp} {Q : VK} {r : List V → List V → Hp → VK → Prop} {t tk : TA} {to : TE}
theorem w_ckw (h : t σ H fun vs H1 => tk σ H1 fun zs H2 => r vs zs H2 Q) : tCKw r t tk σ H Q := h
theorem w_bits (h : to σ H fun x H1 => ∃ i, x = .int i ∧ Q (.int (Builtin.Int.intBits i : Nat)) H1) : tBits to σ H Q := h
theorem w_enum {K : PySem.W.Frag} {R : It → Hp → Prop} {ta : TA} (h : ta σ H fun vs H1 => ∃ a xs, vs = [.ref a] ∧ SqL K H1 a xs ∧ R (Ite K a) H1) : iEnum K ta σ H R := h
end
end My
namespace My
open PySem L2 PyProof.Rows
theorem bits_lt (n : Nat) : n < 2 ^ (Builtin.Int.intBits (n : Int)) := by
  unfold Builtin.Int.intBits
  by_cases h : n = 0
  · subst h
    decide
  · have : ((n : Int) == 0) = false := by simpa using h
    rw [this]
    simpa using Nat.lt_log2_self (n := n)
theorem bits_le {k : Nat} {i : Int} (h : B k i) : Builtin.Int.intBits i ≤ k := by
  unfold Builtin.Int.intBits
  split
  · exact Nat.zero_le _
  · rename_i hz
    have hz : i.natAbs ≠ 0 := by simpa using hz
    exact (Nat.log2_lt hz).2 h.lt
theorem gap_int (p q : Rat) : ((p.num * (q.den : Int) - q.num * (p.den : Int) : Int) : Rat) = (p - q) * ((p.den : Int) : Rat) * ((q.den : Int) : Rat) := by
  have hp := numc p
  have hq := numc q
  rw [Rat.intCast_sub, Rat.intCast_mul, Rat.intCast_mul]
  grind
set_option Elab.async true in
/-- keys at a shift wide enough keep the order of ratios strictly -/
theorem key_lt {p q : Rat} {m : Nat} (hp : p.den < 2 ^ m) (hq : q.den < 2 ^ m) (h : p < q) : (p.num * 2 ^ (2 * m)).fdiv (p.den : Int) < (q.num * 2 ^ (2 * m)).fdiv (q.den : Int) := by
  have dp := denP p
  have dq := denP q
  have hg : p.num * (q.den : Int) < q.num * (p.den : Int) := (Rat.lt_iff p q).1 h
  have hd : (p.den : Int) * (q.den : Int) < 2 ^ (2 * m) := by
    have h1 : p.den * q.den < 2 ^ m * 2 ^ m := Nat.mul_lt_mul'' hp hq
    have h2 : (2 : Nat) ^ m * 2 ^ m = 2 ^ (2 * m) := by rw [← Nat.pow_add]; congr 1; omega
    rw [h2] at h1
    exact_mod_cast h1
  rw [Int.fdiv_eq_ediv_of_nonneg _ (by omega), Int.fdiv_eq_ediv_of_nonneg _ (by omega)]
  generalize (2 : Int) ^ (2 * m) = S at hd
  have a1 := Int.ediv_mul_le (p.num * S) (b := (p.den : Int)) (by omega)
  have a2 := Int.lt_ediv_add_one_mul_self (q.num * S) (b := (q.den : Int)) (by omega)
  generalize p.num * S / (p.den : Int) = x at a1 ⊢
  generalize q.num * S / (q.den : Int) = y at a2 ⊢
  generalize (p.den : Int) = c at *
  generalize (q.den : Int) = d at *
  generalize p.num = u at *
  generalize q.num = v at *
  apply Int.not_le.1
  intro hyx
  -- y ≤ x: then v S < (y + 1) d ≤ (x + 1) d, times c: v c S < (x + 1) c d ≤ u S d + c d, and v c ≥ u d + 1
  have b1 : v * S * c < (y + 1) * d * c := Int.mul_lt_mul_of_pos_right a2 dp
  have b2 : (y + 1) * d * c ≤ (x + 1) * d * c := Int.mul_le_mul_of_nonneg_right (Int.mul_le_mul_of_nonneg_right (by omega) (by omega)) (by omega)
  have b3 : x * c * d ≤ u * S * d := Int.mul_le_mul_of_nonneg_right a1 (by omega)
  have b4 : (u * d + 1) * S ≤ v * c * S := Int.mul_le_mul_of_nonneg_right (by omega) (by have := Int.mul_pos dp dq; omega)
  have e1 : v * S * c = v * c * S := by rw [Int.mul_assoc, Int.mul_comm S c, ← Int.mul_assoc]
  have e2 : (x + 1) * d * c = x * c * d + c * d := by rw [Int.add_mul, Int.add_mul, Int.one_mul, Int.mul_assoc, Int.mul_comm d c, ← Int.mul_assoc]
  have e3 : (u * d + 1) * S = u * S * d + S := by rw [Int.add_mul, Int.one_mul, Int.mul_assoc, Int.mul_comm d S, ← Int.mul_assoc]
  omega
in #guard_msgs in universe u_z
end My
namespace My
open PySem L2
theorem kp_enum {X : Cx} {K : PySem.W.Frag} {a b : Expr} {ta : TA} (h : X.K = K) (z : PI X a b (iEnum X.K ta)) : PI X a b (iEnum K ta) := h ▸ z
end My
namespace My
open PySem L2
theorem eqv_q (p q : Rat) : PyData.eqv (.tuple [.int p.num, .int (p.den : Int)]) (.tuple [.int q.num, .int (q.den : Int)]) = decide (p = q) := by
  rw [Bool.eq_iff_iff, decide_eq_true_iff]
  simp only [eqv_T, eqv_C, eqv_I, eqv_N, Bool.and_true, Bool.and_eq_true, decide_eq_true_eq, beq_iff_eq]
  constructor
  · rintro ⟨h1, h2⟩
    exact Rat.ext h1 (by exact_mod_cast h2)
  · rintro rfl
    exact ⟨rfl, rfl⟩
theorem eqv_qD (p q : Rat) : PyData.eqv (qD p) (qD q) = decide (p = q) := eqv_q p q
end My
namespace My
open PySem L2 PyProof.Rows LamX NdefX
/-! a def whose code object has a table of its own -/
def codeOf (K : PySem.W.Frag) (x : Str) : Addr := match PySem.W.nsIn K mainGlobals x with
  | some (some (.ref f)) => (match K.lookup f with
    | some ⟨_, _, .func fd, _⟩ => (match fd.code with
      | .ref c => c
      | _ => 0)
    | _ => 0)
  | _ => 0
def tabOf (K : PySem.W.Frag) (x : Str) : Addr := match K.lookup (codeOf K x) with
  | some ⟨_, _, .fields vs, _⟩ => (match vs.getD 11 .none with
    | .ref P => P
    | _ => 0)
  | _ => 0
structure FunC (K : PySem.W.Frag) (x qual : Str) (st : Stmt) (f : Addr) (fd : FuncData) (c : Addr) : Prop where
  ex : ∃ (oc : Value) (od : Option Addr) (dV kV doc pm : Value) (an : Option Addr) (ct : Value) (osl : Array (Option Value)),
    fd = PySem.W.fnOf x qual (defArgs st) (defBody st) (defScope st) dV kV doc pm an (.ref c) ct ∧ K.lookup f = some ⟨oc, od, .func fd, osl⟩ ∧ PySem.W.codeIn K (.ref c) qual = true
section
variable {P : Program} {w : World} {K : PySem.W.Frag} {mg : Str → Option Value} {base : Heap}
set_option Elab.async true in
theorem FunC.ok {x qual : Str} {st : Stmt} {f : Addr} {fd : FuncData} {N ps : List Str} {k : Nat} {sp : Sp} {c : Addr} (F : FunC K x qual st f fd c) (S : FnScope N ps (defScope st)) (len : ∀ vs H Q E, sp vs H Q E → vs.length = ps.length)
    (hbody : ∀ (cdv : Value), cdv = .ref c → ∀ (A : Around) (outer : List Env) (s : Shared) (H : Hp) (vs : List V) (Q : VK) (E : XK), Room k (A.deeper (PyProof.Rows.envOfC qual (defScope st) s.heap.objs.size f cdv)) → sp vs H Q E →
      ∃ t, PSs (cxOf CX0 P w K mg base N qual (defScope st) f cdv A outer s H E).nox (defBody st) t ∧ t { nx := fun _ H' => Q .non H', rt := Q } (L2.start N vs) H) : FnOk P w K mg base CX0 (k + 1) f fd ps sp := by
  obtain ⟨oc, od, dV, kV, doc, pm, an, ct, osl, rfl, lk, hcd⟩ := F.ex
  refine fn_of lk hcd S len fun A outer s H vs Q E hr hsp => ?_
  obtain ⟨t, h, q⟩ := hbody _ rfl A outer s H vs Q E hr hsp
  exact ⟨t, h.nox, q⟩
in #guard_msgs in universe u_z
theorem funC_mk {x qual : Str} {st : Stmt} {f : Addr} {oc : Value} {od an : Option Addr} {osl : Array (Option Value)} {dV kV doc pm cdv ct : Value} {c : Addr} (l : K.lookup f = some ⟨oc, od, .func (PySem.W.fnOf x qual (defArgs st) (defBody st) (defScope st) dV kV doc pm an cdv ct), osl⟩)
    (h : PySem.W.codeIn K cdv qual = true) (e : cdv = .ref c) : FunC K x qual st f (PySem.W.fnOf x qual (defArgs st) (defBody st) (defScope st) dV kV doc pm an cdv ct) c := by
  subst e
  exact ⟨⟨oc, od, dV, kV, doc, pm, an, ct, osl, rfl, l, h⟩⟩
end
section
variable {T : List (Addr × Str)} {N : List Str} {js : List Nat} {tb : TE} {t : TA} {σ : L2.St} {H : Hp} {Q : VK}
theorem w_srt (h : t σ H fun vs H1 => Tabs T H1 ∧ ∃ (l : Addr) (xs : List V) (ks : List Int), vs = [.ref l] ∧ H1 l = some (.lst xs) ∧ ks.length = xs.length ∧
    (∀ (i : Nat) (x : V) (k : Int) (Hj : Hp), xs[i]? = some x → ks[i]? = some k → ExtN H1 Hj → tb (startF N [x] (js.map (slotAt σ))) Hj (fun v H' => v = .int k ∧ Same Hj H')) ∧
    ∀ (H2 : Hp) (p : Addr) (ps : List (V × Int)), ExtN H1 H2 → Tabs T H2 → (∀ b o, H1 b = some o → (∀ qs, o ≠ .tbl qs) → b ≠ p) → H2 p = some (.lst (ps.map Prod.fst)) → ps.Perm (xs.zip ks) → ps.Pairwise (fun x y => x.2 ≤ y.2) → Q (.ref p) H2) : tSrt T N js tb t σ H Q := h
/-- ExtN: lists and tuples -/
theorem _root_.LamX.ExtN.tk {K : PySem.W.Frag} {H H' : Hp} (e : ExtN H H') : TK K H H' := fun a xs q => by
  rcases q with (q | ⟨ob, q⟩) | q
  · exact .inl (.inl (e _ _ q (fun _ z => nomatch z)))
  · exact .inl (.inr ⟨ob, e _ _ q (fun _ z => nomatch z)⟩)
  · exact .inr q
theorem _root_.LamX.ExtN.lst {H H' : Hp} {a : Addr} {xs : List V} (e : ExtN H H') (h : H a = some (.lst xs)) : H' a = some (.lst xs) := e _ _ h (fun _ z => nomatch z)
theorem QL.ext {K : PySem.W.Frag} {H H' : Hp} {l : Addr} {qs : List Rat} (e : ExtN H H') (h : QL K H l qs) : QL K H' l qs := let ⟨acc, a, b⟩ := h; ⟨acc, e.lst a, b.tk e.tk⟩
theorem ext_same {H H' : Hp} (s : Same H H') : ExtN H H' := fun b o e _ => s b o e
end
end My
namespace My
open PySem L2
section
variable {α β γ : Type} {R : α → β → Prop} {f : β → γ}
theorem paired_zipf : ∀ {xs : List α} {ys : List β}, Paired R xs ys → Paired (fun (p : α × γ) y => R p.1 y ∧ p.2 = f y) (xs.zip (ys.map f)) ys
  | [], [], .nil => .nil
  | _ :: _, _ :: _, .cons r t => .cons ⟨r, rfl⟩ (paired_zipf t)
theorem paired_fst : ∀ {ps : List (α × γ)} {ys : List β}, Paired (fun (p : α × γ) y => R p.1 y ∧ p.2 = f y) ps ys → Paired R (ps.map Prod.fst) ys
  | [], [], .nil => .nil
  | _ :: _, _ :: _, .cons r t => .cons r.1 (paired_fst t)
theorem paired_snd : ∀ {ps : List (α × γ)} {ys : List β}, Paired (fun (p : α × γ) y => R p.1 y ∧ p.2 = f y) ps ys → ps.map Prod.snd = ys.map f
  | [], [], .nil => rfl
  | _ :: _, _ :: _, .cons r t => by rw [List.map_cons, List.map_cons, r.2, paired_snd t]
end
theorem sorted_keys {m : Nat} {rs : List Rat} (h : (rs.map fun q => (q.num * 2 ^ (2 * m)).fdiv (q.den : Int)).Pairwise (· ≤ ·)) (hd : ∀ q, q ∈ rs → q.den < 2 ^ m) : rs.Pairwise (· ≤ ·) := by
  rw [List.pairwise_map] at h
  refine List.Pairwise.imp_of_mem (fun {p q} hp hq hk => ?_) h
  by_cases hlt : q < p
  · have := key_lt (hd q hq) (hd p hp) hlt
    omega
  · exact Rat.not_lt.1 hlt
end My
namespace My
open PySem L2 PyProof.Rows
theorem hu_of65 {A : Around} {k : Nat} (hr : Room k A) : A.units + 65 < cLine := by
  have := hr.un
  omega
theorem ko_niD {X : Cx} {K : PySem.W.Frag} (h : X.K = K) (hu : X.A.units + 65 < cLine) : OpR X (compareOp .NotIn) (rNotInD K) := h ▸ op_notInD hu
theorem lay_qs : ∀ ts : List Rat, PyData.canLayAll0 (ts.map qD) = true
  | [] => by simp [PyData.canLayAll0]
  | q :: ts => by simp [PyData.canLayAll0, lay_qs ts, qD, PyData.canLay0]
theorem depth_qD (q : Rat) : (qD q).depth = 1 := by simp [qD, PyData.depth, PyData.depthAll]
theorem depth_qs : ∀ ts : List Rat, PyData.depthAll (ts.map qD) ≤ 1
  | [] => by simp [PyData.depthAll]
  | q :: ts => by rw [List.map_cons, PyData.depthAll.eq_2, depth_qD]; have := depth_qs ts; omega
theorem shaped_qs (ts : List Rat) : SeqAt.shaped (.list (ts.map qD)) = true := by
  unfold SeqAt.shaped
  rw [Bool.and_eq_true]
  refine ⟨by rw [PyData.canLay0]; exact lay_qs ts, decide_eq_true ?_⟩
  rw [PyData.depth]
  have := depth_qs ts
  omega
theorem shaped_q (q : Rat) : SeqAt.shaped (qD q) = true := by
  unfold SeqAt.shaped
  rw [Bool.and_eq_true]
  exact ⟨by simp [qD, PyData.canLay0, PyData.canLayAll0], decide_eq_true (by rw [depth_qD]; decide)⟩
theorem any_qD (q : Rat) : ∀ ts : List Rat, ((ts.map qD).any fun z => PyData.eqv z (qD q)) = decide (q ∈ ts)
  | [] => by simp
  | t :: ts => by
    rw [List.map_cons, List.any_cons, any_qD q ts, eqv_qD, Bool.eq_iff_iff]
    simp only [Bool.or_eq_true, decide_eq_true_eq, List.mem_cons]
    exact ⟨fun h => h.imp Eq.symm id, fun h => h.imp Eq.symm id⟩
theorem eqv_qs : ∀ ts ss : List Rat, PyData.eqv (.list (ts.map qD)) (.list (ss.map qD)) = decide (ts = ss) := by
  intro ts ss
  rw [eqv_L]
  induction ts generalizing ss with
  | nil => cases ss with
    | nil => rw [List.map_nil, eqv_N]; simp
    | cons s ss => simp [PyData.eqvAll]
  | cons t ts ih => cases ss with
    | nil => simp [PyData.eqvAll]
    | cons s ss =>
      rw [List.map_cons, List.map_cons, eqv_C, eqv_qD, ih, Bool.eq_iff_iff]
      simp
section
variable {K : PySem.W.Frag} {H : Hp} {a l u : Addr} {q : Rat} {ts ss : List Rat} {Q : VK}
theorem q_dp (h : SqT K H a [.int q.num, .int (q.den : Int)]) : Dp K H (.ref a) (qD q) := .tup h (.cons (.int _) (.cons (.int _) .nil))
theorem QL.dp (h : QL K H l ts) : Dp K H (.ref l) (.list (ts.map qD)) := let ⟨_, h1, h2⟩ := h; (Dn.lst (N := []) (by simp) h1 h2.dna).dp
theorem r_niQ (ha : SqT K H a [.int q.num, .int (q.den : Int)]) (hl : QL K H l ts) (h : Q (.bl (!decide (q ∈ ts))) H) : rNotInD K (.ref a) (.ref l) H Q := ⟨_, _, q_dp ha, hl.dp, shaped_q q, shaped_qs ts, by rw [any_qD]; exact h⟩
theorem r_neQL (hl : QL K H l ts) (hu : QL K H u ss) (h : Q (.bl (!decide (ts = ss))) H) : rNeD K (.ref l) (.ref u) H Q := ⟨_, _, hl.dp, hu.dp, shaped_qs ts, shaped_qs ss, by rw [eqv_qs]; exact h⟩
end
end My
namespace My
open PySem L2 PyProof.Rows
section
variable {K : PySem.W.Frag} {σ : L2.St} {H : Hp} {a Da : Addr} {xs : List V} {vs : List Nat} {g : TG} {tt : TT} {te : TE} {Qd : Hp → Prop}
set_option Elab.async true in
/-- a comprehension over a list, with a test -/
theorem lc_lstT (Pv : Nat → Hp → Prop) (h0 : Pv 0 (upd H Da (.lst []))) (hG : ∀ i H, i ≤ xs.length → Pv i H → SqL K H a xs)
    (hs : ∀ (i : Nat) (x : V) (H1 : Hp), xs[i]? = some x → Pv i H1 → g x (wipe σ vs) H1 fun σ2 H3 => wipe σ2 vs = wipe σ vs ∧ tt σ2 H3 fun b H4 =>
      if b = true then te σ2 H4 fun y H5 => ∃ acc, H5 Da = some (.lst acc) ∧ acc.length < sizeLine ∧ Pv (i + 1) (upd H5 Da (.lst (acc ++ [y]))) else Pv (i + 1) H4)
    (hd : ∀ H, Pv xs.length H → Qd H) : lcT (Itl K a) g tt te vs σ H Da Qd := by
  have z := L2.lc_list (K := K) (a := a) (xs := xs) (g := g) (tt := tt) (te := te) (vs := vs) (σ := σ) (H1 := H) (D := Da) (Qd := Qd) Pv h0 hG hs hd
  exact z
in #guard_msgs in universe u_z
end
end My
namespace My
open PySem L2 PyProof.Rows LamX NdefX
/-- all stays but the store's list and the tables -/
def FrN (st : Addr) (H H' : Hp) : Prop := ∀ b o, b ≠ st → H b = some o → (∀ ps, o ≠ .tbl ps) → H' b = some o
section
variable {K : PySem.W.Frag} {st l : Addr} {H H1 H2 : Hp} {qs : List Rat}
theorem FrN.trans (a : FrN st H H1) (b : FrN st H1 H2) : FrN st H H2 := fun c o hc h n => b c o hc (a c o hc h n) n
theorem ExtN.frn (e : ExtN H H1) : FrN st H H1 := fun b o _ h n => e b o h n
theorem _root_.My.Fr.frn (e : Fr st H H1) : FrN st H H1 := fun b o hb h _ => e.keep b o hb h
theorem same_frn (e : Same H H1) : FrN st H H1 := fun b o _ h _ => e b o h
end
end My
namespace My
open PySem L2
theorem rat_tri3 (p q : Rat) : p < q ∨ p = q ∨ q < p := by
  by_cases h : p < q
  · exact .inl h
  · by_cases h2 : q < p
    · exact .inr (.inr h2)
    · exact .inr (.inl (Rat.le_antisymm (Rat.not_lt.1 h2) (Rat.not_lt.1 h)))
set_option Elab.async true in
theorem tell_of {p q : Rat} {r g : Int} (a1 : p < q → r = -1) (a2 : q < p → r = 1) (a3 : p = q → r = 0) (g1 : p < q → g < 0) (g2 : q < p → 0 < g) (g3 : p = q → g = 0) : (g < 0 → r = -1) ∧ (0 < g → r = 1) ∧ (g = 0 → r = 0) := by
  rcases rat_tri3 p q with h | h | h
  · have := g1 h
    exact ⟨fun _ => a1 h, fun _ => by omega, fun _ => by omega⟩
  · have := g3 h
    exact ⟨fun _ => by omega, fun _ => by omega, fun _ => a3 h⟩
  · have := g2 h
    exact ⟨fun _ => by omega, fun _ => a2 h, fun _ => by omega⟩
in #guard_msgs in universe u_z
set_option Elab.async true in
theorem half_bn {p q : Rat} (h2 : BN 134 134 p) (h3 : BN 134 134 q) : BN 280 280 ((p + q) / 2) := by
  have d0 := denP p
  have d1 := denP q
  have e : ((p.num * (q.den : Int) + q.num * (p.den : Int) : Int) : Rat) / ((2 * (p.den : Int) * (q.den : Int) : Int) : Rat) = (p + q) / 2 := by
    have hp := numc p
    have hq := numc q
    have n1 : ((p.den : Int) : Rat) ≠ 0 := denI p |> fun h => by exact_mod_cast h
    have n2 : ((q.den : Int) : Rat) ≠ 0 := denI q |> fun h => by exact_mod_cast h
    simp only [Rat.intCast_add, Rat.intCast_mul]
    rw [← hp, ← hq]
    grind
  rw [← e]
  exact (BN.dvz (n := 280) (d := 280) ((B.add (B.mul h2.n h3.d) (B.mul h3.n h2.d)).le (by decide)) ((B.mul (B.mul (B.lit (x := 2) (k := 2) (by decide)) h2.d) h3.d).le (by decide)) (by decide))
in #guard_msgs in universe u_z
set_option Elab.async true in
theorem half_id (p q : Rat) : ((p + q) / 2).num * 2 * (p.den : Int) * (q.den : Int) = (p.num * (q.den : Int) + q.num * (p.den : Int)) * (((p + q) / 2).den : Int) := by
  have hp := numc p
  have hq := numc q
  have hh := numc ((p + q) / 2)
  have : ((((p + q) / 2).num * 2 * (p.den : Int) * (q.den : Int) : Int) : Rat) = (((p.num * (q.den : Int) + q.num * (p.den : Int)) * (((p + q) / 2).den : Int) : Int) : Rat) := by
    simp only [Rat.intCast_add, Rat.intCast_mul]
    rw [← hp, ← hq, ← hh]
    have e2 : (((2 : Int)) : Rat) = 2 := rfl
    rw [e2]
    grind
  exact_mod_cast this
in #guard_msgs in universe u_z
theorem half_lt {p q : Rat} : (p < (p + q) / 2 ↔ p < q) ∧ ((p + q) / 2 < q ↔ p < q) ∧ ((p + q) / 2 < p ↔ q < p) ∧ (q < (p + q) / 2 ↔ q < p) ∧ (p = (p + q) / 2 ↔ p = q) ∧ ((p + q) / 2 = q ↔ p = q) := by
  refine ⟨⟨fun h => ?_, fun h => ?_⟩, ⟨fun h => ?_, fun h => ?_⟩, ⟨fun h => ?_, fun h => ?_⟩, ⟨fun h => ?_, fun h => ?_⟩, ⟨fun h => ?_, fun h => ?_⟩, ⟨fun h => ?_, fun h => ?_⟩⟩
  all_goals grind
end My

set_option Elab.async false
set_option linter.all false
set_option maxRecDepth 100000
namespace My
open PySem L2
theorem QtL.pick {K : PySem.W.Frag} {H : Hp} {xs : List V} {rs : List Rat} {r : Int} (h : QtL K H xs rs) (h0 : 0 ≤ r) (h1 : r < (rs.length : Int)) : ∃ (a : Addr) (q : Rat), atI xs r = some (.ref a) ∧ q ∈ rs ∧ SqT K H a [.int q.num, .int (q.den : Int)] := by
  have hl := h.len
  obtain ⟨v, e, hv, e2⟩ := atI_in (xs := xs) h0 (by omega)
  obtain ⟨a, q, rfl, eq, s⟩ := h.get' e2
  exact ⟨a, q, e, List.mem_of_getElem? eq, s⟩
theorem qs_snoc {qs : List Rat} {n e : Nat} {q : Rat} (h : ∀ q, q ∈ qs → BN n e q) (hq : BN n e q) : ∀ x, x ∈ qs ++ [q] → BN n e x := by
  intro x hx
  rcases List.mem_append.1 hx with hx | hx
  · exact h x hx
  · cases List.mem_singleton.1 hx
    exact hq
theorem neg_rat {q : Rat} : (-q).num = -q.num ∧ (-q).den = q.den := ⟨rfl, rfl⟩
set_option Elab.async true in
/-- other[0] * power + t - 1 over other[1] * power -/
theorem near_bn {q : Rat} {t : Int} {j : Nat} (h : BN 6 6 q) (hj : j ≤ 27) (t0 : 0 ≤ t) (t1 : t < 3) : B 110 (q.num * (10 : Int) ^ j + t - 1) ∧ B 110 ((q.den : Int) * 10 ^ j) ∧ 0 < (q.den : Int) * 10 ^ j := by
  have e1 : (10 : Int) ^ j ≤ 10 ^ 27 := p10 hj
  have e0 : (0 : Int) < 10 ^ j := Int.pow_pos (by decide)
  have b0 : B 100 ((10 : Int) ^ j) := B.rng (by omega) (by have e2 : (10 : Int) ^ 27 < 2 ^ 100 := (by decide); omega)
  have b1 := B.mul h.n b0
  have b2 := B.mul h.d b0
  have b3 : B 2 t := B.rng (by omega) (by omega)
  have b4 : B 1 (1 : Int) := B.lit (by decide)
  refine ⟨(B.sub (B.add (b1.le (show 6 + 100 ≤ 108 by decide)) (b3.le (show 2 ≤ 108 by decide))) (b4.le (show 1 ≤ 108 by decide))).le (by decide), b2.le (by decide), Int.mul_pos (by have := q.den_pos; omega) e0⟩
in #guard_msgs in universe u_z
end My
namespace My
open PySem L2 PyProof.Rows LamX NdefX
/-- an address that no plain object of the heap has -/
def Fresh (H : Hp) (r : Addr) : Prop := ∀ b o, H b = some o → (∀ zs, o ≠ .tbl zs) → b ≠ r
theorem Fresh.of {H : Hp} {r : Addr} (h : H r = none) : Fresh H r := fun b o hb _ e => by
  rw [e, h] at hb
  cases hb
/-- all stays but the store's list, which begins as it began, and the tables -/
structure FrT (st : Addr) (H H' : Hp) : Prop where
  keep : ∀ b o, b ≠ st → H b = some o → (∀ ps, o ≠ .tbl ps) → H' b = some o
  hd : ∀ xs, H st = some (.lst xs) → ∃ ys, H' st = some (.lst ys) ∧ ys.head? = xs.head?
section
variable {K : PySem.W.Frag} {st l p : Addr} {H H1 H2 : Hp} {qs : List Rat} {o : HO} {T : List (Addr × Str)} {xs : List V}
theorem FrT.refl : FrT st H H := ⟨fun _ _ _ h _ => h, fun xs h => ⟨xs, h, rfl⟩⟩
theorem FrT.trans (a : FrT st H H1) (b : FrT st H1 H2) : FrT st H H2 := ⟨fun c o n h z => b.keep c o n (a.keep c o n h z) z, fun xs h => by
  obtain ⟨ys, h1, e1⟩ := a.hd xs h
  obtain ⟨zs, h2, e2⟩ := b.hd ys h1
  exact ⟨zs, h2, e2.trans e1⟩⟩
theorem _root_.My.Fr.frt (e : Fr st H H1) : FrT st H H1 := ⟨fun b o n h _ => e.keep b o n h, e.hd⟩
theorem ext_frt (e : ExtN H H1) : FrT st H H1 := ⟨fun b o _ h n => e b o h n, fun xs h => ⟨xs, e _ _ h (by intro ps z; cases z), rfl⟩⟩
theorem Same.frt (e : Same H H1) : FrT st H H1 := Fr.frt (Same.fr e)
theorem FrT.frn (e : FrT st H H1) : FrN st H H1 := e.keep
theorem FrT.mut (e : FrT st H H1) (n : Fresh H p) : FrT st H (upd H1 p o) := ⟨fun b u nb hb z => by
  rw [upd_ne (n _ _ hb z)]
  exact e.keep b u nb hb z, fun xs hx => by
  rw [upd_ne (n _ _ hx (by intro ps z; cases z))]
  exact e.hd xs hx⟩
theorem FrT.fresh (hs : My.St K H1 st) (e : FrT st H H1) (n : Fresh H1 p) : Fresh H p := fun b o hb z => by
  by_cases c : b = st
  · subst c
    obtain ⟨l, ns, i1, i2, i3, i4, i5, i6, h⟩ := hs
    exact n _ _ h.at_ (by intro ps z; cases z)
  · exact n b o (e.keep b o c hb z) z
theorem St.ext (h : My.St K H st) (e : ExtN H H1) : My.St K H1 st := by
  obtain ⟨l, ns, i1, i2, i3, i4, i5, i6, h⟩ := h
  exact ⟨l, ns, i1, i2, i3, i4, i5, i6, e _ _ h.at_ (by intro ps z; cases z), h.ne, e _ _ h.lst (by intro ps z; cases z), h.nn⟩
set_option Elab.async true in
theorem St.mutT (h : My.St K H st) (e : FrT st H H1) (h1 : My.St K H1 st) (n : Fresh H p) : My.St K (upd H1 p o) st := by
  obtain ⟨l, ns, i1, i2, i3, i4, i5, i6, h⟩ := h
  obtain ⟨l', ns', j1, j2, j3, j4, j5, j6, h1⟩ := h1
  obtain ⟨ys, hy, e2⟩ := e.hd _ h.at_
  rw [h1.at_] at hy
  cases hy
  have el : l' = l := by simpa using e2
  subst el
  exact ⟨l', ns', j1, j2, j3, j4, j5, j6, (upd_ne (n _ _ h.at_ (by intro ps z; cases z))).trans h1.at_, h1.ne, (upd_ne (n _ _ h.lst (by intro ps z; cases z))).trans h1.lst, h1.nn⟩
in #guard_msgs in universe u_z
theorem tup_frt {xs : List V} {a : Addr} (e : FrT st H H1) (hs : My.St K H st) (h : SqT K H a xs) : SqT K H1 a xs := by
  obtain ⟨l, ns, i1, i2, i3, i4, i5, i6, hs⟩ := hs
  rcases h with (h | ⟨o, h⟩) | h
  · refine .inl (.inl (e.keep _ _ (fun q => ?_) h (by intro ps z; cases z)))
    rw [q, hs.at_] at h
    cases h
  · refine .inl (.inr ⟨o, e.keep _ _ (fun q => ?_) h (by intro ps z; cases z)⟩)
    rw [q, hs.at_] at h
    cases h
  · exact .inr h
theorem tk_frt (e : FrT st H H1) (hs : My.St K H st) : TK K H H1 := fun _ _ h => tup_frt e hs h
theorem QL.frt (e : FrT st H H1) (hs : My.St K H st) (h : QL K H l qs) : QL K H1 l qs := let ⟨acc, a, b⟩ := h; ⟨acc, e.keep _ _ (QL.ne hs h) a (by intro ps z; cases z), b.tk (tk_frt e hs)⟩
theorem Tabs.mutL (t : Tabs T H) (h : H p = some (.lst xs)) : Tabs T (upd H p o) := fun x hx => by
  obtain ⟨ps, a, b, c⟩ := t x hx
  refine ⟨ps, ?_, b, fun pos cv z => ?_⟩
  · rw [upd_ne (fun q => by rw [q, h] at a; cases a)]
    exact a
  · obtain ⟨c, e, hc⟩ := c pos cv z
    refine ⟨c, e, ?_⟩
    rw [upd_ne (fun q => by rw [q, h] at hc; cases hc)]
    exact hc
theorem Tabs.frS (t : Tabs T H) (e : Fr st H H1) (hs : My.St K H st) : Tabs T H1 := fun x hx => by
  obtain ⟨l, ns, i1, i2, i3, i4, i5, i6, hs⟩ := hs
  obtain ⟨ps, a, b, c⟩ := t x hx
  refine ⟨ps, e.keep _ _ (fun q => by rw [q, hs.at_] at a; cases a) a, b, fun pos cv z => ?_⟩
  obtain ⟨c, e2, hc⟩ := c pos cv z
  exact ⟨c, e2, e.keep _ _ (fun q => by rw [q, hs.at_] at hc; cases hc) hc⟩
end
end My
namespace My
open PySem L2 PyProof.Rows LamX NdefX
section
variable {K : PySem.W.Frag} {l p a : Addr} {H H1 : Hp} {qs : List Rat} {o : HO} {xs : List V}
theorem ext_mut (e : ExtN H H1) (n : Fresh H p) : ExtN H (upd H1 p o) := fun b u hb z => by
  rw [upd_ne (n _ _ hb z)]
  exact e _ _ hb z
theorem QL.updN (h : QL K H l qs) (n : l ≠ p) (hp : H p = some (.lst xs)) : QL K (upd H p o) l qs := let ⟨acc, a, b⟩ := h; ⟨acc, (upd_ne n).trans a, b.tk (TK.upd hp)⟩
def insQ (qs : List Rat) (i : Nat) (q : Rat) : List Rat := qs.take i ++ [q] ++ qs.drop i
theorem QtL.ins {q : Rat} (h : QtL K H xs qs) (z : SqT K H a [.int q.num, .int (q.den : Int)]) (i : Nat) : QtL K H (xs.take i ++ [.ref a] ++ xs.drop i) (insQ qs i q) := ((h.takeN i).snoc z).app (h.dropN i)
theorem insQ_bn {n e i : Nat} {q : Rat} (h : ∀ q, q ∈ qs → BN n e q) (hq : BN n e q) : ∀ x, x ∈ insQ qs i q → BN n e x := by
  intro x hx
  unfold insQ at hx
  rcases List.mem_append.1 hx with hx | hx
  · rcases List.mem_append.1 hx with hx | hx
    · exact h x (List.mem_of_mem_take hx)
    · cases List.mem_singleton.1 hx
      exact hq
  · exact h x (List.mem_of_mem_drop hx)
theorem insQ_len {i : Nat} {q : Rat} : (insQ qs i q).length = qs.length + 1 := by
  unfold insQ
  simp only [List.length_append, List.length_take, List.length_drop, List.length_singleton]
  omega
end
end My
namespace My
open PySem L2 PyProof.Rows LamX NdefX
theorem QtL.cutQ {K : PySem.W.Frag} {H : Hp} {xs : List V} {qs : List Rat} {n e : Nat} (h : QtL K H xs qs) (hb : ∀ q, q ∈ qs → BN n e q) (lo hi : Option Int) : ∃ rs, QtL K H (cutV xs lo hi) rs ∧ (∀ q, q ∈ rs → BN n e q) ∧ rs.length ≤ qs.length :=
  ⟨_, (h.dropN _).takeN _, fun q z => hb q (List.mem_of_mem_drop (List.mem_of_mem_take z)), by simp only [List.length_take, List.length_drop]; omega⟩
end My
namespace My
open PySem L2 PyProof.Rows LamX NdefX
theorem tk_frn {K : PySem.W.Frag} {H H1 : Hp} {st : Addr} (e : FrN st H H1) (hs : My.St K H st) : TK K H H1 := fun a xs h => by
  obtain ⟨l, ns, i1, i2, i3, i4, i5, i6, hs⟩ := hs
  rcases h with (h | ⟨o, h⟩) | h
  · refine .inl (.inl (e _ _ (fun q => ?_) h (by intro ps z; cases z)))
    rw [q, hs.at_] at h
    cases h
  · refine .inl (.inr ⟨o, e _ _ (fun q => ?_) h (by intro ps z; cases z)⟩)
    rw [q, hs.at_] at h
    cases h
  · exact .inr h
theorem QL.frn {K : PySem.W.Frag} {H H1 : Hp} {st l : Addr} {qs : List Rat} (e : FrN st H H1) (hs : My.St K H st) (h : QL K H l qs) : QL K H1 l qs := let ⟨acc, a, b⟩ := h; ⟨acc, e _ _ (QL.ne hs h) a (by intro ps z; cases z), b.tk (tk_frn e hs)⟩
end My
namespace My
open PySem L2 PyProof.Rows LamX NdefX
/-! the end of a law with tables: the tables left out of what is pinned -/
def Kd (K : PySem.W.Frag) (Ps : List Addr) : PySem.W.Frag := K.filter fun q => !Ps.contains q.1
def Em (K : PySem.W.Frag) (Ps : List Addr) : Prop := ∀ P, P ∈ Ps → ∀ o, K.lookup P = some o → o = { cls := .none, data := .fields #[] }
def codeC (vs : Array Value) (c P : Addr) : Bool := (match vs.getD 18 .none with | .str _ _ => true | _ => false) && (match vs.getD 7 .none with | .int _ _ => true | _ => false) && (match vs.getD 9 .none with | .bool _ => true | _ => false) && (match vs.getD 10 .none with | .int _ _ => true | _ => false) && c != P
def codeB : Obj → Addr → Option Addr
  | ⟨.type "code", _, .fields vs, _⟩, c => (match (vs[11]? : Option Value) with
    | some (.ref P) => if codeC vs c P = true then some P else none
    | _ => none)
  | _, _ => none
section
variable {K : PySem.W.Frag} {Ps : List Addr} {a c P : Addr} {o : Obj} {x : Str}
set_option Elab.async true in
theorem kd_lookup (K : PySem.W.Frag) (Ps : List Addr) (a : Addr) : (Kd K Ps).lookup a = if Ps.contains a = true then none else K.lookup a := by
  unfold Kd
  induction K with
  | nil => simp
  | cons q K ih =>
    obtain ⟨b, u⟩ := q
    by_cases hb : a = b
    · subst hb
      by_cases hc : Ps.contains a = true
      · rw [if_pos hc] at ih ⊢
        rw [List.filter_cons_of_neg (by simpa using hc)]
        exact ih
      · rw [if_neg hc]
        simp at hc
        simp [hc, List.lookup]
    · have e : (a == b) = false := by simpa using hb
      rw [List.lookup_cons, e]
      by_cases hc : Ps.contains b = true
      · rw [List.filter_cons_of_neg (by simpa using hc)]
        exact ih
      · rw [List.filter_cons_of_pos (by simpa using hc), List.lookup_cons, e]
        exact ih
in #guard_msgs in universe u_z
theorem kd_in {h : Heap} (X : K.In h) : (Kd K Ps).In h := fun a o e => by
  rw [kd_lookup] at e
  split at e
  · cases e
  · exact X a o e
theorem kd_none (h : P ∈ Ps) : (Kd K Ps).lookup P = none := by
  rw [kd_lookup, if_pos (by simpa using h)]
theorem kd_lk (e : Em K Ps) (h : K.lookup a = some o) (n : o.data ≠ .fields #[]) : (Kd K Ps).lookup a = some o := by
  rw [kd_lookup, if_neg, h]
  intro z
  have := e a (by simpa using z) _ h
  subst this
  exact n rfl
theorem em_of {h : Heap} (X : K.In h) (hT : ∀ P, P ∈ Ps → h.get? P = some { cls := .none, data := .fields #[] }) : Em K Ps := fun P hP o e => by
  have := X P o e
  rw [hT P hP] at this
  cases this
  rfl
theorem kd_fn (e : Em K Ps) {oc : Value} {od : Option Addr} {fd : FuncData} {sl : Array (Option Value)} (h : K.lookup a = some ⟨oc, od, .func fd, sl⟩) : (Kd K Ps).lookup a = some ⟨oc, od, .func fd, sl⟩ := kd_lk e h (fun z => by cases z)
theorem kd_seq (e : Em K Ps) {it : Array Value} {m : Nat} (h : K.lookup a = some o) (d : o.data = .seq it m) : (Kd K Ps).lookup a = some o := kd_lk e h (fun z => by rw [d] at z; cases z)
theorem kd_ns (e : Em K Ps) {r : Option Value} (h : PySem.W.nsIn K a x = some r) : PySem.W.nsIn (Kd K Ps) a x = some r := by
  cases q : K.lookup a with
  | none =>
    unfold PySem.W.nsIn at h
    rw [q] at h
    cases h
  | some o =>
    have n : o.data ≠ .fields #[] := fun z => by
      unfold PySem.W.nsIn at h
      rw [q] at h
      obtain ⟨c1, d1, dt, sl⟩ := o
      cases z
      cases h
    have q2 := kd_lk e q n
    unfold PySem.W.nsIn at h ⊢
    rw [q] at h
    rw [q2]
    exact h
set_option Elab.async true in
theorem kd_code (e : Em K Ps) {cd : Value} (h : PySem.W.codeIn K cd x = true) : PySem.W.codeIn (Kd K Ps) cd x = true := by
  cases cd with
  | ref a =>
    cases q : K.lookup a with
    | none =>
      unfold PySem.W.codeIn at h
      dsimp only at h
      rw [q] at h
      cases h
    | some o =>
      have n : o.data ≠ .fields #[] := fun z => by
        unfold PySem.W.codeIn at h
        dsimp only at h
        rw [q] at h
        obtain ⟨c1, d1, dt, sl⟩ := o
        cases z
        cases h
      have q2 := kd_lk e q n
      unfold PySem.W.codeIn at h ⊢
      dsimp only at h ⊢
      rw [q] at h
      rw [q2]
      exact h
  | _ => cases h
in #guard_msgs in universe u_z
theorem kd_keep {oc : Value} {od : Option Addr} {fd : FuncData} {sl : Array (Option Value)} (h : K.lookup a = some ⟨oc, od, .func fd, sl⟩) : PySem.W.keepIn K (.ref a) = true := by
  unfold PySem.W.keepIn
  dsimp only
  rw [h]
theorem codeB_data (h : codeB o c = some P) : ∃ (od : Option Addr) (sl : Array (Option Value)) (vs : Array Value), o = ⟨.type "code", od, .fields vs, sl⟩ ∧ vs[11]? = some (.ref P) ∧ codeC vs c P = true := by
  unfold codeB at h
  split at h
  · split at h
    · rename_i vs _ P' e
      split at h
      · cases h
        exact ⟨_, _, _, rfl, e, by assumption⟩
      · cases h
    · cases h
  · cases h
theorem codeB_hd (l : K.lookup c = some o) (h : codeB o c = some P) : PySem.W.codeHdIn K c P = true := by
  obtain ⟨od, sl, vs, rfl, e, b⟩ := codeB_data h
  unfold PySem.W.codeHdIn
  unfold codeC at b
  rw [l]
  simp only [e]
  simp only [Bool.and_eq_true, beq_self_eq_true, true_and] at b ⊢
  exact b
theorem kd_cl (e : Em K Ps) (l : K.lookup c = some o) (h : codeB o c = some P) : (Kd K Ps).lookup c = some o := kd_lk e l (fun z => by
  obtain ⟨od, sl, vs, rfl, e, b⟩ := codeB_data h
  cases z
  cases e)
set_option Elab.async true in
theorem tab_of {f : Addr} {oc cd : Value} {od : Option Addr} {fd : FuncData} {sl : Array (Option Value)} (a : PySem.W.nsIn K mainGlobals x = some (some (.ref f))) (l : K.lookup f = some ⟨oc, od, .func fd, sl⟩) (hc : fd.code = cd) (e : cd = .ref c) (cl : K.lookup c = some o) (h : codeB o c = some P) : codeOf K x = c ∧ tabOf K x = P := by
  have h1 : codeOf K x = c := by
    unfold codeOf
    rw [a]
    dsimp only
    rw [l]
    dsimp only
    rw [hc, e]
  refine ⟨h1, ?_⟩
  obtain ⟨od2, sl2, vs, rfl, e2, b⟩ := codeB_data h
  unfold tabOf
  rw [h1, cl]
  dsimp only
  have : vs.getD 11 .none = .ref P := by
    rw [Array.getD_eq_getD_getElem?, e2]
    rfl
  rw [this]
in #guard_msgs in universe u_z
set_option Elab.async true in
theorem walk_tab {l : PySem.W.OpenLaw} {k : Nat} {q : Program} {loose : List Str} {XP : (Str → Option Value) → Heap → Prop} {YP : World → Heap → Prop} {d : DefRec} {K : Params → PySem.W.Frag} (ts : List Str)
    (hn : l.most = some 63) (hdf : d.params.defaults = []) (hr : Room k callerA) (hY : ∀ (w : World) (h : Heap), YP w h → (K w.params).In h)
    (F : ∀ (w : World) (mg : Str → Option Value) (fa : Addr) (h : Heap), YP w h → (K w.params).In h → h.Ns mainGlobals mg → mg d.name = some (.ref fa) → LawAtS l w (Kd (K w.params) (ts.map (tabOf (K w.params)))) CX0 k 63 "script" mg fa h) :
    PySem.W.WalkO q loose XP YP l.row.toRowW d [] (fun f vs => PySem.call f vs) :=
  walk_ofTs (CX := fun _ => CX0) (K := fun p => Kd (K p) (ts.map (tabOf (K p)))) hn (by decide) hdf hr (fun w h Y => kd_in (hY w h Y)) (fun w mg fa h Y _ G e => F w mg fa h Y (hY w h Y) G e) (fun _ _ _ _ _ z => z)
in #guard_msgs in universe u_z
end
end My

set_option Elab.async false
set_option linter.all false
set_option maxRecDepth 100000
set_option maxHeartbeats 2000000
/-! sorted(xs, key=lambda x: (f(x), g(x), ..)): rows of whole numbers as keys -/
namespace My
open PySem L2 PyProof.Rows LamX NdefX
/-- a row of whole numbers as a key -/
def kL (k : List Int) : PyData := .tuple (k.map .int)
theorem depthL (k : List Int) : (kL k).depth ≤ 1 := by
  unfold kL
  rw [PyData.depth]
  have := depth_ints k
  omega
theorem alikeL (ks : List (List Int)) : PySem.W.AllAlike (ks.map kL) := PySem.W.AllAlike.of fun a b => by
  unfold kL
  rw [PySem.W.alike]
  exact PySem.W.alike_ints a b
theorem sortableL (ks : List (List Int)) (h : ∀ k, k ∈ ks → k ≠ []) : PySem.W.Sortable (ks.map kL) := .inl fun d hd => by
  obtain ⟨k, hk, rfl⟩ := List.mem_map.1 hd
  cases k with
  | nil => exact absurd rfl (h _ hk)
  | cons a r => exact ⟨_, _, rfl⟩
theorem leL {β : Type} (k : β → List Int) : PySem.W.dataLe false (fun b => kL (k b)) = fun p q => decide (k p ≤ k q) := by
  funext p q
  show (!PySem.W.dataLt (.tuple ((k q).map .int)) (.tuple ((k p).map .int))) = _
  rw [PySem.W.dataLt_tuple]
  show (!PySem.W.rowLt ((k q).map .int) ((k p).map .int)) = _
  rw [PySem.W.dataLt_ints]
  by_cases h : k q < k p
  · have h' : ¬ k p ≤ k q := fun r => List.not_lt.mpr r h
    simp [h, h']
  · have h' : k p ≤ k q := List.not_lt.mp h
    simp [h, h']
theorem vals_snoc : ∀ {kv : List V} {vs : List Value} {x : V} {v : Value}, Vals kv vs → RelV x v → Vals (kv ++ [x]) (vs ++ [v])
  | _, _, _, _, .nil, r => .cons r .nil
  | _, _, _, _, .cons a t, r => .cons a (vals_snoc t r)
theorem dpa_snoc {K : PySem.W.Frag} {H : Hp} {x : V} {d : PyData} : ∀ {vs : List V} {ds : List PyData}, DpAll K H vs ds → Dp K H x d → DpAll K H (vs ++ [x]) (ds ++ [d])
  | _, _, .nil, r => .cons r .nil
  | _, _, .cons a t, r => .cons a (dpa_snoc t r)
section
variable {X : Cx} {pins : List (Addr × Obj)} {σ : L2.St} {H : Hp} {A' : Around}
theorem each_dp {Hj : Hp} {s : Shared} (I : Inv X pins σ Hj s) : ∀ {kv : List V} {ds : List PyData} {vs : List Value}, DpAll X.K Hj kv ds → Vals kv vs → PySem.W.EachIs (fun v k => ∃ as, Reads s.heap v k as) vs ds
  | _, _, _, .nil, .nil => .nil
  | _, _, _, .cons a t, .cons r u => .cons (Dp.reads I _ _ _ a r) (each_dp I t u)
/-- a call of the key's function at one item -/
def TurnL (X : Cx) (pins : List (Addr × Obj)) (σ : L2.St) (A' : Around) (H : Hp) (f : Addr) (lo : Obj) (v : Value) (k : List Int) : Prop :=
  ∀ (Hj : Hp) (s' : Shared), Gs X pins σ H f lo Hj s' → wpAny (model X.prog X.w) A' (call (.ref f) [v]) (fun u s'' => ∃ x Hj', RelV x u ∧ Dp X.K Hj' x (kL k) ∧ Gs X pins σ H f lo Hj' s'' ∧ Same Hj Hj' ∧ Un (frs X.stack) [] Hj Hj' s'.heap s''.heap) (fun _ _ => False) s'
set_option Elab.async true in
theorem srtL_rest {a kS f : Addr} {vs : List Value} {ks : List (List Int)} {s : Shared} {e1 : Nat} {lo : Obj} {H0 : Hp} {E : Value → Shared → Prop} {P : PySem.Fin → Shared → Prop} (Ma : Mine X pins a) (Mk : Mine X pins kS) (hka : kS ≠ a) (hfk : f ≠ kS)
    (G0 : Gs X pins σ H f lo H0 s) (na : H0 a = none) (nk : H0 kS = none) (hk0 : s.heap.get? kS = some (seqObj "list" #[] 0)) (ha0 : s.heap.get? a = some (seqObj "list" #[] e1)) (hlen : ks.length = vs.length) (hne : ∀ k, k ∈ ks → k ≠ []) (hZ : vs.length ≤ sizeLine) (hu : A'.units + 1 < cLine)
    (turn : ∀ (i : Nat) (v : Value) (k : List Int), vs[i]? = some v → ks[i]? = some k → TurnL X pins σ A' H f lo v k)
    (h : ∀ (Hj : Hp) (s' : Shared) (out : List Value) (h3 : Heap) (tk c : Nat), Gs X pins σ H f lo Hj s' → Hj a = none → Hj kS = none → (∀ b o, b ≠ a → b ≠ kS → s'.heap.get? b = some o → h3.get? b = some o) → h3.get? a = some (seqObj "list" out.toArray c) →
      PySem.W.KeyedOut false (ks.map kL) vs out → P (.done (.ret .none)) { s' with heap := h3, toks := tk }) :
    wpAny (model X.prog X.w) A' (ksk_rest a (.ref f) false vs.toArray e1 (.ref kS)) P E s := by
  unfold ksk_rest
  refine wpAny_bind (wpAny_rule ?_)
  first
    | rw [List.forIn_toArray]
    | skip
  refine wpAny_bind (ksk_fold (fun i s' => ∃ Hj kA e kv, Gs X pins σ H f lo Hj s' ∧ Hj a = none ∧ Hj kS = none ∧ s'.heap.get? kS = some (seqObj "list" kA e) ∧ s'.heap.get? a = some (seqObj "list" #[] e1) ∧ Vals kv kA.toList ∧ DpAll X.K Hj kv ((ks.take i).map kL)) vs 0 s
    ⟨H0, #[], 0, [], G0, na, nk, hk0, ha0, .nil, by rw [List.take_zero]; exact .nil⟩ ?step ?done)
  case step =>
    rintro j x s' hx ⟨Hj, kA, e, kv, G, na', nk', hk', ha', hv, hi⟩
    simp only [Nat.zero_add] at hi ⊢
    have hj : j < vs.length := (List.getElem?_eq_some_iff.mp hx).1
    obtain ⟨k, hkj⟩ : ∃ k, ks[j]? = some k := ⟨_, List.getElem?_eq_getElem (by omega)⟩
    have hz : kA.size ≤ vs.length := by
      have h1 := My.DpAll.len hi
      have h2 := Vals.length hv
      have h3 : kA.toList.length = kA.size := Array.length_toList
      rw [List.length_map, List.length_take] at h1
      omega
    refine wpAny_bind (wpAny_attempt (wpAny_mono (turn j x k hx hkj Hj s' G) (fun v s'' he => ?_) fun _ _ hF => hF.elim))
    obtain ⟨t, Hj', rt, dt, G', sj, U⟩ := he
    try dsimp only
    have hk2 : s''.heap.get? kS = some (seqObj "list" kA e) := U.keep kS _ hk' nk' Mk.f (by simp)
    have ha2 := U.keep a _ ha' na' Ma.f (by simp)
    have nk2 : Hj' kS = none := U.free kS _ hk' nk' (by simp)
    have na2 : Hj' a = none := U.free a _ ha' na' (by simp)
    have s1 := Heap.SameBut.update s''.heap kS (Obj.mapSeq (·.push (v)))
    obtain ⟨c2, hc2⟩ : ∃ c2, (s''.heap.update kS (Obj.mapSeq (·.push (v)))).get? kS = some (seqObj "list" (kA.push (v)) c2) := ⟨_, get?_update_seq hk2 (·.push (v))⟩
    have ek : ks.take (j + 1) = ks.take j ++ [k] := by rw [List.take_add_one, hkj]; simp
    have ea : (kA.push (v)).toList = kA.toList ++ [v] := by simp
    refine wpAny_bind (listUpdate_at hk2 rfl ?_ (Nat.le_trans hz hZ) (Nat.le_trans (Nat.le_of_eq (Array.size_push ..)) (Nat.succ_le_succ (Nat.le_trans hz hZ))))
    refine wpAny_pure ⟨rfl, Hj', _, c2, kv ++ [t], ⟨Mk.turned G'.I nk2 (fun b o hb e => (s1.2 b hb).trans e), G'.e, (s1.2 f hfk).trans G'.o, G'.n⟩, na2, nk2, hc2, (s1.2 a hka.symm).trans ha2, ?_, ?_⟩
    · rw [ea]
      exact vals_snoc hv rt
    · rw [ek, List.map_append]
      exact dpa_snoc (DpAll.same sj hi) dt
  case done =>
    rintro s' ⟨Hj, kA, e, kv, G, na', nk', hk', ha', hv, hi⟩
    have e3 : ks.take (0 + vs.length) = ks := List.take_of_length_le (by omega)
    rw [e3] at hi
    have hsz : kA.size = vs.length := by
      have h1 := My.DpAll.len hi
      have h2 := Vals.length hv
      have h3 : kA.toList.length = kA.size := Array.length_toList
      rw [List.length_map] at h1
      omega
    try dsimp only
    refine wpAny_bind (listItems_at hk' rfl ?_)
    refine PySem.W.keyH_end (κ := PySem.W.dataKind s'.heap (ks.map kL)) (h₁ := hidT s'.heap (fun b => if b = kS then some (.lst []) else none)) (fun b o _ e => (of_hidT e).1) ?_ hk' ha' hka (PySem.W.SortsAt.data (each_dp G.I hi hv) (alikeL ks) (sortableL ks hne) (fun d hd => ?_)) hsz hZ (fun h3 tk3 c k3 n3 => ?_)
    · cases q : (hidT s'.heap (fun b => if b = kS then some (.lst []) else none)).get? kS with
      | none => rfl
      | some o =>
        have := (of_hidT q).2
        simp at this
    · obtain ⟨n, _, rfl⟩ := List.mem_map.1 hd
      have : (kL n).depth ≤ 1 := depthL n
      omega
    · exact h Hj s' _ h3 tk3 c G na' nk' (fun b o hb hk e => k3 b o hb (hidT_get e (by simp [hk]))) n3 ⟨s'.heap, kA.toList, alikeL ks, rfl, each_dp G.I hi hv⟩
in #guard_msgs in universe u_z
end
end My
namespace My
open PySem L2 PyProof.Rows LamX NdefX
section
variable {X : Cx} {pins : List (Addr × Obj)} {σ : L2.St} {H : Hp} {A' : Around}
set_option Elab.async true in
theorem srtL_tree {a f : Addr} {vs : List Value} {ks : List (List Int)} {s : Shared} {n0 : Nat} {lo : Obj} {H0 : Hp} {E : Value → Shared → Prop} {P : PySem.Fin → Shared → Prop} (Ma : Mine X pins a) (hfa : f ≠ a)
    (G0 : Gs X pins σ H f lo H0 s) (na : H0 a = none) (ho : s.heap.get? a = some (seqObj "list" vs.toArray n0)) (hlen : ks.length = vs.length) (hne : ∀ k, k ∈ ks → k ≠ []) (hZ : vs.length ≤ sizeLine) (hu : A'.units + 1 < cLine)
    (turn : ∀ (i : Nat) (v : Value) (k : List Int), vs[i]? = some v → ks[i]? = some k → TurnL X pins σ A' H f lo v k)
    (h : ∀ (Hj : Hp) (s' : Shared) (out : List Value) (h3 : Heap) (tk c kS : Nat), Gs X pins σ H f lo Hj s' → Hj a = none → Hj kS = none → Mine X pins kS → (∀ b o, b ≠ a → b ≠ kS → s'.heap.get? b = some o → h3.get? b = some o) → h3.get? a = some (seqObj "list" out.toArray c) →
      PySem.W.KeyedOut false (ks.map kL) vs out → P (.done (.ret .none)) { s' with heap := h3, toks := tk }) :
    wpAny (model X.prog X.w) A' (ksk_tree a (.ref f) false) P E s := by
  have ha : a < s.heap.objs.size := Heap.lt_size ho
  obtain ⟨e1, ho1⟩ : ∃ e1, (s.heap.update a (Obj.mapSeq fun _ => (#[] : Array Value))).get? a = some (seqObj "list" #[] e1) := ⟨_, get?_update_seq ho fun _ => #[]⟩
  have hkS : ((s.heap.update a (Obj.mapSeq fun _ => (#[] : Array Value))).push (seqObj "tuple" vs.toArray 0)).objs.size = s.heap.objs.size + 1 := by rw [size_push', Heap.size_update]
  unfold ksk_tree
  refine wpAny_bind (listItems_at ho rfl ?_)
  refine wpAny_bind (listUpdate_at ho rfl ?_ (by rw [List.size_toArray]; exact hZ) (Nat.zero_le _))
  refine wpAny_bind (seqEpoch_at ho1 rfl ?_)
  refine wpAny_bind (wpAny_newTuple ?_ (by show vs.length ≤ _; exact hZ))
  refine wpAny_bind (wpAny_newList ?_ (Nat.zero_le _))
  refine wpAny_holding ?_
  have s1 := Heap.SameBut.update s.heap a (Obj.mapSeq fun _ => (#[] : Array Value))
  have kp : ∀ b o, b ≠ a → s.heap.get? b = some o → (((s.heap.update a (Obj.mapSeq fun _ => (#[] : Array Value))).push (seqObj "tuple" vs.toArray 0)).push (seqObj "list" #[] 0)).get? b = some o := fun b o hb q =>
    Heap.get?_push_of_some _ (Heap.get?_push_of_some _ ((s1.2 b hb).trans q))
  have Mk : Mine X pins ((s.heap.update a (Obj.mapSeq fun _ => (#[] : Array Value))).push (seqObj "tuple" vs.toArray 0)).objs.size := Mine.new G0.I (by rw [hkS]; exact Nat.le_succ _)
  have fk : f ≠ ((s.heap.update a (Obj.mapSeq fun _ => (#[] : Array Value))).push (seqObj "tuple" vs.toArray 0)).objs.size := fun z => by
    have q := Heap.lt_size G0.o
    rw [z, hkS] at q
    exact Nat.lt_irrefl _ (Nat.lt_of_lt_of_le (Nat.lt_succ_self _) (Nat.le_of_lt q))
  refine srtL_rest (s := { s with heap := ((s.heap.update a (Obj.mapSeq fun _ => (#[] : Array Value))).push (seqObj "tuple" vs.toArray 0)).push (seqObj "list" #[] 0) }) Ma Mk (by rw [hkS]; exact Nat.ne_of_gt (Nat.lt_succ_of_lt ha)) fk
    ⟨Ma.turned G0.I na kp, G0.e, kp _ _ hfa G0.o, G0.n⟩ na (G0.I.hok.fresh (by rw [hkS]; exact Nat.le_succ _)) (Heap.get?_push_size _ rfl) (Heap.get?_push_of_some _ (Heap.get?_push_of_some _ ho1)) hlen hne hZ hu turn (fun Hj s' out h3 tk c G n1 n2 k3 n3 ko => h Hj s' out h3 tk c _ G n1 n2 Mk k3 n3 ko)
in #guard_msgs in universe u_z
theorem each_zipL : ∀ {xs : List V} {us : List Value} {ks : List (List Int)}, Vals xs us → ks.length = xs.length → PySem.W.EachIs (fun (u : Value) (p : V × List Int) => RelV p.1 u) us (xs.zip ks)
  | _, _, [], .nil, _ => .nil
  | _, _, _ :: _, .nil, h => by simp at h
  | _, _, [], .cons _ _, h => by simp at h
  | _, _, _ :: _, .cons r t, h => .cons r (each_zipL t (by simpa using h))
theorem each_valsL : ∀ {us : List Value} {ps : List (V × List Int)}, PySem.W.EachIs (fun (u : Value) (p : V × List Int) => RelV p.1 u) us ps → Vals (ps.map Prod.fst) us
  | _, _, .nil => .nil
  | _, _, .cons r t => .cons r (each_valsL t)
set_option Elab.async true in
/-- sorted(xs, key=f): f's calls keep all and give whole numbers -/
theorem srtL_sorted {l f : Addr} {xs : List V} {ks : List (List Int)} {s : Shared} {lo : Obj} {Q : VK} (hA : A' = X.A.in1.in1) (I : Inv X pins σ H s) (hl : SqL X.K H l xs) (ho : s.heap.get? f = some lo) (hn : H f = none) (hlen : ks.length = xs.length) (hne : ∀ k, k ∈ ks → k ≠ []) (hu : X.A.units + 64 < cLine)
    (turn : ∀ (i : Nat) (x : V) (v : Value) (k : List Int), xs[i]? = some x → RelV x v → ks[i]? = some k → TurnL X pins σ A' H f lo v k)
    (q : ∀ (Hj : Hp) (p : Addr) (ps : List (V × List Int)), Same H Hj → Hj p = none → H p = none → ps.Perm (xs.zip ks) → ps.Pairwise (fun x y => x.2 ≤ y.2) → Q (.ref p) (upd Hj p (.lst (ps.map Prod.fst)))) :
    wpAny (model X.prog X.w) X.A (call (.builtin "sorted") [.ref l] [(Str.ofString "key", .ref f)]) (EP X pins σ Q) X.xe s := by
  subst hA
  obtain ⟨its, rv, hls, hz⟩ := I.list hl
  have hz2 : its.length ≤ sizeLine := by rw [← rv.length]; exact hz
  refine PySem.W.sorted_of_sort hls.isList hz2 (ksk_s1 _ _) (fun _ => ksk_l1 _ _) fun E' => ?_
  rw [ksk_t1]
  have Ma : Mine X pins (s.heap.objs.size + 1) := Mine.new I (Nat.le_succ _)
  have na : H (s.heap.objs.size + 1) = none := I.hok.fresh (Nat.le_succ _)
  have fa : f ≠ s.heap.objs.size + 1 := fun z => by
    have q := Heap.lt_size ho
    rw [z] at q
    exact Nat.lt_irrefl _ (Nat.lt_of_lt_of_le (Nat.lt_succ_self _) (Nat.le_of_lt q))
  refine srtL_tree (s := { s with heap := PySem.W.copyHeap s.heap its }) (H0 := H) Ma fa ⟨I.kept (fun b o e => PySem.W.copyHeap_old e), Same.refl _, PySem.W.copyHeap_old ho, hn⟩ na (PySem.W.copyHeap_at s.heap its) (by rw [hlen, rv.length]) hne hz2 (by show X.A.units + 1 + 1 + 1 < cLine; omega) (fun i v k h1 h2 => ?_) (fun Hj s' out h3 tk c kS G n1 n2 Mk k3 n3 ko => ⟨rfl, ?_⟩)
  · obtain ⟨x, hx, rx⟩ : ∃ x, xs[i]? = some x ∧ RelV x v := by
      have hi : i < xs.length := by rw [rv.length]; exact (List.getElem?_eq_some_iff.mp h1).1
      obtain ⟨u, hu', ru⟩ := rv.get (List.getElem?_eq_getElem hi)
      rw [h1] at hu'
      cases hu'
      exact ⟨_, List.getElem?_eq_getElem hi, ru⟩
    exact turn i x v k hx rx h2
  · have hk : ks.map kL = (xs.zip ks).map (fun p : V × List Int => kL p.2) := by
      rw [show (fun p : V × List Int => kL p.2) = kL ∘ Prod.snd from rfl, ← List.map_map, List.map_snd_zip (by omega)]
    rw [hk] at ko
    have ep := PySem.W.keyedOut_each (fun p : V × List Int => kL p.2) ko (each_zipL rv hlen)
    rw [leL (fun p : V × List Int => p.2)] at ep
    have pm := List.mergeSort_perm (xs.zip ks) (fun a b : V × List Int => decide (a.2 ≤ b.2))
    have pw := List.pairwise_mergeSort (le := fun a b : V × List Int => decide (a.2 ≤ b.2)) (fun a b c h1 h2 => by simp only [decide_eq_true_eq] at *; exact List.le_trans h1 h2) (fun a b => by simp only [Bool.or_eq_true, decide_eq_true_eq]; exact List.le_total _ _) (xs.zip ks)
    generalize (xs.zip ks).mergeSort (fun a b : V × List Int => decide (a.2 ≤ b.2)) = ps at ep pm pw
    have lp : (ps.map Prod.fst).length ≤ sizeLine := by
      rw [List.length_map, pm.length_eq, List.length_zip]
      omega
    exact ⟨.ref _, upd Hj (s.heap.objs.size + 1) (.lst (ps.map Prod.fst)), Ma.two Mk G.I n1 n2 (fun b o h1 h2 e => k3 b o h1 h2 e) ⟨lp, out, c, each_valsL ep, n3⟩, rfl, q Hj _ ps G.e n1 na pm (pw.imp fun h => by simpa using h)⟩
in #guard_msgs in universe u_z
end
end My
namespace My
open PySem L2 PyProof.Rows LamX NdefX
/-- sorted(xs, key=lambda x: ..): tb reads the lambda's body -/
def tSrtL (K : PySem.W.Frag) (T : List (Addr × Str)) (N : List Str) (js : List Nat) (tb : TE) (t : TA) : TE := fun σ H Q => t σ H fun vs H1 => Tabs T H1 ∧ ∃ (l : Addr) (xs : List V) (ks : List (List Int)), vs = [.ref l] ∧ H1 l = some (.lst xs) ∧ ks.length = xs.length ∧ (∀ k, k ∈ ks → k ≠ []) ∧
  (∀ (i : Nat) (x : V) (k : List Int) (Hj : Hp), xs[i]? = some x → ks[i]? = some k → ExtN H1 Hj → tb (startF N [x] (js.map (slotAt σ))) Hj (fun v H' => Dp K H' v (kL k) ∧ Same Hj H')) ∧
  ∀ (H2 : Hp) (p : Addr) (ps : List (V × List Int)), ExtN H1 H2 → Tabs T H2 → (∀ b o, H1 b = some o → (∀ qs, o ≠ .tbl qs) → b ≠ p) → H2 p = some (.lst (ps.map Prod.fst)) → ps.Perm (xs.zip ks) → ps.Pairwise (fun x y => x.2 ≤ y.2) → Q (.ref p) H2
section
variable {X : Cx} {T : List (Addr × Str)} {N fr : List Str} {js : List Nat} {tb : TE} {t : TA} {e body : Expr} {params : Arguments} {scope : Scope} {p lpos kpos pos : Pos} {c P : Addr} {x : Str} {k : Nat}
set_option Elab.async true in
theorem pe_srtL (hg : Gl X "sorted") (hm : X.mg "sorted" = none) (ha : PA X [e] t) (TB : TabB X.base X.mg c P) (hcode : X.env.code = .ref c) (hmT : (P, X.env.qual ++ "<lambda>") ∈ T) (hu : ∀ p ∈ T, p.1 = P → p.2 = X.env.qual ++ "<lambda>")
    (hdef : defaultsOf params X.env = ([], [])) (hfree : ∀ y ∈ scope.names, y.2 = .free → X.env.scope.names.lookup y.1 = some .cell ∨ X.env.scope.names.lookup y.1 = some .free) (S : NScope N [x] fr scope) (hfr : ∀ y ∈ fr, (y, NameKind.free) ∈ scope.names) (hjs : js.map (fun j => X.N[j]?) = fr.map some)
    (hb : ∀ (q : Str) (cl : List (Str × Addr)) (pm cv ctv : Value) (us : List Value), us.length = 1 → bindArgs (PySem.W.kla_fn "<lambda>" q params body scope cl pm cv ctv) ⟨us, []⟩ = pure ([x].zip us)) (hr : Room (k + 3) X.A)
    (hbody : ∀ (q : Str) (cl : List (Str × Addr)) (f c' : Addr) (A : Around) (outer : List Env) (s : Shared) (H : Hp) (E : XK), Room k (A.deeper (envF ⟨"<lambda>", q, params, [], scope, cl, c'⟩ f s.heap.objs.size)) → PE (ncx C8.CX0 X.prog X.w X.K X.mg X.base N ⟨"<lambda>", q, params, [], scope, cl, c'⟩ f A outer s H E) body tb)
    (hv : bootBuiltins "sorted" = some (.builtin "sorted") := by rfl) (hn : ("sorted" : Str) ≠ "__name__" := by decide) (hdb : (("sorted" : Str) == ("__debug__" : Str)) = false := by decide)
    (he : backTo pos (starEach [e] X.env) = (false, eval e X.env) :: backTo pos (starEach [] X.env) := by rfl) (hpl : (backTo pos (starEach [e] X.env)).any (·.1) = false := by rfl) :
    PE X (.Call (.Name "sorted" p) [e] [⟨some "key", .Lambda params body scope lpos, kpos⟩] pos) (tSrtL X.K T N js tb t) := by
  refine ⟨fun pins s σ H Q I h => ?_⟩
  refine wpAny_Call_Name_kw (ld_blt I hg hm hv ?_ hn hdb)
  refine PyProof.Rows.callWith_kw (thn (ha.run pos pins s σ H _ I h) fun us s1 ⟨vs, H1, I1, r1, hT, l, xs, ks, e1, hl, hlen, hne, hturn, hQ⟩ => ?_) he hpl (by rfl) (by rfl)
  subst e1
  have hf2 : ∀ y ∈ scope.names, y.2 = .free → ∃ c, X.env.cells.lookup y.1 = some c := fun y hy e => (hfree y hy e).elim (fun z => I1.ok.has _ (.inl z)) fun z => I1.ok.has _ (.inr z)
  show wpAny _ _ (evalAll ((do let v ← eval (.Lambda params body scope lpos) X.env; standAt pos; pure v) :: [])) _ _ s1
  refine wpAny_evalAll_cons (wpAny_bind (lam_make2 I1 TB hcode hmT hu hT hdef hf2 fun f c' pm ctv H2 s2 I2 eN T2 hf hfn hfrm hco => wpAny_bind (wpAny_standAt (wpAny_pure (wpAny_evalAll_nil ?_)))))
  obtain rfl := Vals.ref1 r1
  show wpAny (model X.prog X.w) X.A (call (.builtin "sorted") [.ref l] [(Str.ofString "key", .ref f)]) (EP X pins σ Q) X.xe s2
  have hl2 : H2 l = some (.lst xs) := eN _ _ hl (fun _ z => nomatch z)
  refine srtL_sorted rfl I2 (SqL.of hl2) hf hfn hlen hne hr.units (fun i y v kk h1 rx h2 Hj s' G => ?_) (fun Hj p ps sm n1 n2 pm pw => ?_)
  · have hj : ExtN H1 Hj := fun b o e n => G.e b o (eN b o e n)
    have C : CellsAt (cloFrom X.env.cells scope.names []) fr (js.map (slotAt σ)) s'.heap Hj := cells_of G.I (Caps.made G.I.ok hfree hfr hjs)
    refine wpAny_call (codeAny_mono (lam_run (CX := C8.CX0) (F := ⟨"<lambda>", X.env.qual ++ "<lambda>", params, [], scope, cloFrom X.env.cells scope.names [], c'⟩) (ws := js.map (slotAt σ)) (Q := fun v H' => Dp X.K H' v (kL kk) ∧ Same Hj H') (E := C8.E0) (k := k) (fr := fr) (N := N) (ps := [x]) (vs := [y]) (us := [v]) (base := X.base) (K := X.K) (mg := X.mg) (outer := X.stack) (pm := pm) (ctv := ctv)
      S (fun pm ctv us h => hb _ _ pm _ ctv us h) hr.in1.in1 G.I.env0.in1.in1 G.o (G.e _ _ hco) C (.cons rx .nil) rfl (fun hr2 => ⟨tb, hbody _ _ f _ _ _ _ _ _ hr2, hturn i y kk Hj h1 h2 hj⟩)) fun r s'' hq => ?_)
    cases r with
    | error e => exact hq
    | ok fl =>
      cases fl with
      | ret u =>
        obtain ⟨v', H', os, bare, un, hok, rv, q1, q2⟩ := hq
        exact ⟨v', H', rv, q1, ⟨G.I.call' os un hok bare (fun b z => absurd z (by simp)), G.e.trans q2, un.keep f _ G.o G.n hfrm (by simp), un.free f _ G.o G.n (by simp)⟩, q2, un⟩
      | next => exact False.elim hq
      | brk => exact False.elim hq
      | cont => exact False.elim hq
  · have up : ∀ b o, H2 b = some o → upd Hj p (.lst (ps.map Prod.fst)) b = some o := fun b o e => by
      rw [upd_ne (fun z => by rw [z, n2] at e; cases e)]
      exact sm b o e
    refine hQ _ p ps (fun b o e n => up b o (eN b o e n)) (T2.ext up) (fun b o e n z => ?_) upd_same pm pw
    rw [← z, eN b o e n] at n2
    cases n2
in #guard_msgs in universe u_z
end
end My
namespace My
open PySem L2 PyProof.Rows LamX NdefX
theorem w_srtL {K : PySem.W.Frag} {T : List (Addr × Str)} {N : List Str} {js : List Nat} {tb : TE} {t : TA} {σ : L2.St} {H : Hp} {Q : VK} (h : t σ H fun vs H1 => Tabs T H1 ∧ ∃ (l : Addr) (xs : List V) (ks : List (List Int)), vs = [.ref l] ∧ H1 l = some (.lst xs) ∧ ks.length = xs.length ∧ (∀ k, k ∈ ks → k ≠ []) ∧
    (∀ (i : Nat) (x : V) (k : List Int) (Hj : Hp), xs[i]? = some x → ks[i]? = some k → ExtN H1 Hj → tb (startF N [x] (js.map (slotAt σ))) Hj (fun v H' => Dp K H' v (kL k) ∧ Same Hj H')) ∧
    ∀ (H2 : Hp) (p : Addr) (ps : List (V × List Int)), ExtN H1 H2 → Tabs T H2 → (∀ b o, H1 b = some o → (∀ qs, o ≠ .tbl qs) → b ≠ p) → H2 p = some (.lst (ps.map Prod.fst)) → ps.Perm (xs.zip ks) → ps.Pairwise (fun x y => x.2 ≤ y.2) → Q (.ref p) H2) : tSrtL K T N js tb t σ H Q := h
end My

set_option Elab.async false
set_option linter.all false
set_option maxRecDepth 100000
set_option maxHeartbeats 2000000
namespace My
open PySem L2 PyProof.Rows LamX NdefX
theorem flat_step {rows : List (List V)} {i : Nat} {r : List V} (h : rows[i]? = some r) : (rows.take (i + 1)).flatten = (rows.take i).flatten ++ r := by
  rw [List.take_add_one, h]
  simp
theorem flat_le : ∀ (rows : List (List V)) (i : Nat), (rows.take i).flatten.length ≤ rows.flatten.length
  | [], i => by simp
  | r :: rows, 0 => by simp
  | r :: rows, i + 1 => by
    have := flat_le rows i
    simp only [List.take_succ_cons, List.flatten_cons, List.length_append]
    omega
theorem yes_if {σ : L2.St} {H : Hp} {A B : Hp → Prop} (h : A H) : tYes σ H fun b H3 => if b = true then A H3 else B H3 := by
  show if true = true then A H else B H
  rw [if_pos rfl]
  exact h
set_option Elab.async true in
/-- [x for row in rows for x in row], rows a list of tuples -/
theorem w_flat {K : PySem.W.Frag} {σ : L2.St} {H : Hp} {l : Addr} {xs : List V} {rows : List (List V)} {i0 j j1 : Nat} {vs vs1 : List Nat} {Q : VK} (h0 : σ[i0]? = some (some (.ref l))) (hl : SqL K H l xs) (hlen : rows.length = xs.length)
    (hr : ∀ (i : Nat) (x : V), xs[i]? = some x → ∃ (a : Addr) (r : List V), x = V.ref a ∧ rows[i]? = some r ∧ SqT K H a r) (hn : rows.flatten.length < 100000)
    (hw : ∀ x : V, wipe ((wipe σ vs).set j (some x)) vs = wipe σ vs) (hj : ∀ x : V, ((wipe σ vs).set j (some x))[j]? = some (some x))
    (hw1 : ∀ x y : V, wipe ((wipe ((wipe σ vs).set j (some x)) vs1).set j1 (some y)) vs1 = wipe ((wipe σ vs).set j (some x)) vs1) (hj1 : ∀ x y : V, ((wipe ((wipe σ vs).set j (some x)) vs1).set j1 (some y))[j1]? = some (some y))
    (h : ∀ (D : Addr) (H1 : Hp), H D = none → Same H H1 → H1 D = some (.lst rows.flatten) → Q (.ref D) H1) :
    tLc2 (iList K (tVar i0)) (gName j) tYes (iTup K (tVar j)) (gName j1) tYes (tVar j1) vs vs1 σ H Q := by
  refine ⟨.ref l, h0, l, rfl, ⟨xs, hl⟩, fun D nD => ?_⟩
  refine ⟨fun i m H' => m = xs.length - i ∧ i ≤ xs.length ∧ Same H H' ∧ H' D = some (.lst (rows.take i).flatten), ⟨xs.length, by simp, Nat.zero_le _, Same.new nD, by rw [upd_same]; simp⟩, ?_⟩
  rintro i m H1 ⟨rfl, hi, s1, hD1⟩
  have q1 : SqL K H1 l xs := s1.seq hl
  by_cases hlt : i < xs.length
  · refine .inr ⟨⟨xs, xs[i], q1, by simp [hlt]⟩, fun H2 => Same H H2 ∧ H2 D = some (.lst (rows.take (i + 1)).flatten), fun H2 ⟨a, b⟩ => ⟨xs.length - (i + 1), by omega, rfl, hlt, a, b⟩, fun x H2 y => ?_⟩
    obtain ⟨rfl, y⟩ := y
    obtain ⟨a, r, rfl, er, ha⟩ := hr i x (y xs q1)
    have ha1 : SqT K H2 a r := Same.tup s1 ha
    refine ⟨hw _, yes_if ?_⟩
    refine ⟨.ref a, hj _, a, rfl, ⟨r, ha1⟩, ?_⟩
    refine ⟨fun k m H' => m = r.length - k ∧ k ≤ r.length ∧ Same H H' ∧ H' D = some (.lst ((rows.take i).flatten ++ r.take k)), ⟨r.length, by simp, Nat.zero_le _, s1, by rw [hD1]; simp⟩, ?_⟩
    rintro k m H3 ⟨rfl, hk, s3, hD3⟩
    have ha3 : SqT K H3 a r := Same.tup s3 ha
    by_cases hlk : k < r.length
    · refine .inr ⟨⟨r, r[k], ha3, by simp [hlk]⟩, fun H4 => Same H H4 ∧ H4 D = some (.lst ((rows.take i).flatten ++ r.take (k + 1))), fun H4 ⟨a, b⟩ => ⟨r.length - (k + 1), by omega, rfl, hlk, a, b⟩, fun x H4 y => ?_⟩
      obtain ⟨rfl, y⟩ := y
      have ex := y r ha3
      refine ⟨hw1 _ _, yes_if ?_⟩
      refine ⟨x, hj1 _ _, _, hD3, ?_, Same.mut s3 nD, ?_⟩
      · have e1 := flat_le rows (i + 1)
        rw [flat_step er, List.length_append] at e1
        refine Nat.lt_of_lt_of_le (m := 100000) ?_ (by decide)
        rw [List.length_append, List.length_take]
        omega
      · rw [upd_same, List.append_assoc, List.take_add_one, ex]
        rfl
    · have e : k = r.length := by omega
      subst e
      refine .inl ⟨⟨r, ha3, Nat.le_refl _⟩, s3, ?_⟩
      rw [hD3, List.take_length, flat_step er]
  · have e : i = xs.length := by omega
    subst e
    refine .inl ⟨⟨xs, q1, Nat.le_refl _⟩, h D H1 nD s1 ?_⟩
    rw [hD1, ← hlen, List.take_length]
in #guard_msgs in universe u_z
end My
namespace My
open PySem L2 PyProof.Rows LamX NdefX
/-! points in order -/
instance : DecidableEq V3 := fun p q => decidable_of_iff (p.x = q.x ∧ p.y = q.y ∧ p.z = q.z) ⟨fun h => V3.ext' h.1 h.2.1 h.2.2, fun h => h ▸ ⟨rfl, rfl, rfl⟩⟩
def lt3 (p q : V3) : Prop := p.x < q.x ∨ (p.x = q.x ∧ (p.y < q.y ∨ (p.y = q.y ∧ p.z < q.z)))
def le3 (p q : V3) : Prop := lt3 p q ∨ p = q
theorem lt3_irr (p : V3) : ¬ lt3 p p := by
  unfold lt3
  grind
theorem lt3_trans {p q r : V3} (h : lt3 p q) (h' : lt3 q r) : lt3 p r := by
  unfold lt3 at *
  grind
theorem tri3 (p q : V3) : lt3 p q ∨ p = q ∨ lt3 q p := by
  unfold lt3
  rcases rat_tri3 p.x q.x with h | h | h
  · exact .inl (.inl h)
  · rcases rat_tri3 p.y q.y with h2 | h2 | h2
    · exact .inl (.inr ⟨h, .inl h2⟩)
    · rcases rat_tri3 p.z q.z with h3 | h3 | h3
      · exact .inl (.inr ⟨h, .inr ⟨h2, h3⟩⟩)
      · exact .inr (.inl (V3.ext' h h2 h3))
      · exact .inr (.inr (.inr ⟨h.symm, .inr ⟨h2.symm, h3⟩⟩))
    · exact .inr (.inr (.inr ⟨h.symm, .inl h2⟩))
  · exact .inr (.inr (.inl h))
theorem le3_lt {p q : V3} (h : le3 p q) (n : q ≠ p) : lt3 p q := h.elim id fun e => absurd e.symm n
theorem le3_trans {p q r : V3} (h : le3 p q) (h' : le3 q r) : le3 p r := by
  rcases h with h | rfl
  · rcases h' with h' | rfl
    · exact .inl (lt3_trans h h')
    · exact .inl h
  · exact h'
def keyQ (m : Nat) (q : Rat) : Int := (q.num * 2 ^ (2 * m)).fdiv (q.den : Int)
def keyV (m : Nat) (p : V3) : List Int := [keyQ m p.x, keyQ m p.y, keyQ m p.z]
def DenV (m : Nat) (p : V3) : Prop := p.x.den < 2 ^ m ∧ p.y.den < 2 ^ m ∧ p.z.den < 2 ^ m
theorem keyV_lt {p q : V3} {m : Nat} (hp : DenV m p) (hq : DenV m q) (h : lt3 p q) : keyV m p < keyV m q := by
  unfold keyV
  obtain ⟨p1, p2, p3⟩ := hp
  obtain ⟨q1, q2, q3⟩ := hq
  simp only [List.cons_lt_cons_iff]
  rcases h with h | ⟨e, h | ⟨e2, h⟩⟩
  · exact .inl (key_lt p1 q1 h)
  · exact .inr ⟨by rw [e], .inl (key_lt p2 q2 h)⟩
  · exact .inr ⟨by rw [e], .inr ⟨by rw [e2], .inl (key_lt p3 q3 h)⟩⟩
theorem sorted_keyV {m : Nat} {rs : List V3} (h : (rs.map (keyV m)).Pairwise (· ≤ ·)) (hd : ∀ p, p ∈ rs → DenV m p) : rs.Pairwise le3 := by
  rw [List.pairwise_map] at h
  refine List.Pairwise.imp_of_mem (fun {p q} hp hq hk => ?_) h
  rcases tri3 p q with z | z | z
  · exact .inl z
  · exact .inr z
  · exact absurd hk (List.not_le.2 (keyV_lt (hd q hq) (hd p hp) z))
theorem eqv_vq (p q : V3) : PyData.eqv (vD p) (vD q) = decide (p = q) := by
  rw [eqv_v, Bool.eq_iff_iff]
  simp only [decide_eq_true_eq]
  exact ⟨fun h => V3.ext' h.1 h.2.1 h.2.2, fun h => h ▸ ⟨rfl, rfl, rfl⟩⟩
theorem depth_vD (p : V3) : (vD p).depth = 2 := by simp [vD, qD, PyData.depth, PyData.depthAll]
theorem lay_vD (p : V3) : PyData.canLay0 (vD p) = true := by simp [vD, qD, PyData.canLay0, PyData.canLayAll0]
theorem lay_vs : ∀ ts : List V3, PyData.canLayAll0 (ts.map vD) = true
  | [] => by simp [PyData.canLayAll0]
  | q :: ts => by rw [List.map_cons, PyData.canLayAll0, lay_vD, lay_vs ts]; rfl
theorem depth_vs : ∀ ts : List V3, PyData.depthAll (ts.map vD) ≤ 2
  | [] => by simp [PyData.depthAll]
  | q :: ts => by rw [List.map_cons, PyData.depthAll.eq_2, depth_vD]; have := depth_vs ts; omega
theorem shaped_vs (ts : List V3) : SeqAt.shaped (.list (ts.map vD)) = true := by
  unfold SeqAt.shaped
  rw [Bool.and_eq_true]
  refine ⟨by rw [PyData.canLay0]; exact lay_vs ts, decide_eq_true ?_⟩
  rw [PyData.depth]
  have := depth_vs ts
  omega
theorem shaped_v (q : V3) : SeqAt.shaped (vD q) = true := by
  unfold SeqAt.shaped
  rw [Bool.and_eq_true]
  exact ⟨lay_vD q, decide_eq_true (by rw [depth_vD]; decide)⟩
theorem any_vD (q : V3) : ∀ ts : List V3, ((ts.map vD).any fun z => PyData.eqv z (vD q)) = decide (q ∈ ts)
  | [] => by simp
  | t :: ts => by
    rw [List.map_cons, List.any_cons, any_vD q ts, eqv_vq, Bool.eq_iff_iff]
    simp only [Bool.or_eq_true, decide_eq_true_eq, List.mem_cons]
    exact ⟨fun h => h.imp Eq.symm id, fun h => h.imp Eq.symm id⟩
theorem eqv_vs : ∀ ts ss : List V3, PyData.eqv (.list (ts.map vD)) (.list (ss.map vD)) = decide (ts = ss) := by
  intro ts ss
  rw [eqv_L]
  induction ts generalizing ss with
  | nil => cases ss with
    | nil => rw [List.map_nil, eqv_N]; simp
    | cons s ss => simp [PyData.eqvAll]
  | cons t ts ih => cases ss with
    | nil => simp [PyData.eqvAll]
    | cons s ss =>
      rw [List.map_cons, List.map_cons, eqv_C, eqv_vq, ih, Bool.eq_iff_iff]
      simp
section
variable {K : PySem.W.Frag} {H H1 : Hp} {a l u p st : Addr} {q : V3} {ts ss qs : List V3} {Q : VK} {o : HO} {xs : List V}
theorem r_niV (ha : Vc K H a q) (hl : VL K H l ts) (h : Q (.bl (!decide (q ∈ ts))) H) : rNotInD K (.ref a) (.ref l) H Q := ⟨_, _, ha.dp, hl.dp, shaped_v q, shaped_vs ts, by rw [any_vD]; exact h⟩
theorem r_neVL (hl : VL K H l ts) (hu : VL K H u ss) (h : Q (.bl (!decide (ts = ss))) H) : rNeD K (.ref l) (.ref u) H Q := ⟨_, _, hl.dp, hu.dp, shaped_vs ts, shaped_vs ss, by rw [eqv_vs]; exact h⟩
theorem VL.ext (e : ExtN H H1) (h : VL K H l qs) : VL K H1 l qs := let ⟨acc, a, b⟩ := h; ⟨acc, e.lst a, b.tk e.tk⟩
theorem VL.ne (hs : My.St K H st) (h : VL K H l qs) : l ≠ st := let ⟨acc, a, b⟩ := h; st_ne hs a b.notS
theorem VL.frt (e : FrT st H H1) (hs : My.St K H st) (h : VL K H l qs) : VL K H1 l qs := let ⟨acc, a, b⟩ := h; ⟨acc, e.keep _ _ (VL.ne hs h) a (by intro ps z; cases z), b.tk (tk_frt e hs)⟩
theorem VL.frn (e : FrN st H H1) (hs : My.St K H st) (h : VL K H l qs) : VL K H1 l qs := let ⟨acc, a, b⟩ := h; ⟨acc, e _ _ (VL.ne hs h) a (by intro ps z; cases z), b.tk (tk_frn e hs)⟩
theorem VL.updN (h : VL K H l qs) (n : l ≠ p) (hp : H p = some (.lst xs)) : VL K (upd H p o) l qs := let ⟨acc, a, b⟩ := h; ⟨acc, (upd_ne n).trans a, b.tk (TK.upd hp)⟩
def insV (qs : List V3) (i : Nat) (q : V3) : List V3 := qs.take i ++ [q] ++ qs.drop i
theorem VcL.ins (h : VcL K H xs qs) (z : Vc K H a q) (i : Nat) : VcL K H (xs.take i ++ [.ref a] ++ xs.drop i) (insV qs i q) := ((h.take i).snoc z).append (h.drop i)
theorem vs_snoc {n e : Nat} (h : ∀ q, q ∈ qs → VN n e q) (hq : VN n e q) : ∀ x, x ∈ qs ++ [q] → VN n e x := by
  intro x hx
  rcases List.mem_append.1 hx with hx | hx
  · exact h x hx
  · cases List.mem_singleton.1 hx
    exact hq
theorem insV_bn {n e i : Nat} (h : ∀ q, q ∈ qs → VN n e q) (hq : VN n e q) : ∀ x, x ∈ insV qs i q → VN n e x := by
  intro x hx
  unfold insV at hx
  rcases List.mem_append.1 hx with hx | hx
  · rcases List.mem_append.1 hx with hx | hx
    · exact h x (List.mem_of_mem_take hx)
    · cases List.mem_singleton.1 hx
      exact hq
  · exact h x (List.mem_of_mem_drop hx)
theorem insV_len {i : Nat} : (insV qs i q).length = qs.length + 1 := by
  unfold insV
  simp only [List.length_append, List.length_take, List.length_drop, List.length_singleton]
  omega
theorem VcL.cutQ {n e : Nat} (h : VcL K H xs qs) (hb : ∀ q, q ∈ qs → VN n e q) (lo hi : Option Int) : ∃ rs, VcL K H (cutV xs lo hi) rs ∧ (∀ q, q ∈ rs → VN n e q) ∧ rs.length ≤ qs.length :=
  ⟨_, (h.drop _).take _, fun q z => hb q (List.mem_of_mem_drop (List.mem_of_mem_take z)), by simp only [List.length_take, List.length_drop]; omega⟩
theorem VcL.pick {r : Int} (h : VcL K H xs qs) (h0 : 0 ≤ r) (h1 : r < (qs.length : Int)) : ∃ (a : Addr) (q : V3), atI xs r = some (.ref a) ∧ q ∈ qs ∧ Vc K H a q := by
  have hl := h.len
  obtain ⟨v, e, hv, e2⟩ := atI_in (xs := xs) h0 (by omega)
  obtain ⟨a, q, rfl, eq, s⟩ := h.get' e2
  exact ⟨a, q, e, List.mem_of_getElem? eq, s⟩
end
/-- the parts of points, one behind the other -/
def flatV (ps : List V3) : List Rat := ps.flatMap fun p => [p.x, p.y, p.z]
theorem flatV_len : ∀ ps : List V3, (flatV ps).length = 3 * ps.length
  | [] => rfl
  | p :: ps => by
    have := flatV_len ps
    unfold flatV at *
    simp only [List.flatMap_cons, List.length_append, List.length_cons, List.length_nil]
    omega
theorem flatV_mem {ps : List V3} {p : V3} (h : p ∈ ps) : p.x ∈ flatV ps ∧ p.y ∈ flatV ps ∧ p.z ∈ flatV ps := by
  unfold flatV
  refine ⟨List.mem_flatMap.2 ⟨p, h, ?_⟩, List.mem_flatMap.2 ⟨p, h, ?_⟩, List.mem_flatMap.2 ⟨p, h, ?_⟩⟩ <;> simp
theorem flatV_bn {ps : List V3} {n e : Nat} (h : ∀ p, p ∈ ps → VN n e p) : ∀ q, q ∈ flatV ps → BN n e q := by
  intro q hq
  obtain ⟨p, hp, hx⟩ := List.mem_flatMap.1 hq
  obtain ⟨h1, h2, h3⟩ := h p hp
  simp only [List.mem_cons, List.not_mem_nil, or_false] at hx
  rcases hx with rfl | rfl | rfl <;> assumption
set_option Elab.async true in
/-- the rows of a list of points -/
theorem rows_of {K : PySem.W.Frag} {H : Hp} {acc : List V} {ps : List V3} (h : VcL K H acc ps) : ∃ rows : List (List V), rows.length = acc.length ∧ (∀ (i : Nat) (x : V), acc[i]? = some x → ∃ (a : Addr) (r : List V), x = V.ref a ∧ rows[i]? = some r ∧ SqT K H a r) ∧ QtL K H rows.flatten (flatV ps) := by
  unfold VcL at h
  induction h with
  | nil => exact ⟨[], rfl, fun i x h => by simp at h, .nil⟩
  | cons r t ih =>
    obtain ⟨a, rfl, a0, a1, a2, h, h0, h1, h2⟩ := r
    obtain ⟨rows, e, hr, hq⟩ := ih
    refine ⟨[.ref a0, .ref a1, .ref a2] :: rows, by simp [e], fun i x hx => ?_, ?_⟩
    · cases i with
      | zero =>
        simp at hx
        exact ⟨a, _, hx.symm, rfl, h⟩
      | succ i => exact hr i x (by simpa using hx)
    · exact Paired.cons ⟨_, rfl, h0⟩ (Paired.cons ⟨_, rfl, h1⟩ (Paired.cons ⟨_, rfl, h2⟩ hq))
in #guard_msgs in universe u_z
end My
namespace My
open PySem L2 PyProof.Rows LamX NdefX
theorem cmp_eq {a b : Rat} {r : Int} (c1 : a < b → r = -1) (c2 : b < a → r = 1) (h : r = 0) : a = b := by
  rcases rat_tri3 a b with z | z | z
  · have := c1 z; omega
  · exact z
  · have := c2 z; omega
/-- what the first unlike part tells -/
structure Tel3 (p q : V3) (r : Int) : Prop where
  lt : lt3 p q → r = -1
  gt : lt3 q p → r = 1
  eq : p = q → r = 0
theorem tel_eq {p : V3} {q : V3} (h0 : p.x = q.x) (h1 : p.y = q.y) (h2 : p.z = q.z) : Tel3 p q 0 := by
  have e : p = q := V3.ext' h0 h1 h2
  subst e
  exact ⟨fun h => absurd h (lt3_irr _), fun h => absurd h (lt3_irr _), fun _ => rfl⟩
theorem tel_x {p q : V3} {r : Int} (c1 : p.x < q.x → r = -1) (c2 : q.x < p.x → r = 1) (c3 : p.x = q.x → r = 0) (hne : r ≠ 0) : Tel3 p q r := by
  have n : p.x ≠ q.x := fun e => hne (c3 e)
  exact ⟨fun h => h.elim c1 fun h => absurd h.1 n, fun h => h.elim c2 fun h => absurd h.1.symm n, fun h => absurd (h ▸ rfl) n⟩
set_option Elab.async true in
theorem tel_y {p q : V3} {r : Int} (e : p.x = q.x) (c1 : p.y < q.y → r = -1) (c2 : q.y < p.y → r = 1) (c3 : p.y = q.y → r = 0) (hne : r ≠ 0) : Tel3 p q r := by
  have n : p.y ≠ q.y := fun e => hne (c3 e)
  have i1 : ¬ p.x < q.x := by rw [e]; exact Rat.lt_irrefl
  have i2 : ¬ q.x < p.x := by rw [e]; exact Rat.lt_irrefl
  exact ⟨fun h => h.elim (fun h => absurd h i1) fun h => h.2.elim c1 fun h => absurd h.1 n, fun h => h.elim (fun h => absurd h i2) fun h => h.2.elim c2 fun h => absurd h.1.symm n, fun h => absurd (h ▸ rfl) n⟩
in #guard_msgs in universe u_z
set_option Elab.async true in
theorem tel_z {p q : V3} {r : Int} (e : p.x = q.x) (e2 : p.y = q.y) (c1 : p.z < q.z → r = -1) (c2 : q.z < p.z → r = 1) (c3 : p.z = q.z → r = 0) (hne : r ≠ 0) : Tel3 p q r := by
  have n : p.z ≠ q.z := fun e => hne (c3 e)
  have i1 : ¬ p.x < q.x := by rw [e]; exact Rat.lt_irrefl
  have i2 : ¬ q.x < p.x := by rw [e]; exact Rat.lt_irrefl
  have j1 : ¬ p.y < q.y := by rw [e2]; exact Rat.lt_irrefl
  have j2 : ¬ q.y < p.y := by rw [e2]; exact Rat.lt_irrefl
  exact ⟨fun h => h.elim (fun h => absurd h i1) fun h => h.2.elim (fun h => absurd h j1) fun h => c1 h.2, fun h => h.elim (fun h => absurd h i2) fun h => h.2.elim (fun h => absurd h j2) fun h => c2 h.2, fun h => absurd (h ▸ rfl) n⟩
in #guard_msgs in universe u_z
end My
namespace My
open PySem L2 PyProof.Rows
theorem Fr.freeS {K : PySem.W.Frag} {st p : Addr} {H H1 : Hp} (e : Fr st H H1) (hs : St K H1 st) (n : H1 p = none) : H p = none := by
  cases q : H p with
  | none => rfl
  | some o =>
    by_cases c : p = st
    · exact absurd n (c ▸ hs.some)
    · have := e.keep _ _ c q
      rw [n] at this
      cases this
theorem three_rat {zs : List Rat} (h : zs.length = 3) : ∃ x y z, zs = [x, y, z] := by
  match zs, h with
  | [x, y, z], _ => exact ⟨x, y, z, rfl⟩
end My
namespace My
open PySem L2
/-- the same where gcd is not imported -/
structure BltN (mg : Str → Option Value) : Prop where
  len : mg "len" = none
  int : mg "int" = none
  abs : mg "abs" = none
  max : mg "max" = none
  min : mg "min" = none
  range : mg "range" = none
  isinstance : mg "isinstance" = none
  list : mg "list" = none
  tuple : mg "tuple" = none
  bool : mg "bool" = none
  str : mg "str" = none
  zip : mg "zip" = none
  enumerate : mg "enumerate" = none
  sum : mg "sum" = none
end My

set_option Elab.async false
set_option maxRecDepth 100000
set_option linter.all false
/-! what stands where -/
local macro_rules | `(tactic| walk_at "sq") => `(tactic| first
  | with_reducible assumption
  | exact L2.SqT.of (by with_reducible assumption)
  | (apply My.Same.tup; (focus (with_reducible assumption)); walk_at "sq")
  | (apply My.Fr.tup; (focus (with_reducible assumption)); (focus (walk_at "st")); walk_at "sq")
  | (apply My.tkap; (focus (with_reducible assumption)); walk_at "sq"))
local macro_rules | `(tactic| walk_at "st") => `(tactic| first
  | with_reducible assumption
  | exact My.StD.st (by with_reducible assumption)
  | ((apply My.St.same); (focus (with_reducible assumption)); walk_at "st"))
local macro_rules | `(tactic| walk_at "same") => `(tactic| first
  | exact L2.Same.refl _
  | with_reducible assumption
  | (refine L2.Same.trans ?_ (by with_reducible assumption); walk_at "same"))
local macro_rules | `(tactic| walk_at "fr") => `(tactic| first
  | exact My.Fr.refl _ _
  | with_reducible assumption
  | (refine My.Fr.trans ?_ (by with_reducible assumption); walk_at "fr")
  | (refine My.Fr.trans ?_ (My.Same.fr (by with_reducible assumption)); walk_at "fr"))
local macro_rules | `(tactic| walk_at "bits") => `(tactic| first
  | with_reducible assumption
  | ((with_reducible apply My.B.mul) <;> walk_at "bits")
  | ((with_reducible apply My.B.add) <;> walk_at "bits")
  | ((with_reducible apply My.B.sub) <;> walk_at "bits")
  | ((with_reducible apply My.B.neg); walk_at "bits")
  | ((with_reducible apply My.B.nat (k := 4)); (focus rfl))
  | ((with_reducible apply My.B.nat (k := 12)); (focus rfl))
  | ((with_reducible apply My.B.nat (k := 64)); (focus rfl))
  | ((with_reducible apply My.BQ.n); (focus (walk_at "bq")))
  | ((with_reducible apply My.BQ.d); (focus (walk_at "bq")))
  | ((with_reducible apply My.BN.n); (focus (walk_at "bn")))
  | ((with_reducible apply My.BN.d); (focus (walk_at "bn")))
  | ((with_reducible apply My.Rt.bn); (focus (with_reducible assumption)))
  | ((with_reducible apply My.Rt.bd); (focus (with_reducible assumption)))
  | ((with_reducible apply My.B.redn); (focus (with_reducible assumption)); walk_at "bits")
  | ((with_reducible apply My.B.redd); (focus (with_reducible assumption)); walk_at "bits")
  | ((with_reducible apply My.B.scl0); (focus (with_reducible assumption)); walk_at "bits")
  | ((with_reducible apply My.B.scl1); (focus (with_reducible assumption)); walk_at "bits")
  | ((with_reducible apply My.B.scl2); (focus (with_reducible assumption)); walk_at "bits")
  | ((with_reducible apply My.B.scl3); (focus (with_reducible assumption)); walk_at "bits")
  | ((with_reducible apply My.B.of_le); (focus (with_reducible assumption)); walk_at "bits")
  | exact My.B.sg
  | exact My.B.rng (k := 12) (by omega) (by omega)
  | exact My.B.rng (k := 64) (by omega) (by omega)
  | exact My.B.lit (k := 64) (by decide +kernel)
  | exact My.B.lit (k := 140) (by decide +kernel))
local macro_rules | `(tactic| walk_at "cmul") => `(tactic| (refine My.B.cmul (by walk_at "bits") (by walk_at "bits") (by first | decide | omega)))
local macro_rules | `(tactic| walk_at "C") => `(tactic| first
  | with_reducible assumption
  | ((with_reducible apply My.B.cmul); (focus (walk_at "bits")); (focus (walk_at "bits")); first | decide | omega)
  | (show (0 : Int) < _; omega)
  | trivial
  | omega
  | exact .inr ⟨by omega, by omega⟩
  | exact .inl ⟨by omega, by omega⟩
  | exact ⟨by decide, by decide, by decide⟩)
/-! a call by its use-lemma: grows -/
local macro_rules | `(tactic| walk_at "u") => `(tactic| fail)
/-! one step -/
local macro_rules | `(tactic| walk_at "s1") => `(tactic| with_reducible first
  | refine My.w_var rfl ?_
  | refine My.w_c ?_
  | refine My.w_op ?_
  | refine My.w_cons ?_
  | refine My.w_nil ?_
  | refine My.r_I0 ?_
  | refine My.w_call ?_
  | refine My.w_ex ?_
  | refine My.w_test ?_
  | refine My.w_tup ?_
  | refine My.r_eq rfl ?_)
local macro_rules | `(tactic| walk_at "s2") => `(tactic| with_reducible first
  | refine My.w_seqA ?_
  | refine My.w_seqI ?_
  | (show L2.Ends.nx _ _ _; refine My.w_nx ?_)
  | (show L2.Ends.rt _ _ _; refine My.w_rt ?_)
  | refine My.w_ret ?_
  | refine My.w_asg ?_
  | refine My.w_ifS ?_
  | refine My.w_next ?_
  | refine My.w_lst ?_
  | refine My.w_cb ?_
  | refine My.w_un ?_
  | refine My.r_U ?_
  | refine My.r_ne rfl ?_
  | refine My.w_and ?_
  | refine My.w_or ?_
  | refine My.w_not ?_
  | refine My.w_andV ?_
  | refine My.w_orV ?_
  | refine My.w_orT ?_
  | refine My.w_notV ?_
  | refine My.w_tB ?_
  | refine My.w_ifE ?_
  | refine My.w_seqD ?_
  | refine My.w_drop ?_
  | refine My.w_seqN ?_
  | refine My.r_gcd ?_
  | refine My.r_gcd4 ?_
  | refine My.w_never ?_
  | refine My.w_seqF ?_
  | refine My.w_for ?_
  | refine My.w_iL ?_
  | refine My.w_iT ?_
  | refine My.w_iR1 ?_
  | refine My.w_iR2 ?_
  | refine My.w_np ?_
  | refine My.w_pt ?_
  | refine My.r_ptP ?_
  | refine My.w_sl ?_
  | refine My.w_rev ?_
  | refine My.w_tru ?_
  | refine My.w_zip ?_
  | refine My.w_zm ?_
  | refine My.w_aug rfl ?_
  | refine My.w_seqAug rfl ?_
  | refine My.r_ip ?_
  | refine My.w_seqG ?_
  | refine My.w_asgG ?_
  | refine My.w_gN ?_
  | refine My.w_gCons ?_
  | refine My.w_chain ?_
  | refine My.w_bm ?_
  | refine My.w_callN ?_
  | refine My.r_isN0 ?_
  | refine My.r_isNr ?_
  | refine My.r_notN0 ?_
  | refine My.r_notNr ?_
  | refine My.r_isNi ?_
  | refine My.r_isBi ?_
  | refine My.r_isBr ?_
  | refine My.w_gSub ?_
  | refine My.r_int1 ?_
  | refine My.r_int1b ?_
  | refine My.r_abs1 ?_
  | refine My.r_max2 ?_
  | refine My.r_min2 ?_
  | refine My.w_gNil ?_
  | refine My.w_callS ?_
  | refine My.w_callE ?_
  | refine My.r_argE ?_
  | refine My.w_seqTry ?_
  | refine My.w_try ?_
  | refine My.w_tifR ⟨rfl, rfl⟩ ?_
  | refine My.w_seqR ?_
  | refine My.w_raise ?_
  | refine My.w_lc ?_
  | refine My.if_nT ?_
  | refine My.if_nF ?_
  | refine L2.iteT ?_
  | refine L2.iteF ?_)
local macro_rules | `(tactic| walk_at "std") => `(tactic| first
  | with_reducible assumption
  | ((apply My.StD.same); (focus (with_reducible assumption)); walk_at "std"))
local macro_rules | `(tactic| walk_at "g1") => `(tactic| first
  | walk_at "s1"
  | ((with_reducible apply My.r_I); (focus (walk_at "C")))
  | ((with_reducible apply My.r_ixT); (focus (walk_at "sq")); (focus rfl))
  | ((with_reducible apply My.r_ixS); (focus (walk_at "std")); (focus rfl))
  | ((with_reducible apply My.r_ixL); (focus (walk_at "sl")); (focus (first | rfl | assumption)))
  | ((with_reducible apply My.a_tup); (focus rfl); intro _ _ _ _ _)
  | walk_at "s2"
  | walk_at "u"
  | ((with_reducible apply My.r_setS); (focus (walk_at "std")); (focus rfl); (focus rfl); (focus omega); intro _ _ _ _)
  | ((with_reducible apply My.r_ixC); (focus (walk_at "std")); (focus (with_reducible assumption)); intro _)
  | ((with_reducible apply My.r_iR1); (focus omega))
  | ((with_reducible apply My.r_iR2); (focus omega))
  | ((with_reducible apply My.r_slV); (focus (walk_at "vl")); intro _ _ _ _ _)
  | ((with_reducible apply My.r_revV); (focus (walk_at "vl")); intro _ _ _ _ _)
  | ((with_reducible apply My.r_lstV); (focus (walk_at "vl")); intro _ _ _ _ _)
  | ((with_reducible apply My.r_lenV); (focus (walk_at "vl")))
  | ((with_reducible apply My.r_bmV); (focus (walk_at "vl")))
  | ((with_reducible apply My.r_truV); (focus (walk_at "vl")))
  | ((with_reducible apply My.r_zipV); (focus (walk_at "vl")); (focus (walk_at "vl")))
  | ((with_reducible apply My.r_zT); (focus (walk_at "sq")); (focus (walk_at "sq")))
  | ((with_reducible apply My.r_zL); (focus (walk_at "sl")); (focus (walk_at "sl")))
  | ((with_reducible apply My.r_sum); (focus (walk_at "sl")))
  | ((with_reducible apply My.r_catA); (focus (walk_at "sq")); (focus (walk_at "sq")); (focus rfl); (focus rfl); intro _ _ _ _)
  | ((with_reducible apply My.r_slT); (focus (walk_at "sq")); (focus (simp [HT.sIx]; done)); (focus rfl); intro _ _ _ _ _)
  | ((with_reducible apply My.r_zm); (focus (walk_at "sq")); (focus (walk_at "sl")))
  | ((with_reducible apply My.r_catV); (focus (walk_at "vl")); (focus (walk_at "vl")); (focus (first | omega | (simp; omega))); intro _ _ _ _ _)
  | ((with_reducible apply My.r_catL); (focus (walk_at "ls")); (focus (walk_at "ls")); (focus rfl); intro _ _ _ _ _)
  | ((with_reducible apply My.r_isE); (focus (first | exact L2.ClsV.own _ | exact L2.ClsV.ty _)); (focus (with_reducible assumption)))
  | ((with_reducible apply My.w_asY); (focus (with_reducible assumption)); intro _ _)
  | ((with_reducible apply My.r_ixSA); (focus (walk_at "sa")); (focus (first | rfl | assumption)))
  | ((with_reducible apply My.r_ixAT); (focus (walk_at "sq")); (focus rfl))
  | ((with_reducible apply My.r_ixAL); (focus (walk_at "sl")); (focus rfl))
  | ((with_reducible apply My.r_eqD); (focus (walk_at "dp")); (focus (walk_at "dp")); (focus (first | rfl | assumption)); (focus (first | rfl | assumption)))
  | ((with_reducible apply My.r_neD); (focus (walk_at "dp")); (focus (walk_at "dp")); (focus (first | rfl | assumption)); (focus (first | rfl | assumption)))
  | ((with_reducible apply My.r_cN); (focus rfl); (focus rfl); (focus (walk_at "pk")))
  | ((with_reducible apply My.r_iL); (focus (walk_at "sl")))
  | ((with_reducible apply My.r_iT); (focus (walk_at "sq")))
  | ((with_reducible apply My.w_gUnL); (focus (walk_at "sl")); (focus rfl))
  | ((with_reducible apply My.w_gTup); (focus (walk_at "sq")); (focus rfl))
  | ((with_reducible apply My.w_gAny); (focus (walk_at "sa")); (focus rfl))
  | ((with_reducible apply My.r_isi); (focus (exact L2.ClsV.ty _)); (focus (first | exact L2.TyX.base (L2.TyOf.int _) | exact L2.TyX.base L2.TyOf.non | exact L2.TyX.base (L2.TyOf.bl _) | exact My.SqT.tyx (by walk_at "sq") | exact My.SqL.tyx (by walk_at "sl") | exact My.VL.tyx (by walk_at "vl"))); (focus (first | exact L2.kit_ty (r := true) (by decide +kernel) | exact L2.kit_ty (r := false) (by decide +kernel))))
  | ((with_reducible apply My.r_lenT2); (focus (walk_at "sq")))
  | ((with_reducible apply My.r_lenT3); (focus (walk_at "sq")))
  | ((with_reducible apply My.r_lenT4); (focus (walk_at "sq")))
  | ((with_reducible apply My.r_lenL'); (focus (walk_at "sl")))
  | ((with_reducible apply My.r_lstL); (focus (walk_at "sl")); intro _ _ _ _ _)
  | ((with_reducible apply My.r_lstT); (focus (walk_at "sq")); intro _ _ _ _ _)
  | ((with_reducible apply My.r_tplL); (focus (walk_at "sl")); intro _ _ _ _ _)
  | ((with_reducible apply My.a_lst); (focus rfl); intro _ _ _ _ _)
  | ((with_reducible apply My.r_catT); (focus (walk_at "sq")); (focus (walk_at "sq")); (focus rfl); (focus rfl); (focus rfl); (focus rfl); intro _ _ _ _ _)
  | ((with_reducible apply My.r_bmL); (focus (walk_at "sl")))
  | ((with_reducible apply My.if_eqT); (focus rfl))
  | ((with_reducible apply My.if_eqF); (focus rfl))
  | ((with_reducible apply My.if_neT); (focus rfl))
  | ((with_reducible apply My.if_neF); (focus rfl))
  | ((with_reducible apply My.if_decT); (focus (with_reducible assumption)))
  | ((with_reducible apply My.if_decF); (focus (with_reducible assumption)))
  | ((with_reducible apply My.if_ndecT); (focus (with_reducible assumption)))
  | ((with_reducible apply My.if_ndecF); (focus (with_reducible assumption)))
  | ((with_reducible apply My.r_isi); (focus (exact L2.ClsV.ty _)); (focus (exact L2.TyX.base (L2.TyOf.str _))); (focus (first | exact L2.kit_ty (r := true) (by decide +kernel) | exact L2.kit_ty (r := false) (by decide +kernel))))
  | ((with_reducible apply My.r_isLT); (focus (walk_at "tp")); (focus (walk_at "dp")); (focus (first | exact (rfl : _ = true) | exact (rfl : _ = false))))
  | with_reducible refine My.w_up ?_
  | ((with_reducible apply My.r_up); (focus omega))
  | (with_reducible refine My.w_gt ?_; intro _ _)
  | (with_reducible refine My.w_gdM ?_; intro _ _ _ _ _ _ _ _ _ _ _ _)
  | (with_reducible refine My.w_gd ?_; intro _ _)
  | ((with_reducible apply My.r_catX); (focus (first | omega | (show _ + 1 ≤ _; omega))))
  | ((with_reducible apply My.r_strI); (focus (walk_at "bitsK")))
  | ((with_reducible apply My.r_slA); (focus (walk_at "sq")); intro _ _ _ _)
  | ((with_reducible apply My.r_slL); (focus (walk_at "sl")); intro _ _ _ _ _)
  | with_reducible refine My.w_revT ?_
  | with_reducible refine My.w_dget ?_
  | ((with_reducible apply My.w_due); intro _ _ _ _)
  | with_reducible refine My.w_pN ?_
  | with_reducible refine My.w_pC ?_
  | ((with_reducible apply My.r_revT); (focus (walk_at "sq")); intro _ _ _ _)
  | ((with_reducible apply My.r_revL); (focus (walk_at "sl")); intro _ _ _ _ _)
  | with_reducible refine My.r_isBb ?_
  | with_reducible refine My.r_isBn ?_
  | with_reducible refine My.r_isBs ?_
  | with_reducible refine My.r_isNb ?_
  | with_reducible refine My.r_isNs ?_
  | ((with_reducible apply My.r_isA8); (focus (walk_at "tp")); (focus (with_reducible assumption)); (focus (with_reducible assumption)); (focus (with_reducible assumption)); (focus (with_reducible assumption)); (focus (with_reducible assumption)); (focus (with_reducible assumption)); (focus (with_reducible assumption)); (focus (with_reducible assumption)))
  | ((with_reducible apply My.r_isA7); (focus (walk_at "tp")); (focus (with_reducible assumption)); (focus (with_reducible assumption)); (focus (with_reducible assumption)); (focus (with_reducible assumption)); (focus (with_reducible assumption)); (focus (with_reducible assumption)); (focus (with_reducible assumption)))
  | ((with_reducible apply My.r_inK2); (focus (walk_at "sq")))
  | ((with_reducible apply My.r_inS); (focus (walk_at "sq")); (focus (walk_at "dp")))
  | (with_reducible refine My.w_dnew ?_; intro _ _ _ _ _)
  | ((with_reducible apply My.r_isAN); (focus (walk_at "tp")); (focus (walk_at "nof")))
  | (with_reducible refine My.w_dnewX ?_; intro _ _ _ _ _)
  | ((with_reducible apply My.r_isxi); (focus (exact L2.ClsV.ty _)); (focus (first | exact L2.TyX.base (L2.TyOf.int _) | exact L2.TyX.base L2.TyOf.non | exact L2.TyX.base (L2.TyOf.bl _) | exact L2.TyX.base (L2.TyOf.str _) | exact My.SqT.tyx (by walk_at "sq") | exact My.SqL.tyx (by walk_at "sl") | exact My.VL.tyx (by walk_at "vl"))); (focus (first | exact L2.kit_ty (r := true) (by decide +kernel) | exact L2.kit_ty (r := false) (by decide +kernel)))))
local macro_rules | `(tactic| walk_at "g") => `(tactic| repeat (walk_at "g1"))
local macro_rules | `(tactic| walk_at "b1") => `(tactic| with_reducible first
  | refine My.if_eqI (fun _ => ?_) (fun _ => ?_)
  | refine My.if_neI (fun _ => ?_) (fun _ => ?_)
  | refine My.if_dec (fun _ => ?_) (fun _ => ?_)
  | refine My.if_ndec (fun _ => ?_) (fun _ => ?_)
  | refine My.if_nb (fun _ => ?_) (fun _ => ?_)
  | refine My.if_b (fun _ => ?_) (fun _ => ?_))
/-! all ways -/
local macro_rules | `(tactic| walk_at "a") => `(tactic| repeat' (first | walk_at "g1" | walk_at "b1"))
local macro_rules | `(tactic| walk_at "bitsK") => `(tactic| first
  | with_reducible assumption
  | exact My.B.le (by with_reducible assumption) (by first | decide | omega)
  | (apply My.B.le; (focus (walk_at "bits")); first | decide | omega))
local macro_rules | `(tactic| walk_at "sl") => `(tactic| first
  | with_reducible assumption
  | exact L2.SqL.of (by with_reducible assumption)
  | exact L2.SqL.of (My.StD.lst (by with_reducible assumption))
  | (apply L2.Same.seq; (focus (with_reducible assumption)); walk_at "sl")
  | ((apply My.Fr.seq); (focus (with_reducible assumption)); (focus (walk_at "st")); (focus (walk_at "sl")); rfl)
  | ((apply My.Fr.seqN); (focus (with_reducible assumption)); (focus (walk_at "st")); (focus (walk_at "sl")); rfl))
local macro_rules | `(tactic| walk_at "dpa") => `(tactic| first
  | exact L2.DpAll.nil
  | ((apply L2.DpAll.cons); (focus (walk_at "dp")); walk_at "dpa"))
local macro_rules | `(tactic| walk_at "dp") => `(tactic| first
  | with_reducible assumption
  | exact L2.Dp.non
  | exact L2.Dp.bl _
  | exact L2.Dp.int _
  | exact L2.Dp.str _
  | ((apply L2.Dp.tup); (focus (walk_at "sq")); walk_at "dpa")
  | ((apply L2.Dp.lst); (focus (walk_at "sl")); walk_at "dpa")
  | exact My.Vc.dp (by walk_at "vc")
  | exact My.Mv.dp (by walk_at "mv")
  | exact My.VL.dp (by walk_at "vl")
  | exact My.CnL.dp (by walk_at "cl")
  | exact My.Dn.dp (by walk_at "dn")
  | ((apply My.Dp.same); (focus (with_reducible assumption)); walk_at "dp"))
local macro_rules | `(tactic| walk_at "tp") => `(tactic| first
  | with_reducible assumption
  | ((apply My.Same.at); (focus (with_reducible assumption)); walk_at "tp"))
local macro_rules | `(tactic| walk_at "al") => `(tactic| first
  | with_reducible assumption
  | exact My.Al.nil
  | ((apply My.Al.same); (focus (with_reducible assumption)); walk_at "al")
  | ((apply My.Al.fr); (focus (with_reducible assumption)); (focus (walk_at "st")); walk_at "al"))
local macro_rules | `(tactic| walk_at "dna") => `(tactic| first
  | with_reducible assumption
  | exact My.DnA.nil
  | ((apply My.DnA.cons); (focus (walk_at "dn")); walk_at "dna")
  | ((apply My.DnA.same); (focus (with_reducible assumption)); walk_at "dna"))
local macro_rules | `(tactic| walk_at "dn") => `(tactic| first
  | with_reducible assumption
  | exact My.Dn.non
  | exact My.Dn.bl _
  | exact My.Dn.int _
  | exact My.Dn.str _
  | exact My.Vc.dn (by walk_at "vc")
  | ((apply My.Dn.same); (focus (with_reducible assumption)); walk_at "dn")
  | ((apply My.Dn.fr); (focus (with_reducible assumption)); (focus (walk_at "st")); (focus (simp; done)); walk_at "dn")
  | ((apply My.Dn.tup); (focus (walk_at "sq")); walk_at "dna"))
local macro_rules | `(tactic| walk_at "nin") => `(tactic| first
  | exact List.not_mem_nil
  | (apply My.Al.new'; (focus (with_reducible assumption)); walk_at "al"))
local macro_rules | `(tactic| walk_at "pna") => `(tactic| first
  | with_reducible assumption
  | exact My.PnA.nil
  | ((apply My.PnA.cons); (focus (walk_at "pn")); walk_at "pna")
  | ((apply My.PnA.append); (focus (walk_at "pna")); walk_at "pna")
  | ((apply My.PnA.cut); walk_at "pna")
  | ((apply My.PnA.rev); walk_at "pna")
  | ((apply My.PnA.same); (focus (with_reducible assumption)); walk_at "pna"))
local macro_rules | `(tactic| walk_at "pn") => `(tactic| first
  | with_reducible assumption
  | exact My.Pn.non
  | exact My.Pn.bl _
  | exact My.Pn.int _
  | exact My.Pn.str _
  | exact My.Pn.vc (by walk_at "vc")
  | ((apply My.Pn.tup); (focus (walk_at "sq")); (focus (walk_at "pna")); (first | decide | omega))
  | ((apply My.Pn.lst); (focus (walk_at "nin")); (focus (walk_at "ls")); (focus (walk_at "pna")); (first | decide | omega))
  | ((apply My.Pn.same); (focus (with_reducible assumption)); walk_at "pn")
  | ((apply My.Pn.fr); (focus (with_reducible assumption)); (focus (walk_at "st")); (focus (simp; done)); walk_at "pn"))
local macro_rules | `(tactic| walk_at "ls") => `(tactic| first
  | with_reducible assumption
  | ((apply My.Same.lst); (focus (with_reducible assumption)); walk_at "ls")
  | ((apply My.Fr.lst); (focus (with_reducible assumption)); (focus (walk_at "st")); (focus (walk_at "ls")); rfl)
  | ((apply My.Fr.lstN); (focus (with_reducible assumption)); (focus (walk_at "st")); (focus (walk_at "ls")); rfl))
local macro_rules | `(tactic| walk_at "pk") => `(tactic| first
  | (simp only [My.pkV, List.map_cons, List.map_nil, List.nil_append, List.append_nil, List.cons_append, List.getD_cons_zero, List.getD_cons_succ]; done)
  | (simp only [My.pkV, List.map_cons, List.map_nil, List.nil_append, List.append_nil, List.cons_append, List.getD_cons_zero, List.getD_cons_succ]; rfl))
local macro_rules | `(tactic| walk_at "tk") => `(tactic| first
  | exact My.TK.refl _ _
  | with_reducible assumption
  | ((apply My.TK.trans); (focus (exact My.TK.same (by with_reducible assumption))); fail)
  | (refine My.TK.trans ?_ (My.TK.same (by with_reducible assumption)); walk_at "tk")
  | (refine My.TK.trans ?_ (My.TK.fr (by with_reducible assumption) (by walk_at "st")); walk_at "tk"))
local macro_rules | `(tactic| walk_at "pvp") => `(tactic| first
  | with_reducible assumption
  | ((apply My.PvP.same); (focus (with_reducible assumption)); walk_at "pvp"))
local macro_rules | `(tactic| walk_at "bq") => `(tactic| first
  | with_reducible assumption
  | ((with_reducible apply My.BQ.add) <;> walk_at "bq")
  | ((with_reducible apply My.BQ.sub) <;> walk_at "bq")
  | ((with_reducible apply My.BQ.mul) <;> walk_at "bq")
  | ((with_reducible apply My.BQ.neg); walk_at "bq"))
local macro_rules | `(tactic| walk_at "bqK") => `(tactic| first
  | with_reducible assumption
  | exact My.BQ.le (by with_reducible assumption) (by first | decide | omega)
  | ((apply My.BQ.le); (focus (walk_at "bq")); first | decide | omega))
local macro_rules | `(tactic| walk_at "bn") => `(tactic| first
  | with_reducible assumption
  | ((with_reducible apply My.BN.int); (focus (walk_at "bits")))
  | ((with_reducible apply My.BN.dv); (focus (decide +kernel)); (focus (walk_at "bits")); (focus (walk_at "bits")))
  | ((with_reducible apply My.VN.x); (focus (walk_at "vn")))
  | ((with_reducible apply My.VN.y); (focus (walk_at "vn")))
  | ((with_reducible apply My.VN.z); (focus (walk_at "vn")))
  | ((with_reducible apply My.BN.add) <;> walk_at "bn")
  | ((with_reducible apply My.BN.sub) <;> walk_at "bn")
  | ((with_reducible apply My.BN.mul) <;> walk_at "bn")
  | ((with_reducible apply My.BN.dt) <;> walk_at "vn")
  | ((with_reducible apply My.BN.neg); walk_at "bn"))
local macro_rules | `(tactic| walk_at "vn") => `(tactic| first
  | with_reducible assumption
  | ((with_reducible apply My.MN.a); (focus (walk_at "mn")))
  | ((with_reducible apply My.MN.b); (focus (walk_at "mn")))
  | ((with_reducible apply My.MN.c); (focus (walk_at "mn")))
  | ((with_reducible apply My.MN.s); (focus (walk_at "mn")))
  | ((with_reducible apply My.VN.va) <;> walk_at "vn")
  | ((with_reducible apply My.VN.vs) <;> walk_at "vn")
  | ((with_reducible apply My.VN.sc); (focus (walk_at "bn")); (focus (walk_at "vn")))
  | ((with_reducible apply My.VN.cr) <;> walk_at "vn")
  | ((with_reducible apply My.VN.mvec); (focus (walk_at "mn")); (focus (walk_at "vn")))
  | ((with_reducible apply My.VN.app); (focus (walk_at "mn")); (focus (walk_at "vn"))))
local macro_rules | `(tactic| walk_at "mn") => `(tactic| first
  | with_reducible assumption
  | ((with_reducible apply My.MN.comb) <;> walk_at "mn"))
local macro_rules | `(tactic| walk_at "vc") => `(tactic| first
  | with_reducible assumption
  | ((apply My.Vc.same); (focus (with_reducible assumption)); walk_at "vc")
  | ((apply My.Vc.fr); (focus (with_reducible assumption)); (focus (walk_at "st")); walk_at "vc")
  | ((apply My.Vc.tk); (focus (with_reducible assumption)); walk_at "vc"))
local macro_rules | `(tactic| walk_at "mv") => `(tactic| first
  | with_reducible assumption
  | ((apply My.Mv.same); (focus (with_reducible assumption)); walk_at "mv")
  | ((apply My.Mv.fr); (focus (with_reducible assumption)); (focus (walk_at "st")); walk_at "mv")
  | ((apply My.Mv.tk); (focus (with_reducible assumption)); walk_at "mv"))
local macro_rules | `(tactic| walk_at "ar") => `(tactic| (first | decide | omega))
local macro_rules | `(tactic| walk_at "sqI") => `(tactic| first
  | walk_at "sq"
  | exact My.SqT.ofInt (by walk_at "sq")
  | exact My.SqT.ofRat (by walk_at "sq") (by decide +kernel) (by decide +kernel))
local macro_rules | `(tactic| walk_at "bnK") => `(tactic| first
  | with_reducible assumption
  | exact My.BN.le (by walk_at "bn") (by first | decide | omega) (by first | decide | omega))
local macro_rules | `(tactic| walk_at "sa") => `(tactic| first
  | with_reducible assumption
  | (apply My.SqA.t; walk_at "sq")
  | (apply My.SqA.l; walk_at "sl")
  | ((apply My.SqA.same); (focus (with_reducible assumption)); walk_at "sa"))
local macro_rules | `(tactic| walk_at "va") => `(tactic| first
  | with_reducible assumption
  | exact My.VcA.of (by walk_at "vc")
  | ((apply My.VcA.same); (focus (with_reducible assumption)); walk_at "va")
  | ((apply My.VcA.fr); (focus (with_reducible assumption)); (focus (walk_at "st")); walk_at "va"))
local macro_rules | `(tactic| walk_at "vl") => `(tactic| first
  | with_reducible assumption
  | ((apply My.VL.same); (focus (with_reducible assumption)); walk_at "vl")
  | ((apply My.VL.fr); (focus (with_reducible assumption)); (focus (walk_at "st")); walk_at "vl"))
local macro_rules | `(tactic| walk_at "vb") => `(tactic| fail)
local macro_rules | `(tactic| walk_at "cl") => `(tactic| first
  | with_reducible assumption
  | ((apply My.CnL.same); (focus (with_reducible assumption)); walk_at "cl")
  | ((apply My.CnL.fr); (focus (with_reducible assumption)); (focus (walk_at "st")); walk_at "cl"))
local macro_rules | `(tactic| walk_at "ob") => `(tactic| first
  | with_reducible assumption
  | ((apply My.Ob.same); (focus (with_reducible assumption)); walk_at "ob")
  | exact Or.inl (by walk_at "dp"))
local macro_rules | `(tactic| walk_at "nof") => `(tactic| first
  | exact My.NoF.nil
  | ((apply My.NoF.cons); (focus (with_reducible assumption)); walk_at "nof"))
local macro_rules | `(tactic| walk_at "bns2") => `(tactic| first
  | with_reducible assumption
  | ((with_reducible apply My.BnA.same); (focus (with_reducible assumption)); walk_at "bns2")
  | ((with_reducible apply My.BnA.fr); (focus (with_reducible assumption)); (focus (walk_at "st")); (focus (simp; done)); walk_at "bns2"))
local macro_rules | `(tactic| walk_at "bns") => `(tactic| first
  | with_reducible assumption
  | ((with_reducible apply My.BnA.gd); (focus (with_reducible assumption)); walk_at "bns2"))
local macro_rules | `(tactic| walk_at "bn2") => `(tactic| first
  | with_reducible assumption
  | ((with_reducible apply My.Bn.same); (focus (with_reducible assumption)); walk_at "bn2")
  | ((with_reducible apply My.Bn.fr); (focus (with_reducible assumption)); (focus (walk_at "st")); (focus (simp; done)); walk_at "bn2"))
local macro_rules | `(tactic| walk_at "bn1") => `(tactic| first
  | with_reducible assumption
  | ((with_reducible apply My.Bn.gd); (focus (with_reducible assumption)); walk_at "bn2"))
local macro_rules | `(tactic| walk_at "bnda") => `(tactic| first
  | walk_at "bns"
  | with_reducible exact My.BnA.nil
  | ((with_reducible apply My.BnA.append); (focus (walk_at "bnda")); walk_at "bnda")
  | ((with_reducible apply My.BnA.cut); walk_at "bnda")
  | ((apply My.BnA.cons); (focus (walk_at "bnd")); walk_at "bnda"))
local macro_rules | `(tactic| walk_at "bnd") => `(tactic| first
  | with_reducible exact My.Bn.non
  | with_reducible exact My.Bn.bl _
  | with_reducible exact My.Bn.str _
  | ((with_reducible apply My.Bn.int); (focus (walk_at "bitsK")))
  | walk_at "bn1"
  | ((with_reducible apply My.Bn.tup); (focus (walk_at "sq")); (focus (walk_at "bnda")))
  | ((with_reducible apply My.Bn.lst); (focus (walk_at "nin")); (focus (walk_at "ls")); (focus (walk_at "bnda"))))
local macro_rules | `(tactic| walk_at "ox") => `(tactic| first
  | exact Or.inl (by walk_at "bnd")
  | exact Or.inr ⟨_, _, rfl, by walk_at "nin", by walk_at "tp"⟩)
local macro_rules | `(tactic| walk_at "dx") => `(tactic| first
  | with_reducible assumption
  | exact My.Dx.int _
  | exact My.Dx.bl _
  | exact My.Dx.non
  | exact My.Dx.str _
  | ((with_reducible apply My.Dx.same); (focus (with_reducible assumption)); walk_at "dx")
  | exact My.Dn.dx (by walk_at "dn"))
local macro_rules | `(tactic| walk_at "dx") => `(tactic| first
  | with_reducible assumption
  | exact My.Dx.int _
  | exact My.Dx.bl _
  | exact My.Dx.non
  | exact My.Dx.str _
  | ((with_reducible apply My.Dx.same); (focus (with_reducible assumption)); walk_at "dx")
  | ((with_reducible apply My.Dx.fr); (focus (with_reducible assumption)); (focus (walk_at "st")); (focus (simp; done)); walk_at "dx")
  | exact My.vD_dx (by walk_at "vc")
  | exact My.Dn.dx (by walk_at "dn"))
local macro_rules | `(tactic| walk_at "pza") => `(tactic| first
  | with_reducible assumption
  | exact My.PzA.nil
  | ((apply My.PzA.cons); (focus (walk_at "pz")); walk_at "pza")
  | ((apply My.PzA.append); (focus (walk_at "pza")); walk_at "pza")
  | ((apply My.PzA.cut1); walk_at "pza")
  | ((apply My.PzA.cut); walk_at "pza")
  | ((apply My.PzA.rev); walk_at "pza")
  | ((apply My.PzA.same); (focus (with_reducible assumption)); walk_at "pza"))
local macro_rules | `(tactic| walk_at "pz") => `(tactic| first
  | with_reducible assumption
  | exact My.Pzn.non
  | exact My.Pzn.bl _
  | ((with_reducible apply My.Pzn.int); (focus (walk_at "bz")))
  | exact My.Pzn.strI (by with_reducible assumption)
  | exact My.Pzn.str (by decide +kernel)
  | ((apply My.Pzn.tup); (focus (walk_at "sq")); (focus (walk_at "pza")); (first | decide | omega))
  | ((apply My.Pzn.lst); (focus (walk_at "nin")); (focus (walk_at "ls")); (focus (walk_at "pza")); (first | decide | omega))
  | ((apply My.Pzn.same); (focus (with_reducible assumption)); walk_at "pz")
  | ((apply My.Pzn.fr); (focus (with_reducible assumption)); (focus (walk_at "st")); (focus (simp; done)); walk_at "pz"))
local macro_rules | `(tactic| walk_at "bz") => `(tactic| first
  | exact My.B.lit (k := 125) (by decide +kernel)
  | with_reducible assumption
  | exact My.B.le (by with_reducible assumption) (by decide)
  | exact My.B.le (My.B.neg (by with_reducible assumption)) (by decide)
  | exact My.B.half (by with_reducible assumption))
local macro_rules | `(tactic| walk_at "ask") => `(tactic| first
  | with_reducible assumption
  | ((with_reducible apply My.Ask.same); (focus (with_reducible assumption)); walk_at "ask")
  | ((with_reducible apply My.Ask.fr); (focus (with_reducible assumption)); (focus (walk_at "st")); (focus (simp; done)); walk_at "ask"))
local macro_rules | `(tactic| walk_at "dx") => `(tactic| exact My.Ask.dx (by walk_at "ask"))
local macro_rules | `(tactic| walk_at "ql") => `(tactic| first
  | with_reducible assumption
  | ((with_reducible apply My.QL.same); (focus (with_reducible assumption)); walk_at "ql")
  | ((with_reducible apply My.QL.fr); (focus (with_reducible assumption)); (focus (walk_at "st")); walk_at "ql"))
namespace My
open PySem L2
def top (i : Nat) : Stmt := PySem.Challenge.pw_everypoint_k06_points_in_order.main.body.getD i (.Pass ⟨0, 0, 0, 0⟩)
def sp_integer_sign (K : PySem.W.Frag) : Sp := fun vs H Q _ => ∃ (x : Int), vs = [.int x] ∧
  (∀ H' r, Same H H' → (x > 0 → r = 1) → (x < 0 → r = -1) → (x = 0 → r = 0) → Q (.int r) H')
theorem u_integer_sign {K : PySem.W.Frag} {H : Hp} {Q : VK} {E : XK} {x : Int} 
  (k : ∀ H' r, Same H H' → (x > 0 → r = 1) → (x < 0 → r = -1) → (x = 0 → r = 0) → Q (.int r) H') : sp_integer_sign K [.int x] H Q E := ⟨x, rfl, k⟩
local macro_rules | `(tactic| walk_at "u") => `(tactic| ((with_reducible apply u_integer_sign); intros))
def sp_compare (K : PySem.W.Frag) : Sp := fun vs H Q _ => ∃ (x y : Addr) (p q : Rat) (n1 d1 n2 d2 : Nat), vs = [.ref x, .ref y] ∧ (SqT K H x [.int p.num, .int (p.den : Int)]) ∧ (SqT K H y [.int q.num, .int (q.den : Int)]) ∧ (BN n1 d1 p) ∧ (BN n2 d2 q) ∧ (n1 + n2 + d1 + d2 ≤ 400000) ∧
  (∀ H' r, Same H H' → (p < q → r = -1) → (q < p → r = 1) → (p = q → r = 0) → Q (.int r) H')
theorem u_compare {K : PySem.W.Frag} {H : Hp} {Q : VK} {E : XK} {x y : Addr} {p q : Rat} {n1 d1 n2 d2 : Nat} (h0 : SqT K H x [.int p.num, .int (p.den : Int)]) (h1 : SqT K H y [.int q.num, .int (q.den : Int)]) (h2 : BN n1 d1 p) (h3 : BN n2 d2 q) (h4 : n1 + n2 + d1 + d2 ≤ 400000)
  (k : ∀ H' r, Same H H' → (p < q → r = -1) → (q < p → r = 1) → (p = q → r = 0) → Q (.int r) H') : sp_compare K [.ref x, .ref y] H Q E := ⟨x, y, p, q, n1, d1, n2, d2, rfl, h0, h1, h2, h3, h4, k⟩
local macro_rules | `(tactic| walk_at "u") => `(tactic| ((with_reducible apply u_compare); walk_at "sqI"; walk_at "sqI"; walk_at "bn"; walk_at "bn"; (first | assumption | decide | omega); intros))
def sp_key_shift (K : PySem.W.Frag) : Sp := fun vs H Q _ => ∃ (l : Addr) (qs : List Rat), vs = [.ref l] ∧ (QL K H l qs) ∧ (∀ q, q ∈ qs → BN 134 134 q) ∧ (qs.length ≤ 200) ∧
  (∀ H' (m : Nat), Same H H' → (∀ q, q ∈ qs → q.den < 2 ^ m) → m ≤ 134 → Q (.int (2 * (m : Int))) H')
theorem u_key_shift {K : PySem.W.Frag} {H : Hp} {Q : VK} {E : XK} {l : Addr} {qs : List Rat} (h0 : QL K H l qs) (h1 : ∀ q, q ∈ qs → BN 134 134 q) (h2 : qs.length ≤ 200)
  (k : ∀ H' (m : Nat), Same H H' → (∀ q, q ∈ qs → q.den < 2 ^ m) → m ≤ 134 → Q (.int (2 * (m : Int))) H') : sp_key_shift K [.ref l] H Q E := ⟨l, qs, rfl, h0, h1, h2, k⟩
local macro_rules | `(tactic| walk_at "u") => `(tactic| ((with_reducible apply u_key_shift); walk_at "ql"; assumption; (first | assumption | omega); intros))
def sp_sort_key (K : PySem.W.Frag) : Sp := fun vs H Q _ => ∃ (x : Addr) (q : Rat) (m : Nat), vs = [.ref x, .int (2 * (m : Int))] ∧ (SqT K H x [.int q.num, .int (q.den : Int)]) ∧ (BN 134 134 q) ∧ (m ≤ 134) ∧
  (∀ H', Same H H' → Q (.int ((q.num * 2 ^ (2 * m)).fdiv (q.den : Int))) H')
theorem u_sort_key {K : PySem.W.Frag} {H : Hp} {Q : VK} {E : XK} {x : Addr} {q : Rat} {m : Nat} (h0 : SqT K H x [.int q.num, .int (q.den : Int)]) (h1 : BN 134 134 q) (h2 : m ≤ 134)
  (k : ∀ H', Same H H' → Q (.int ((q.num * 2 ^ (2 * m)).fdiv (q.den : Int))) H') : sp_sort_key K [.ref x, .int (2 * (m : Int))] H Q E := ⟨x, q, m, rfl, h0, h1, h2, k⟩
local macro_rules | `(tactic| walk_at "u") => `(tactic| ((with_reducible apply u_sort_key); walk_at "sqI"; assumption; (first | assumption | omega); intros))
def sp_without_repeats (K : PySem.W.Frag) : Sp := fun vs H Q _ => ∃ (l : Addr) (qs : List V3), vs = [.ref l] ∧ (VL K H l qs) ∧ (qs.length ≤ 100) ∧ (qs.Pairwise le3) ∧
  (∀ H' r ts, Same H H' → H r = none → VL K H' r ts → ts.Pairwise lt3 → (∀ q, q ∈ ts ↔ q ∈ qs) → ts.length ≤ qs.length → Q (.ref r) H')
theorem u_without_repeats {K : PySem.W.Frag} {H : Hp} {Q : VK} {E : XK} {l : Addr} {qs : List V3} (h0 : VL K H l qs) (h1 : qs.length ≤ 100) (h2 : qs.Pairwise le3)
  (k : ∀ H' r ts, Same H H' → H r = none → VL K H' r ts → ts.Pairwise lt3 → (∀ q, q ∈ ts ↔ q ∈ qs) → ts.length ≤ qs.length → Q (.ref r) H') : sp_without_repeats K [.ref l] H Q E := ⟨l, qs, rfl, h0, h1, h2, k⟩
local macro_rules | `(tactic| walk_at "u") => `(tactic| ((with_reducible apply u_without_repeats); walk_at "vl"; (first | assumption | omega); assumption; intros))
def sp_compare_points (K : PySem.W.Frag) : Sp := fun vs H Q _ => ∃ (u v : Addr) (p q : V3), vs = [.ref u, .ref v] ∧ (Vc K H u p) ∧ (Vc K H v q) ∧ (VN 134 134 p) ∧ (VN 134 134 q) ∧
  (∀ H' r, Same H H' → (lt3 p q → r = -1) → (lt3 q p → r = 1) → (p = q → r = 0) → Q (.int r) H')
theorem u_compare_points {K : PySem.W.Frag} {H : Hp} {Q : VK} {E : XK} {u v : Addr} {p q : V3} (h0 : Vc K H u p) (h1 : Vc K H v q) (h2 : VN 134 134 p) (h3 : VN 134 134 q)
  (k : ∀ H' r, Same H H' → (lt3 p q → r = -1) → (lt3 q p → r = 1) → (p = q → r = 0) → Q (.int r) H') : sp_compare_points K [.ref u, .ref v] H Q E := ⟨u, v, p, q, rfl, h0, h1, h2, h3, k⟩
local macro_rules | `(tactic| walk_at "u") => `(tactic| ((with_reducible apply u_compare_points); walk_at "vc"; walk_at "vc"; assumption; assumption; intros))
def sp_sort_points (K : PySem.W.Frag) : Sp := fun vs H Q _ => ∃ (l : Addr) (ps : List V3), vs = [.ref l] ∧ (LamX.Tabs [(tabOf K "sort_points", "sort_points.<locals>.<lambda>")] H) ∧ (VL K H l ps) ∧ (∀ p, p ∈ ps → VN 134 134 p) ∧ (ps.length ≤ 60) ∧
  (∀ H' r ts, LamX.ExtN H H' → LamX.Tabs [(tabOf K "sort_points", "sort_points.<locals>.<lambda>")] H' → (∀ b o, H b = some o → (∀ zs, o ≠ .tbl zs) → b ≠ r) → VL K H' r ts → ts.Pairwise lt3 → (∀ q, q ∈ ts ↔ q ∈ ps) → ts.length ≤ ps.length → Q (.ref r) H')
theorem u_sort_points {K : PySem.W.Frag} {H : Hp} {Q : VK} {E : XK} {l : Addr} {ps : List V3} (h0 : LamX.Tabs [(tabOf K "sort_points", "sort_points.<locals>.<lambda>")] H) (h1 : VL K H l ps) (h2 : ∀ p, p ∈ ps → VN 134 134 p) (h3 : ps.length ≤ 60)
  (k : ∀ H' r ts, LamX.ExtN H H' → LamX.Tabs [(tabOf K "sort_points", "sort_points.<locals>.<lambda>")] H' → (∀ b o, H b = some o → (∀ zs, o ≠ .tbl zs) → b ≠ r) → VL K H' r ts → ts.Pairwise lt3 → (∀ q, q ∈ ts ↔ q ∈ ps) → ts.length ≤ ps.length → Q (.ref r) H') : sp_sort_points K [.ref l] H Q E := ⟨l, ps, rfl, h0, h1, h2, h3, k⟩
local macro_rules | `(tactic| walk_at "u") => `(tactic| ((with_reducible apply u_sort_points); assumption; walk_at "vl"; assumption; (first | assumption | omega); intros))
def sp__law_mix (K : PySem.W.Frag) : Sp := fun vs H Q _ => ∃ (x y : Int), vs = [.int x, .int y] ∧
  (∀ H' r, Same H H' → 0 ≤ r → r < 2305843009213693951 → Q (.int r) H')
theorem u__law_mix {K : PySem.W.Frag} {H : Hp} {Q : VK} {E : XK} {x y : Int} 
  (k : ∀ H' r, Same H H' → 0 ≤ r → r < 2305843009213693951 → Q (.int r) H') : sp__law_mix K [.int x, .int y] H Q E := ⟨x, y, rfl, k⟩
local macro_rules | `(tactic| walk_at "u") => `(tactic| ((with_reducible apply u__law_mix); intros))
def sp__law_store (K : PySem.W.Frag) : Sp := fun vs H Q _ => ∃ (a : Addr) (ns : List Int), vs = [.ref a] ∧ (SqL K H a (ns.map V.int)) ∧ (ns.length ≤ 63) ∧
  (∀ H' p, Same H H' → St K H' p → Q (.ref p) H')
theorem u__law_store {K : PySem.W.Frag} {H : Hp} {Q : VK} {E : XK} {a : Addr} {ns : List Int} (h0 : SqL K H a (ns.map V.int)) (h1 : ns.length ≤ 63)
  (k : ∀ H' p, Same H H' → St K H' p → Q (.ref p) H') : sp__law_store K [.ref a] H Q E := ⟨a, ns, rfl, h0, h1, k⟩
local macro_rules | `(tactic| walk_at "u") => `(tactic| ((with_reducible apply u__law_store); walk_at "sl"; (first | assumption | omega); intros))
def sp__law_take (K : PySem.W.Frag) : Sp := fun vs H Q _ => ∃ (st : Addr) (m : Int), vs = [.ref st, .int m] ∧ (St K H st) ∧ (m ≤ 1000000000000000000) ∧
  (∀ H' r, Fr st H H' → St K H' st → 0 ≤ r → r < max 1 m → Q (.int r) H')
theorem u__law_take {K : PySem.W.Frag} {H : Hp} {Q : VK} {E : XK} {st : Addr} {m : Int} (h0 : St K H st) (h1 : m ≤ 1000000000000000000)
  (k : ∀ H' r, Fr st H H' → St K H' st → 0 ≤ r → r < max 1 m → Q (.int r) H') : sp__law_take K [.ref st, .int m] H Q E := ⟨st, m, rfl, h0, h1, k⟩
local macro_rules | `(tactic| walk_at "u") => `(tactic| ((with_reducible apply u__law_take); walk_at "st"; (first | assumption | omega); intros))
def sp__law_pick (K : PySem.W.Frag) : Sp := fun vs H Q _ => ∃ (st l : Addr) (xs : List V), vs = [.ref st, .ref l] ∧ (St K H st) ∧ (SqL K H l xs) ∧ (0 < xs.length) ∧ (xs.length ≤ 1000) ∧ (notS xs = true) ∧
  (∀ H' (i : Nat) (v : V), Fr st H H' → St K H' st → xs[i]? = some v → Q v H')
theorem u__law_pick {K : PySem.W.Frag} {H : Hp} {Q : VK} {E : XK} {st l : Addr} {xs : List V} (h0 : St K H st) (h1 : SqL K H l xs) (h2 : 0 < xs.length) (h3 : xs.length ≤ 1000) (h4 : notS xs = true)
  (k : ∀ H' (i : Nat) (v : V), Fr st H H' → St K H' st → xs[i]? = some v → Q v H') : sp__law_pick K [.ref st, .ref l] H Q E := ⟨st, l, xs, rfl, h0, h1, h2, h3, h4, k⟩
local macro_rules | `(tactic| walk_at "u") => `(tactic| ((with_reducible apply u__law_pick); walk_at "st"; walk_at "sl"; (first | assumption | (focus (simp; done))); (first | assumption | (focus (simp; done))); (first | assumption | rfl); intros))
def sp__law_few (K : PySem.W.Frag) : Sp := fun vs H Q _ => ∃ (st : Addr) (m : Int), vs = [.ref st, .int m] ∧ (St K H st) ∧ (0 ≤ m) ∧ (m ≤ 100000) ∧
  (∀ H' r, Fr st H H' → St K H' st → 0 ≤ r → r ≤ m → Q (.int r) H')
theorem u__law_few {K : PySem.W.Frag} {H : Hp} {Q : VK} {E : XK} {st : Addr} {m : Int} (h0 : St K H st) (h1 : 0 ≤ m) (h2 : m ≤ 100000)
  (k : ∀ H' r, Fr st H H' → St K H' st → 0 ≤ r → r ≤ m → Q (.int r) H') : sp__law_few K [.ref st, .int m] H Q E := ⟨st, m, rfl, h0, h1, h2, k⟩
local macro_rules | `(tactic| walk_at "u") => `(tactic| ((with_reducible apply u__law_few); walk_at "st"; (first | assumption | omega); (first | assumption | omega); intros))
def sp__law_wide (K : PySem.W.Frag) : Sp := fun vs H Q _ => ∃ (st : Addr) (m : Int), vs = [.ref st, .int m] ∧ (St K H st) ∧ (0 ≤ m) ∧ (m ≤ 40) ∧
  (∀ H' r, Fr st H H' → St K H' st → 0 ≤ r → r < 10 ^ m.toNat → Q (.int r) H')
theorem u__law_wide {K : PySem.W.Frag} {H : Hp} {Q : VK} {E : XK} {st : Addr} {m : Int} (h0 : St K H st) (h1 : 0 ≤ m) (h2 : m ≤ 40)
  (k : ∀ H' r, Fr st H H' → St K H' st → 0 ≤ r → r < 10 ^ m.toNat → Q (.int r) H') : sp__law_wide K [.ref st, .int m] H Q E := ⟨st, m, rfl, h0, h1, h2, k⟩
local macro_rules | `(tactic| walk_at "u") => `(tactic| ((with_reducible apply u__law_wide); walk_at "st"; (first | assumption | omega); (first | assumption | omega); intros))
def sp__law_integer (K : PySem.W.Frag) : Sp := fun vs H Q _ => ∃ (st : Addr), vs = [.ref st] ∧ (St K H st) ∧
  (∀ H' r, Fr st H H' → St K H' st → B 134 r → Q (.int r) H')
theorem u__law_integer {K : PySem.W.Frag} {H : Hp} {Q : VK} {E : XK} {st : Addr} (h0 : St K H st)
  (k : ∀ H' r, Fr st H H' → St K H' st → B 134 r → Q (.int r) H') : sp__law_integer K [.ref st] H Q E := ⟨st, rfl, h0, k⟩
local macro_rules | `(tactic| walk_at "u") => `(tactic| ((with_reducible apply u__law_integer); walk_at "st"; intros))
def sp__law_gcd (K : PySem.W.Frag) : Sp := fun vs H Q _ => ∃ (x y : Int), vs = [.int x, .int y] ∧
  (∀ H', Same H H' → Q (.int ((Nat.gcd x.natAbs y.natAbs : Nat) : Int)) H')
theorem u__law_gcd {K : PySem.W.Frag} {H : Hp} {Q : VK} {E : XK} {x y : Int} 
  (k : ∀ H', Same H H' → Q (.int ((Nat.gcd x.natAbs y.natAbs : Nat) : Int)) H') : sp__law_gcd K [.int x, .int y] H Q E := ⟨x, y, rfl, k⟩
local macro_rules | `(tactic| walk_at "u") => `(tactic| ((with_reducible apply u__law_gcd); intros))
def sp__law_frac (K : PySem.W.Frag) : Sp := fun vs H Q _ => ∃ (t b : Int), vs = [.int t, .int b] ∧ (B 8990 b) ∧
  (∀ H' p, Same H H' → SqT K H' p [.int ((t : Rat) / b).num, .int (((t : Rat) / b).den : Int)] → Q (.ref p) H')
theorem u__law_frac {K : PySem.W.Frag} {H : Hp} {Q : VK} {E : XK} {t b : Int} (h0 : B 8990 b)
  (k : ∀ H' p, Same H H' → SqT K H' p [.int ((t : Rat) / b).num, .int (((t : Rat) / b).den : Int)] → Q (.ref p) H') : sp__law_frac K [.int t, .int b] H Q E := ⟨t, b, rfl, h0, k⟩
local macro_rules | `(tactic| walk_at "u") => `(tactic| ((with_reducible apply u__law_frac); walk_at "bitsK"; intros))
def sp__law_ratio (K : PySem.W.Frag) : Sp := fun vs H Q _ => ∃ (st : Addr), vs = [.ref st] ∧ (St K H st) ∧
  (∀ H' p q, Fr st H H' → St K H' st → SqT K H' p [.int q.num, .int (q.den : Int)] → BQ 6 q → Q (.ref p) H')
theorem u__law_ratio {K : PySem.W.Frag} {H : Hp} {Q : VK} {E : XK} {st : Addr} (h0 : St K H st)
  (k : ∀ H' p q, Fr st H H' → St K H' st → SqT K H' p [.int q.num, .int (q.den : Int)] → BQ 6 q → Q (.ref p) H') : sp__law_ratio K [.ref st] H Q E := ⟨st, rfl, h0, k⟩
local macro_rules | `(tactic| walk_at "u") => `(tactic| ((with_reducible apply u__law_ratio); walk_at "st"; intros))
def sp__law_wide_ratio (K : PySem.W.Frag) : Sp := fun vs H Q _ => ∃ (st : Addr), vs = [.ref st] ∧ (St K H st) ∧
  (∀ H' p q, Fr st H H' → St K H' st → SqT K H' p [.int q.num, .int (q.den : Int)] → BQ 134 q → Q (.ref p) H')
theorem u__law_wide_ratio {K : PySem.W.Frag} {H : Hp} {Q : VK} {E : XK} {st : Addr} (h0 : St K H st)
  (k : ∀ H' p q, Fr st H H' → St K H' st → SqT K H' p [.int q.num, .int (q.den : Int)] → BQ 134 q → Q (.ref p) H') : sp__law_wide_ratio K [.ref st] H Q E := ⟨st, rfl, h0, k⟩
local macro_rules | `(tactic| walk_at "u") => `(tactic| ((with_reducible apply u__law_wide_ratio); walk_at "st"; intros))
def sp__law_close (K : PySem.W.Frag) : Sp := fun vs H Q _ => ∃ (st x : Addr) (q : Rat), vs = [.ref st, .ref x] ∧ (St K H st) ∧ (SqT K H x [.int q.num, .int (q.den : Int)]) ∧ (BN 6 6 q) ∧
  (∀ H' p q, Fr st H H' → St K H' st → SqT K H' p [.int q.num, .int (q.den : Int)] → BQ 134 q → Q (.ref p) H')
theorem u__law_close {K : PySem.W.Frag} {H : Hp} {Q : VK} {E : XK} {st x : Addr} {q : Rat} (h0 : St K H st) (h1 : SqT K H x [.int q.num, .int (q.den : Int)]) (h2 : BN 6 6 q)
  (k : ∀ H' p q, Fr st H H' → St K H' st → SqT K H' p [.int q.num, .int (q.den : Int)] → BQ 134 q → Q (.ref p) H') : sp__law_close K [.ref st, .ref x] H Q E := ⟨st, x, q, rfl, h0, h1, h2, k⟩
local macro_rules | `(tactic| walk_at "u") => `(tactic| ((with_reducible apply u__law_close); walk_at "st"; walk_at "sqI"; assumption; intros))
def sp__law_is_integer (K : PySem.W.Frag) : Sp := fun vs H Q _ => ∃ (x : Int), vs = [.int x] ∧
  (∀ H', Same H H' → Q (.bl true) H')
theorem u__law_is_integer {K : PySem.W.Frag} {H : Hp} {Q : VK} {E : XK} {x : Int} 
  (k : ∀ H', Same H H' → Q (.bl true) H') : sp__law_is_integer K [.int x] H Q E := ⟨x, rfl, k⟩
local macro_rules | `(tactic| walk_at "u") => `(tactic| ((with_reducible apply u__law_is_integer); intros))
def sp__law_point (K : PySem.W.Frag) : Sp := fun vs H Q _ => ∃ (st : Addr), vs = [.ref st] ∧ (St K H st) ∧
  (∀ H' a q, Fr st H H' → St K H' st → Vc K H' a q → VN 6 6 q → Q (.ref a) H')
theorem u__law_point {K : PySem.W.Frag} {H : Hp} {Q : VK} {E : XK} {st : Addr} (h0 : St K H st)
  (k : ∀ H' a q, Fr st H H' → St K H' st → Vc K H' a q → VN 6 6 q → Q (.ref a) H') : sp__law_point K [.ref st] H Q E := ⟨st, rfl, h0, k⟩
local macro_rules | `(tactic| walk_at "u") => `(tactic| ((with_reducible apply u__law_point); walk_at "st"; intros))
def sp__law_wide_point (K : PySem.W.Frag) : Sp := fun vs H Q _ => ∃ (st : Addr), vs = [.ref st] ∧ (St K H st) ∧
  (∀ H' a q, Fr st H H' → St K H' st → Vc K H' a q → VN 134 134 q → Q (.ref a) H')
theorem u__law_wide_point {K : PySem.W.Frag} {H : Hp} {Q : VK} {E : XK} {st : Addr} (h0 : St K H st)
  (k : ∀ H' a q, Fr st H H' → St K H' st → Vc K H' a q → VN 134 134 q → Q (.ref a) H') : sp__law_wide_point K [.ref st] H Q E := ⟨st, rfl, h0, k⟩
local macro_rules | `(tactic| walk_at "u") => `(tactic| ((with_reducible apply u__law_wide_point); walk_at "st"; intros))
def sp__law_is_ratio (K : PySem.W.Frag) : Sp := fun vs H Q _ => ∃ (p : Addr) (q : Rat), vs = [.ref p] ∧ (SqT K H p [.int q.num, .int (q.den : Int)]) ∧
  (∀ H', Same H H' → Q (.bl true) H')
theorem u__law_is_ratio {K : PySem.W.Frag} {H : Hp} {Q : VK} {E : XK} {p : Addr} {q : Rat} (h0 : SqT K H p [.int q.num, .int (q.den : Int)])
  (k : ∀ H', Same H H' → Q (.bl true) H') : sp__law_is_ratio K [.ref p] H Q E := ⟨p, q, rfl, h0, k⟩
local macro_rules | `(tactic| walk_at "u") => `(tactic| ((with_reducible apply u__law_is_ratio); walk_at "sq"; intros))
def sp__law_is_vector (K : PySem.W.Frag) : Sp := fun vs H Q _ => ∃ (v : Addr) (p : V3), vs = [.ref v] ∧ (Vc K H v p) ∧
  (∀ H', Same H H' → Q (.bl true) H')
theorem u__law_is_vector {K : PySem.W.Frag} {H : Hp} {Q : VK} {E : XK} {v : Addr} {p : V3} (h0 : Vc K H v p)
  (k : ∀ H', Same H H' → Q (.bl true) H') : sp__law_is_vector K [.ref v] H Q E := ⟨v, p, rfl, h0, k⟩
local macro_rules | `(tactic| walk_at "u") => `(tactic| ((with_reducible apply u__law_is_vector); walk_at "vc"; intros))
def sp__law_menu (K : PySem.W.Frag) : Sp := fun vs H Q _ => ∃ (st : Addr), vs = [.ref st] ∧ (St K H st) ∧
  (∀ H' r qs, Fr st H H' → St K H' st → r ≠ st → QL K H' r qs → 1 ≤ qs.length → qs.length ≤ 6 → (∀ q, q ∈ qs → BN 134 134 q) → Q (.ref r) H')
theorem u__law_menu {K : PySem.W.Frag} {H : Hp} {Q : VK} {E : XK} {st : Addr} (h0 : St K H st)
  (k : ∀ H' r qs, Fr st H H' → St K H' st → r ≠ st → QL K H' r qs → 1 ≤ qs.length → qs.length ≤ 6 → (∀ q, q ∈ qs → BN 134 134 q) → Q (.ref r) H') : sp__law_menu K [.ref st] H Q E := ⟨st, rfl, h0, k⟩
local macro_rules | `(tactic| walk_at "u") => `(tactic| ((with_reducible apply u__law_menu); walk_at "st"; intros))
def sp__law_listed (K : PySem.W.Frag) : Sp := fun vs H Q _ => ∃ (st l : Addr) (qs : List Rat) (n : Int), vs = [.ref st, .ref l, .int n] ∧ (St K H st) ∧ (QL K H l qs) ∧ (1 ≤ qs.length) ∧ (qs.length ≤ 6) ∧ (∀ q, q ∈ qs → BN 134 134 q) ∧ (0 ≤ n) ∧ (n ≤ 60) ∧
  (∀ H' r ps, Fr st H H' → St K H' st → r ≠ st → VL K H' r ps → (ps.length : Int) = n → (∀ p, p ∈ ps → VN 134 134 p) → Q (.ref r) H')
theorem u__law_listed {K : PySem.W.Frag} {H : Hp} {Q : VK} {E : XK} {st l : Addr} {qs : List Rat} {n : Int} (h0 : St K H st) (h1 : QL K H l qs) (h2 : 1 ≤ qs.length) (h3 : qs.length ≤ 6) (h4 : ∀ q, q ∈ qs → BN 134 134 q) (h5 : 0 ≤ n) (h6 : n ≤ 60)
  (k : ∀ H' r ps, Fr st H H' → St K H' st → r ≠ st → VL K H' r ps → (ps.length : Int) = n → (∀ p, p ∈ ps → VN 134 134 p) → Q (.ref r) H') : sp__law_listed K [.ref st, .ref l, .int n] H Q E := ⟨st, l, qs, n, rfl, h0, h1, h2, h3, h4, h5, h6, k⟩
local macro_rules | `(tactic| walk_at "u") => `(tactic| ((with_reducible apply u__law_listed); walk_at "st"; walk_at "ql"; (first | assumption | omega); (first | assumption | omega); assumption; (first | assumption | omega); (first | assumption | omega); intros))
def sp__law_lies (K : PySem.W.Frag) : Sp := fun vs H Q _ => ∃ (u v : Addr) (p q : V3), vs = [.ref u, .ref v] ∧ (Vc K H u p) ∧ (Vc K H v q) ∧ (VN 134 134 p) ∧ (VN 134 134 q) ∧
  (∀ H' r, Same H H' → (lt3 p q → r = -1) → (lt3 q p → r = 1) → (p = q → r = 0) → Q (.int r) H')
theorem u__law_lies {K : PySem.W.Frag} {H : Hp} {Q : VK} {E : XK} {u v : Addr} {p q : V3} (h0 : Vc K H u p) (h1 : Vc K H v q) (h2 : VN 134 134 p) (h3 : VN 134 134 q)
  (k : ∀ H' r, Same H H' → (lt3 p q → r = -1) → (lt3 q p → r = 1) → (p = q → r = 0) → Q (.int r) H') : sp__law_lies K [.ref u, .ref v] H Q E := ⟨u, v, p, q, rfl, h0, h1, h2, h3, k⟩
local macro_rules | `(tactic| walk_at "u") => `(tactic| ((with_reducible apply u__law_lies); walk_at "vc"; walk_at "vc"; assumption; assumption; intros))
def sp__law_sorted (K : PySem.W.Frag) : Sp := fun vs H Q _ => ∃ (l u : Addr) (ts qs : List V3), vs = [.ref l, .ref u] ∧ (VL K H l ts) ∧ (VL K H u qs) ∧ (ts.Pairwise lt3) ∧ (∀ q, q ∈ ts ↔ q ∈ qs) ∧ (∀ q, q ∈ qs → VN 134 134 q) ∧ (ts.length ≤ 100) ∧ (qs.length ≤ 100) ∧
  (∀ H', Same H H' → Q (.bl true) H')
theorem u__law_sorted {K : PySem.W.Frag} {H : Hp} {Q : VK} {E : XK} {l u : Addr} {ts qs : List V3} (h0 : VL K H l ts) (h1 : VL K H u qs) (h2 : ts.Pairwise lt3) (h3 : ∀ q, q ∈ ts ↔ q ∈ qs) (h4 : ∀ q, q ∈ qs → VN 134 134 q) (h5 : ts.length ≤ 100) (h6 : qs.length ≤ 100)
  (k : ∀ H', Same H H' → Q (.bl true) H') : sp__law_sorted K [.ref l, .ref u] H Q E := ⟨l, u, ts, qs, rfl, h0, h1, h2, h3, h4, h5, h6, k⟩
local macro_rules | `(tactic| walk_at "u") => `(tactic| ((with_reducible apply u__law_sorted); walk_at "vl"; walk_at "vl"; assumption; assumption; assumption; (first | assumption | omega); (first | assumption | omega); intros))
def sp__law_again (K : PySem.W.Frag) : Sp := fun vs H Q _ => ∃ (st l am : Addr) (qs : List V3) (x : V3), vs = [.ref st, .ref l, .ref am] ∧ (St K H st) ∧ (LamX.Tabs [(tabOf K "sort_points", "sort_points.<locals>.<lambda>")] H) ∧ (VL K H l qs) ∧ (∀ q, q ∈ qs → VN 134 134 q) ∧ (qs.length ≤ 48) ∧ (Vc K H am x) ∧ (VN 134 134 x) ∧
  (∀ H', FrN st H H' → St K H' st → LamX.Tabs [(tabOf K "sort_points", "sort_points.<locals>.<lambda>")] H' → Q (.bl true) H')
theorem u__law_again {K : PySem.W.Frag} {H : Hp} {Q : VK} {E : XK} {st l am : Addr} {qs : List V3} {x : V3} (h0 : St K H st) (h1 : LamX.Tabs [(tabOf K "sort_points", "sort_points.<locals>.<lambda>")] H) (h2 : VL K H l qs) (h3 : ∀ q, q ∈ qs → VN 134 134 q) (h4 : qs.length ≤ 48) (h5 : Vc K H am x) (h6 : VN 134 134 x)
  (k : ∀ H', FrN st H H' → St K H' st → LamX.Tabs [(tabOf K "sort_points", "sort_points.<locals>.<lambda>")] H' → Q (.bl true) H') : sp__law_again K [.ref st, .ref l, .ref am] H Q E := ⟨st, l, am, qs, x, rfl, h0, h1, h2, h3, h4, h5, h6, k⟩
local macro_rules | `(tactic| walk_at "u") => `(tactic| ((with_reducible apply u__law_again); walk_at "st"; assumption; walk_at "vl"; assumption; (first | assumption | omega); walk_at "vc"; assumption; intros))
def sp_law (K : PySem.W.Frag) : Sp := fun vs H Q _ => ∃ (sa : Addr) (ns : List Int), vs = [.ref sa] ∧ (SqL K H sa (ns.map V.int)) ∧ (ns.length ≤ 63) ∧ (LamX.Tabs [(tabOf K "sort_points", "sort_points.<locals>.<lambda>")] H) ∧
  (∀ H', Q (.bl true) H')
theorem u_law {K : PySem.W.Frag} {H : Hp} {Q : VK} {E : XK} {sa : Addr} {ns : List Int} (h0 : SqL K H sa (ns.map V.int)) (h1 : ns.length ≤ 63) (h2 : LamX.Tabs [(tabOf K "sort_points", "sort_points.<locals>.<lambda>")] H)
  (k : ∀ H', Q (.bl true) H') : sp_law K [.ref sa] H Q E := ⟨sa, ns, rfl, h0, h1, h2, k⟩
local macro_rules | `(tactic| walk_at "u") => `(tactic| ((with_reducible apply u_law); walk_at "sl"; (first | assumption | omega); assumption; intros))
section
variable {P : Program} {w : World} {K : PySem.W.Frag} {mg : Str → Option Value} {base : Heap}
abbrev s_integer_sign : Stmt := top 1
theorem sc_integer_sign : FnScope ["number"] ["number"] (defScope s_integer_sign) := ⟨rfl, rfl, rfl, by decide +kernel, rfl, by decide +kernel, by decide +kernel⟩
set_option Elab.async true in
set_option maxHeartbeats 4000000 in
theorem ok_integer_sign {f : Addr} {fd : FuncData} (F : FunA K "integer_sign" "integer_sign" s_integer_sign f fd) (T : BltN mg) : FnOk P w K mg base CX0 1 f fd ["number"] (sp_integer_sign K) := by
  refine F.ok sc_integer_sign (fun vs H Q E h => ?_) (fun cdv A outer s H vs Q E hr h => ?_)
  · obtain ⟨_, rfl, _⟩ := h
    rfl
  · obtain ⟨x, rfl, k⟩ := h
    refine ⟨_, (pss_cons (ps_if (pt_cmpR op_gt (pv 0) pe_int (nomark _))
 (pss_one (ps_ret pe_int))
 pss_nil)
 (pss_cons (ps_if (pt_cmpR op_lt (pv 0) pe_int (nomark _))
 (pss_one (ps_ret (pe_un un_neg pe_int)))
 pss_nil)
 (pss_one (ps_ret pe_int)))), ?_⟩
    walk_at "a"
    all_goals exact k _ _ (by walk_at "same") (by omega) (by omega) (by omega)
in #guard_msgs in universe u_z
abbrev s_compare : Stmt := top 2
theorem sc_compare : FnScope ["x", "y"] ["x", "y"] (defScope s_compare) := ⟨rfl, rfl, rfl, by decide +kernel, rfl, by decide +kernel, by decide +kernel⟩
set_option Elab.async true in
set_option maxHeartbeats 4000000 in
theorem ok_compare {f : Addr} {fd : FuncData} (F : FunA K "compare" "compare" s_compare f fd) (T : BltN mg) (C_integer_sign : Cal P w K mg base "integer_sign" 1 ["number"] (sp_integer_sign K)) : FnOk P w K mg base CX0 2 f fd ["x", "y"] (sp_compare K) := by
  refine F.ok sc_compare (fun vs H Q E h => ?_) (fun cdv A outer s H vs Q E hr h => ?_)
  · obtain ⟨_, _, _, _, _, _, _, _, rfl, _⟩ := h
    rfl
  · obtain ⟨x, y, p, q, n1, d1, n2, d2, rfl, h0, h1, h2, h3, h4, k⟩ := h
    refine ⟨_, (pss_one (ps_ret (pc C_integer_sign (hr.mono (by decide)) (by rfl) (pa_cons (pe_op op_sub (pe_op op_mulW (pe_ix (kx_tup (K := K) rfl) (pv 0) pe_int (fun _ _ => rfl)) (pe_ix (kx_tup (K := K) rfl) (pv 1) pe_int (fun _ _ => rfl))) (pe_op op_mulW (pe_ix (kx_tup (K := K) rfl) (pv 1) pe_int (fun _ _ => rfl)) (pe_ix (kx_tup (K := K) rfl) (pv 0) pe_int (fun _ _ => rfl)))) pa_nil)))), ?_⟩
    have l1 := Rat.lt_iff p q
    have l2 := Rat.lt_iff q p
    walk_at "a"
    rename_i H1 r s1 g1 g2 g3
    exact k _ _ (by walk_at "same") (fun h => g2 (by have := l1.1 h; omega)) (fun h => g1 (by have := l2.1 h; omega)) (fun h => g3 (by subst h; omega))
in #guard_msgs in universe u_z
abbrev s_key_shift : Stmt := top 3
theorem sc_key_shift : FnScope ["values", "x"] ["values"] (defScope s_key_shift) := ⟨rfl, rfl, rfl, by decide +kernel, rfl, by decide +kernel, by decide +kernel⟩
set_option Elab.async true in
set_option maxHeartbeats 4000000 in
theorem ok_key_shift {f : Addr} {fd : FuncData} (F : FunA K "key_shift" "key_shift" s_key_shift f fd) (T : BltN mg) : FnOk P w K mg base CX0 1 f fd ["values"] (sp_key_shift K) := by
  refine F.ok sc_key_shift (fun vs H Q E h => ?_) (fun cdv A outer s H vs Q E hr h => ?_)
  · obtain ⟨_, _, rfl, _⟩ := h
    rfl
  · obtain ⟨l, qs, rfl, h0, h1, h2, k⟩ := h
    refine ⟨_, (pss_one (ps_ret (pe_op op_mulW pe_int (pe_callBK (kc_maxdef (K := K) rfl hr.hd (hu_of64 hr)) (by rfl) T.max (by decide +kernel) (pa_cons (pe_lc (own := [("x", 1)]) rfl sc_key_shift.nd (kp_list (K := K) rfl (pv 0)) (blkOk_by (own := [("x", 1)]) (N := ["values", "x"]) (sc := defScope s_key_shift) (by decide +kernel)) (fun _ _ _ _ _ => (pg_name (i := 1) sc_key_shift.nd rfl (.inl rfl))) (fun _ _ _ _ _ => pts_nil) (fun _ _ _ _ _ => (pe_bits (pe_ix (kx_tup (K := K) rfl) (pv 1) pe_int (fun _ _ => rfl))))) pa_nil) (pk_cons pe_int pk_nil))))), ?_⟩
    obtain ⟨acc, ha, hq⟩ := h0
    have l1 := hq.len
    walk_at "g"
    refine w_ckw ?_
    walk_at "g"
    intro Da hD
    refine lc_lstH (K := K) (xs := acc) (Same H) (fun i ac H' => ac = (qs.take i).map (fun q => V.int ((Builtin.Int.intBits (q.den : Int) : Nat) : Int))) (Same.new hD) (by simp) (fun H1 _ _ g => SqL.of (g _ _ ha)) (fun _ => rfl) ?_ ?_
    · rintro i x ac H1 hi hacc hDa g J
      obtain ⟨a, q, rfl, eq, hqa⟩ := hq.get' hi
      have hi2 : i < acc.length := (List.getElem?_eq_some_iff.1 hi).1
      have hq1 := Same.tup g hqa
      refine w_bits ?_
      walk_at "g"
      refine ⟨_, rfl, ?_⟩
      refine r_lcQ2 (by omega) hacc hDa (Same.mut g hD) ?_
      rw [J, List.take_add_one, eq]
      simp
    rintro ac H1 hac hDa s1 J
    rw [l1, List.take_length] at J
    subst J
    walk_at "g"
    refine ⟨Da, qs.map (fun q => ((Builtin.Int.intBits (q.den : Int) : Nat) : Int)), 0, rfl, rfl, SqL.of (by rw [List.map_map]; exact hDa), fun e => ?_, fun m hm hy => ?_⟩
    · have e0 : qs = [] := List.map_eq_nil_iff.1 e
      subst e0
      walk_at "g"
      exact k _ 0 s1 (fun q h => by cases h) (by omega)
    · obtain ⟨q, hq0, rfl⟩ := List.mem_map.1 hm
      have bm := bits_le (h1 q hq0).d
      have bm2 : B 12 ((Builtin.Int.intBits (q.den : Int) : Nat) : Int) := B.rng (by omega) (by omega)
      walk_at "g"
      refine k _ (Builtin.Int.intBits (q.den : Int)) s1 (fun x hx => ?_) bm
      have h2 := hy _ (List.mem_map.2 ⟨x, hx, rfl⟩)
      exact Nat.lt_of_lt_of_le (bits_lt x.den) (Nat.pow_le_pow_right (by decide) (by omega))
in #guard_msgs in universe u_z
abbrev s_sort_key : Stmt := top 4
theorem sc_sort_key : FnScope ["x", "shift"] ["x", "shift"] (defScope s_sort_key) := ⟨rfl, rfl, rfl, by decide +kernel, rfl, by decide +kernel, by decide +kernel⟩
set_option Elab.async true in
set_option maxHeartbeats 4000000 in
theorem ok_sort_key {f : Addr} {fd : FuncData} (F : FunA K "sort_key" "sort_key" s_sort_key f fd) (T : BltN mg) : FnOk P w K mg base CX0 1 f fd ["x", "shift"] (sp_sort_key K) := by
  refine F.ok sc_sort_key (fun vs H Q E h => ?_) (fun cdv A outer s H vs Q E hr h => ?_)
  · obtain ⟨_, _, _, rfl, _⟩ := h
    rfl
  · obtain ⟨x, q, m, rfl, h0, h1, h2, k⟩ := h
    refine ⟨_, (pss_one (ps_ret (pe_op op_fdivZ (pe_op op_shlW (pe_ix (kx_tup (K := K) rfl) (pv 0) pe_int (fun _ _ => rfl)) (pv 1)) (pe_ix (kx_tup (K := K) rfl) (pv 0) pe_int (fun _ _ => rfl))))), ?_⟩
    walk_at "g"
    refine ⟨q.num, 2 * (m : Int), rfl, rfl, ⟨by omega, ?_⟩, ?_⟩
    · have := bits_le h1.n
      omega
    have e : (2 * (m : Int)).toNat = 2 * m := by omega
    dsimp only
    rw [e]
    have d0 := denP q
    have bd := h1.d
    have cz : CDivZ (q.num * 2 ^ (2 * m)) (q.den : Int) := B.cdiv (by omega) bd (by decide)
    walk_at "g"
    exact k _ (by walk_at "same")
in #guard_msgs in universe u_z
abbrev s_without_repeats : Stmt := top 5
theorem sc_without_repeats : FnScope ["ordered", "k", "x"] ["ordered"] (defScope s_without_repeats) := ⟨rfl, rfl, rfl, by decide +kernel, rfl, by decide +kernel, by decide +kernel⟩
set_option Elab.async true in
set_option maxHeartbeats 4000000 in
theorem ok_without_repeats {f : Addr} {fd : FuncData} (F : FunA K "without_repeats" "without_repeats" s_without_repeats f fd) (T : BltN mg) (TB_enumerate : mg "enumerate" = none) : FnOk P w K mg base CX0 1 f fd ["ordered"] (sp_without_repeats K) := by
  refine F.ok sc_without_repeats (fun vs H Q E h => ?_) (fun cdv A outer s H vs Q E hr h => ?_)
  · obtain ⟨_, _, rfl, _⟩ := h
    rfl
  · obtain ⟨l, qs, rfl, h0, h1, h2, k⟩ := h
    refine ⟨_, (pss_one (ps_ret (pe_lc (own := [("k", 1), ("x", 2)]) rfl sc_without_repeats.nd (kp_enum (K := K) rfl (pi_enum (by rfl) TB_enumerate (pa_cons (pv 0) pa_nil))) (blkOk_by (own := [("k", 1), ("x", 2)]) (N := ["ordered", "k", "x"]) (sc := defScope s_without_repeats) (by decide +kernel)) (fun _ _ _ _ _ => (kg_tup (K := K) (n := 2) rfl rfl (pgs_cons (pg_name (i := 1) sc_without_repeats.nd rfl (.inl rfl)) (pgs_cons (pg_name (i := 2) sc_without_repeats.nd rfl (.inl rfl)) pgs_nil)))) (fun _ _ _ _ _ => (pts_one (PW.pt (pw_or (pt_cmpR op_eq (pv 1) pe_int (nomark _)) (pw_or1 (pt_cmpR (ko_neD (K := K) rfl (hu_of64 hr)) (pv 2) (pe_ix (kx_list (K := K) rfl) (pv 0) (pe_op op_sub (pv 1) pe_int) (fun _ _ => rfl)) (nomark _))))))) (fun _ _ _ _ _ => (pv 2))))), ?_⟩
    obtain ⟨acc, ha, hq⟩ := h0
    have l1 := hq.len
    walk_at "g"
    refine w_enum ?_
    walk_at "g"
    refine ⟨l, acc, rfl, SqL.of ha, ?_⟩
    intro Da hD
    refine lc_enum (K := K) (a := l) (xs := acc) (fun i H' => ∃ (ac : List V) (ts : List V3), H' Da = some (.lst ac) ∧ Same H H' ∧ VcL K H' ac ts ∧ ac.length ≤ i ∧ ts.Pairwise lt3 ∧ ∀ q, q ∈ ts ↔ q ∈ qs.take i) ⟨[], [], upd_same, Same.new hD, .nil, Nat.le_refl _, .nil, fun q => by simp⟩ (fun i H' _ ⟨_, _, _, g, _⟩ => SqL.of (g _ _ ha)) ?_ ?_
    · rintro i x T H1 H2 ex ⟨ac, ts, hDa, g, J, la, pw, mm⟩ s2 hT
      have hi : i < acc.length := (List.getElem?_eq_some_iff.1 ex).1
      obtain ⟨a, q, rfl, eq, hqa⟩ := hq.get' ex
      walk_at "g"
      have mn : ∀ x, x ∈ qs.take (i + 1) ↔ x ∈ qs.take i ∨ x = q := fun x => by rw [List.take_add_one, eq]; simp
      have app : ∀ H3, Same H1 H3 → (∀ t, t ∈ ts → lt3 t q) → ∃ acc, H3 Da = some (HO.lst acc) ∧ acc.length < sizeLine ∧ ∃ (ac : List V) (ts : List V3), upd H3 Da (.lst (acc ++ [.ref a])) Da = some (.lst ac) ∧ Same H (upd H3 Da (.lst (acc ++ [.ref a]))) ∧ VcL K (upd H3 Da (.lst (acc ++ [.ref a]))) ac ts ∧ ac.length ≤ i + 1 ∧ ts.Pairwise lt3 ∧ ∀ q, q ∈ ts ↔ q ∈ qs.take (i + 1) := fun H3 s3 ht =>
        ⟨ac, s3 _ _ hDa, by have : (10000 : Nat) < sizeLine := by decide
                            omega, ac ++ [.ref a], ts ++ [q], upd_same, Same.mut (g.trans s3) hD, VcL.tk (TK.upd (s3 _ _ hDa)) ((J.tk (TK.same s3)).snoc (Vc.same (g.trans s3) hqa)), by simp; omega, List.pairwise_append.2 ⟨pw, by simp, fun x hx y hy => by rw [List.mem_singleton.1 hy]; exact ht x hx⟩, fun x => by rw [mn, List.mem_append, List.mem_singleton, mm]⟩
      refine ⟨rfl, ?_⟩
      walk_at "g"
      refine if_eqI (fun e0 => ?_) (fun e0 => ?_)
      · walk_at "g"
        refine app _ s2 (fun t ht => ?_)
        have := (mm t).1 ht
        have e1 : i = 0 := by omega
        rw [e1] at this
        simp at this
      · have hj : i - 1 < acc.length := by omega
        have ey := List.getElem?_eq_getElem hj
        generalize acc[i - 1]'hj = y at ey
        obtain ⟨a', q', rfl, eq', hqa'⟩ := hq.get' ey
        have hqa2 := Vc.same (g.trans s2) hqa
        have hqa2' := Vc.same (g.trans s2) hqa'
        have ix : atI acc ((i : Int) - 1) = some (.ref a') := by
          have := atI_nat ey
          rw [show ((i - 1 : Nat) : Int) = (i : Int) - 1 by omega] at this
          exact this
        walk_at "g"
        rw [eqv_vq]
        by_cases hqq : q = q'
        · rw [hqq, decide_eq_true rfl, if_neg (by decide)]
          refine ⟨ac, ts, s2 _ _ hDa, g.trans s2, J.tk (TK.same s2), by omega, pw, fun x => ?_⟩
          rw [mn, mm]
          refine ⟨.inl, fun h => h.elim id (fun h => ?_)⟩
          rw [h, hqq]
          refine List.mem_of_getElem? (i := i - 1) ?_
          rw [List.getElem?_take_of_lt (by omega)]
          exact eq'
        · rw [decide_eq_false hqq, if_pos (by decide)]
          walk_at "g"
          refine app _ s2 (fun t ht => ?_)
          obtain ⟨j, hj2⟩ := List.mem_iff_getElem?.1 ((mm t).1 ht)
          have hji : j < i := by
            have := (List.getElem?_eq_some_iff.1 hj2).1
            rw [List.length_take] at this
            omega
          rw [List.getElem?_take_of_lt hji] at hj2
          have hle : ∀ x y, qs[x]? = some t → qs[y]? = some q' → x ≤ y → le3 t q' := fun x y h1' h2' hxy => by
            rcases Nat.lt_or_eq_of_le hxy with h | h
            · obtain ⟨b1, c1⟩ := List.getElem?_eq_some_iff.1 h1'
              obtain ⟨b2, c2⟩ := List.getElem?_eq_some_iff.1 h2'
              rw [← c1, ← c2]
              exact List.pairwise_iff_getElem.1 h2 x y b1 b2 h
            · subst h
              rw [h1'] at h2'
              cases h2'
              exact .inr rfl
          have h3 : le3 t q' := hle j (i - 1) hj2 eq' (by omega)
          have h4 : le3 q' q := by
            obtain ⟨b1, c1⟩ := List.getElem?_eq_some_iff.1 eq'
            obtain ⟨b2, c2⟩ := List.getElem?_eq_some_iff.1 eq
            rw [← c1, ← c2]
            exact List.pairwise_iff_getElem.1 h2 (i - 1) i b1 b2 (by omega)
          rcases h3 with h3 | rfl
          · exact lt3_trans h3 (le3_lt h4 hqq)
          · exact le3_lt h4 hqq
    · rintro H1 ⟨ac, ts, hDa, g, J, la, pw, mm⟩
      rw [l1, List.take_length] at mm
      have l3 := J.len
      exact k _ Da ts g hD ⟨ac, hDa, J⟩ pw mm (by omega)
in #guard_msgs in universe u_z
abbrev s_compare_points : Stmt := top 7
theorem sc_compare_points : FnScope ["p", "q", "x", "y", "order"] ["p", "q"] (defScope s_compare_points) := ⟨rfl, rfl, rfl, by decide +kernel, rfl, by decide +kernel, by decide +kernel⟩
set_option Elab.async true in
set_option maxHeartbeats 4000000 in
theorem ok_compare_points {f : Addr} {fd : FuncData} (F : FunA K "compare_points" "compare_points" s_compare_points f fd) (T : BltN mg) (C_compare : Cal P w K mg base "compare" 2 ["x", "y"] (sp_compare K)) : FnOk P w K mg base CX0 3 f fd ["p", "q"] (sp_compare_points K) := by
  refine F.ok sc_compare_points (fun vs H Q E h => ?_) (fun cdv A outer s H vs Q E hr h => ?_)
  · obtain ⟨_, _, _, _, rfl, _⟩ := h
    rfl
  · obtain ⟨u, v, p, q, rfl, h0, h1, h2, h3, k⟩ := h
    refine ⟨_, (pss_cons (ps_for PassesOwn.never rfl (kp_zip (K := K) rfl (by rfl) T.zip (pa_cons (pv 0) (pa_cons (pv 1) pa_nil))) (kg_tup (K := K) (n := 2) rfl rfl (pgs_cons (pg_name (i := 2) sc_compare_points.nd rfl (.inl rfl)) (pgs_cons (pg_name (i := 3) sc_compare_points.nd rfl (.inl rfl)) pgs_nil)))
 (pss_cons (ps_set (i := 4) sc_compare_points.nd rfl (.inl rfl) (pc C_compare (hr.mono (by decide)) (by rfl) (pa_cons (pv 2) (pa_cons (pv 3) pa_nil))))
 (pss_one (ps_if (pt_cmpR op_ne (pv 4) pe_int (nomark _))
 (pss_one (ps_ret (pv 4)))
 pss_nil))))
 (pss_one (ps_ret pe_int))), ?_⟩
    obtain ⟨a0, a1, a2, hu, ha0, ha1, ha2⟩ := id h0
    obtain ⟨b0, b1, b2, hv, hb0, hb1, hb2⟩ := id h1
    obtain ⟨px, py, pz⟩ := id h2
    obtain ⟨qx, qy, qz⟩ := id h3
    walk_at "g"
    refine f_zT (K := K) (xs := [.ref a0, .ref a1, .ref a2]) (ys := [.ref b0, .ref b1, .ref b2]) rfl (fun i σ' H' => ∃ o2 o3 o4, σ' = [some (.ref u), some (.ref v), o2, o3, o4] ∧ Same H H' ∧ (0 < i → p.x = q.x) ∧ (1 < i → p.y = q.y) ∧ (2 < i → p.z = q.z)) ⟨_, _, _, rfl, Same.refl _, (fun h => absurd h (by decide)), (fun h => absurd h (by decide)), (fun h => absurd h (by decide))⟩ (fun i σ' H' ⟨_, _, _, _, s, _⟩ => ⟨Same.tup s hu, Same.tup s hv⟩) ?_ ?_
    · rintro i x y T σ' H1 H2 ex ey ⟨o2, o3, o4, rfl, s1, e0, e1, e2⟩ s2 hT
      have hi : i < 3 := (List.getElem?_eq_some_iff.1 ex).1
      obtain rfl | rfl | rfl : i = 0 ∨ i = 1 ∨ i = 2 := by omega
      · cases ex
        cases ey
        have hx2 := Same.tup (s1.trans s2) ha0
        have hy2 := Same.tup (s1.trans s2) hb0
        walk_at "g"
        rename_i H3 r s3 c1 c2 c3
        refine if_neI (fun hne => ?_) (fun he => ?_)
        · walk_at "g"
          have z := tel_x c1 c2 c3 hne
          exact k _ _ (by walk_at "same") z.lt z.gt z.eq
        · walk_at "g"
          exact ⟨_, _, _, rfl, by walk_at "same", (fun _ => cmp_eq c1 c2 he), (fun h => absurd h (by decide)), (fun h => absurd h (by decide))⟩
      · cases ex
        cases ey
        have hx2 := Same.tup (s1.trans s2) ha1
        have hy2 := Same.tup (s1.trans s2) hb1
        walk_at "g"
        rename_i H3 r s3 c1 c2 c3
        refine if_neI (fun hne => ?_) (fun he => ?_)
        · walk_at "g"
          have z := tel_y (e0 (by decide)) c1 c2 c3 hne
          exact k _ _ (by walk_at "same") z.lt z.gt z.eq
        · walk_at "g"
          exact ⟨_, _, _, rfl, by walk_at "same", (fun _ => e0 (by decide)), (fun _ => cmp_eq c1 c2 he), (fun h => absurd h (by decide))⟩
      · cases ex
        cases ey
        have hx2 := Same.tup (s1.trans s2) ha2
        have hy2 := Same.tup (s1.trans s2) hb2
        walk_at "g"
        rename_i H3 r s3 c1 c2 c3
        refine if_neI (fun hne => ?_) (fun he => ?_)
        · walk_at "g"
          have z := tel_z (e0 (by decide)) (e1 (by decide)) c1 c2 c3 hne
          exact k _ _ (by walk_at "same") z.lt z.gt z.eq
        · walk_at "g"
          exact ⟨_, _, _, rfl, by walk_at "same", (fun _ => e0 (by decide)), (fun _ => e1 (by decide)), (fun _ => cmp_eq c1 c2 he)⟩
    · rintro σ' H1 ⟨o2, o3, o4, rfl, s1, e0, e1, e2⟩
      have z := tel_eq (e0 (by simp)) (e1 (by simp)) (e2 (by simp))
      walk_at "g"
      exact k _ _ s1 z.lt z.gt z.eq
in #guard_msgs in universe u_z
abbrev s_sort_points : Stmt := top 8
theorem sc_sort_points : FnScope ["points", "shift", "p", "part", "ordered"] ["points"] (defScope s_sort_points) := ⟨rfl, rfl, rfl, by decide +kernel, rfl, by decide +kernel, by decide +kernel⟩
set_option Elab.async true in
set_option maxHeartbeats 4000000 in
theorem ok_sort_points {f : Addr} {fd : FuncData} (F : FunC K "sort_points" "sort_points" s_sort_points f fd (codeOf K "sort_points")) (T : BltN mg) (TBc : LamX.TabB base mg (codeOf K "sort_points") (tabOf K "sort_points")) (C_key_shift : Cal P w K mg base "key_shift" 1 ["values"] (sp_key_shift K)) (C_without_repeats : Cal P w K mg base "without_repeats" 1 ["ordered"] (sp_without_repeats K)) (C_sort_key : Cal P w K mg base "sort_key" 1 ["x", "shift"] (sp_sort_key K)) (TB_sorted : mg "sorted" = none) : FnOk P w K mg base CX0 7 f fd ["points"] (sp_sort_points K) := by
  refine F.ok sc_sort_points (fun vs H Q E h => ?_) (fun cdv hcdv A outer s H vs Q E hr h => ?_)
  · obtain ⟨_, _, rfl, _⟩ := h
    rfl
  · obtain ⟨l, ps, rfl, h0, h1, h2, h3, k⟩ := h
    subst hcdv
    refine ⟨_, (pss_cons (ps_set (i := 1) sc_sort_points.nd rfl (.inr rfl) (pc C_key_shift (hr.mono (by decide)) (by rfl) (pa_cons (pe_lc2 (own := [("p", 2), ("part", 3)]) (vs1 := [3]) rfl sc_sort_points.nd (kp_list (K := K) rfl (pv 0)) (blkOk_by (own := [("p", 2), ("part", 3)]) (N := ["points", "shift", "p", "part", "ordered"]) (sc := defScope s_sort_points) (by decide +kernel)) (by decide) (fun _ _ _ _ _ => (pg_name (i := 2) sc_sort_points.nd rfl (.inl rfl))) (fun _ _ _ _ _ => pts_nil) (fun _ _ _ _ _ => (kp_tup (K := K) rfl (pv 2))) (fun _ _ _ _ _ => (pg_name (i := 3) sc_sort_points.nd rfl (.inl rfl))) (fun _ _ _ _ _ => pts_nil) (fun _ _ _ _ _ => (pv 3))) pa_nil)))
 (pss_cons (ps_set (i := 4) sc_sort_points.nd rfl (.inl rfl) (pe_srtL (T := [(tabOf K "sort_points", "sort_points.<locals>.<lambda>")]) (N := ["p", "shift"]) (fr := ["shift"]) (js := [1]) (x := "p") (k := 3) (by rfl) TB_sorted (pa_cons (pv 0) pa_nil) TBc rfl (List.mem_cons_self) (fun p hp _ => by rw [List.mem_singleton.1 hp]; rfl) rfl (NdefX.ndef_free (sc := defScope s_sort_points) (fr := ["shift"]) (by decide +kernel)) (NdefX.nscope_by (by decide +kernel)) (NdefX.ndef_fr (sc := defScope s_sort_points) (by decide +kernel)) (by rfl) (fun _ _ _ _ _ us hl => match us, hl with | [_], _ => rfl) (hr.mono (by decide)) (fun q cl f c' A outer s H E hr => (pe_tup (pa_cons (pc C_sort_key (hr.mono (by decide)) (by rfl) (pa_cons (pe_ix (kx_tup (K := K) rfl) (pv 0) pe_int (fun _ _ => rfl)) (pa_cons (pv 1) pa_nil))) (pa_cons (pc C_sort_key (hr.mono (by decide)) (by rfl) (pa_cons (pe_ix (kx_tup (K := K) rfl) (pv 0) pe_int (fun _ _ => rfl)) (pa_cons (pv 1) pa_nil))) (pa_cons (pc C_sort_key (hr.mono (by decide)) (by rfl) (pa_cons (pe_ix (kx_tup (K := K) rfl) (pv 0) pe_int (fun _ _ => rfl)) (pa_cons (pv 1) pa_nil))) pa_nil)))))))
 (pss_one (ps_ret (pc C_without_repeats (hr.mono (by decide)) (by rfl) (pa_cons (pv 4) pa_nil)))))), ?_⟩
    obtain ⟨acc, ha, hq⟩ := id h1
    have l1 := hq.len
    obtain ⟨rows, er, hr', hqr⟩ := rows_of hq
    have lf := hqr.len
    have lq := flatV_len ps
    walk_at "g"
    refine w_flat (l := l) (xs := acc) (rows := rows) rfl (SqL.of ha) er hr' (by omega) (fun _ => rfl) (fun _ => rfl) (fun _ _ => rfl) (fun _ _ => rfl) ?_
    intro D H1 nD s1 hD
    have qD : QL K H1 D (flatV ps) := ⟨_, hD, hqr.tk (TK.same s1)⟩
    have bD := flatV_bn h2
    walk_at "g"
    rename_i H2 m s2 hm bm
    refine w_srtL (K := K) ?_
    walk_at "g"
    have s02 : Same H H2 := s1.trans s2
    refine ⟨h0.ext s02, l, acc, ps.map (keyV m), rfl, s02 _ _ ha, by simp [l1], ?_, ?_, ?_⟩
    · intro k hk
      obtain ⟨p, _, rfl⟩ := List.mem_map.1 hk
      intro z
      cases z
    · intro i x kk Hj ex ek ej
      obtain ⟨a, p, rfl, ep, va⟩ := hq.get' ex
      rw [List.getElem?_map, ep] at ek
      cases ek
      obtain ⟨b0, b1, b2, hv, hb0, hb1, hb2⟩ := va.tk ((TK.same s02).trans ej.tk)
      obtain ⟨bx, by_, bz⟩ := h2 p (List.mem_of_getElem? ep)
      have e : NdefX.startF ["p", "shift"] [V.ref a] (List.map (NdefX.slotAt (List.set (L2.start ["points", "shift", "p", "part", "ordered"] [V.ref l]) 1 (some (V.int (2 * (m : Int)))))) [1]) = [some (.ref a), some (.int (2 * (m : Int)))] := rfl
      rw [e]
      walk_at "g"
      rename_i H4 s4 H5 s5 H6 s6 r H7 n7 s7 h7
      exact ⟨.tup (SqT.of h7) (dpa_ints (keyV m p)), by walk_at "same"⟩
    intro H3 p ps' eN T3 np hp pm pw
    have q3 : VcL K H3 acc ps := (hq.tk (TK.same s02)).tk eN.tk
    unfold VcL at q3
    obtain ⟨rs, hP, hrs⟩ := paired_perm pm (paired_zipf (f := keyV m) q3)
    have qp : VL K H3 p rs := ⟨_, hp, paired_fst hP⟩
    have ks := paired_snd (R := fun (v : V) (q : V3) => ∃ a : Addr, v = V.ref a ∧ Vc K H3 a q) (f := keyV m) hP
    have lr := hrs.length_eq
    have dn : ∀ p, p ∈ ps → DenV m p := fun p hp => let ⟨x, y, z⟩ := flatV_mem hp; ⟨hm _ x, hm _ y, hm _ z⟩
    have srt : rs.Pairwise le3 := by
      refine sorted_keyV (m := m) ?_ (fun q h => dn q (hrs.mem_iff.1 h))
      rw [← ks, List.pairwise_map]
      exact pw
    walk_at "g"
    rename_i H4 r ts s3 nr hr3 pt mt lt
    refine k _ r ts ((ext_same s02).trans (eN.trans (ext_same s3))) (T3.ext s3) (fun b o hb hn z => ?_) hr3 pt (fun q => by rw [mt, hrs.mem_iff]) (by omega)
    have := eN _ _ (s02 _ _ hb) hn
    rw [z, nr] at this
    cases this
in #guard_msgs in universe u_z
abbrev s__law_mix : Stmt := top 10
theorem sc__law_mix : FnScope ["one", "two", "once", "twice"] ["one", "two"] (defScope s__law_mix) := ⟨rfl, rfl, rfl, by decide +kernel, rfl, by decide +kernel, by decide +kernel⟩
set_option Elab.async true in
set_option maxHeartbeats 4000000 in
theorem ok__law_mix {f : Addr} {fd : FuncData} (F : FunA K "_law_mix" "_law_mix" s__law_mix f fd) (T : BltN mg) : FnOk P w K mg base CX0 1 f fd ["one", "two"] (sp__law_mix K) := by
  refine F.ok sc__law_mix (fun vs H Q E h => ?_) (fun cdv A outer s H vs Q E hr h => ?_)
  · obtain ⟨_, _, rfl, _⟩ := h
    rfl
  · obtain ⟨x, y, rfl, k⟩ := h
    refine ⟨_, (pss_cons (ps_set (i := 2) sc__law_mix.nd rfl (.inl rfl) (pe_op op_mod (pe_callTy kc_int (by rfl) T.int (by decide +kernel) (pa_cons (pe_op op_add (pe_op op_add (pe_op op_mul (pv 0) pe_int) (pe_op op_mul (pv 1) pe_int)) pe_int) pa_nil)) pe_int))
 (pss_cons (ps_set (i := 3) sc__law_mix.nd rfl (.inl rfl) (pe_op op_mod (pe_callTy kc_int (by rfl) T.int (by decide +kernel) (pa_cons (pe_op op_add (pe_op op_add (pe_op op_mul (pv 2) (pv 2)) (pe_op op_mul (pv 1) pe_int)) pe_int) pa_nil)) pe_int))
 (pss_one (ps_ret (pe_op op_mod (pe_callTy kc_int (by rfl) T.int (by decide +kernel) (pa_cons (pe_op op_add (pe_op op_add (pe_op op_mul (pv 3) (pv 3)) (pe_op op_mul (pv 2) pe_int)) pe_int) pa_nil)) pe_int))))), ?_⟩
    walk_at "a"
    exact k _ _ (by walk_at "same") (by omega) (by omega)
in #guard_msgs in universe u_z
abbrev s__law_store : Stmt := top 11
theorem sc__law_store : FnScope ["script", "seed", "cell"] ["script"] (defScope s__law_store) := ⟨rfl, rfl, rfl, by decide +kernel, rfl, by decide +kernel, by decide +kernel⟩
set_option Elab.async true in
set_option maxHeartbeats 4000000 in
theorem ok__law_store {f : Addr} {fd : FuncData} (F : FunA K "_law_store" "_law_store" s__law_store f fd) (T : BltN mg) (C__law_mix : Cal P w K mg base "_law_mix" 1 ["one", "two"] (sp__law_mix K)) : FnOk P w K mg base CX0 2 f fd ["script"] (sp__law_store K) := by
  refine F.ok sc__law_store (fun vs H Q E h => ?_) (fun cdv A outer s H vs Q E hr h => ?_)
  · obtain ⟨_, _, rfl, _⟩ := h
    rfl
  · obtain ⟨a, ns, rfl, h0, h1, k⟩ := h
    refine ⟨_, (pss_cons (ps_set (i := 1) sc__law_store.nd rfl (.inl rfl) (pe_op op_add pe_int (pe_callB (kc_len (K := K) rfl) (by rfl) T.len (by decide +kernel) (pa_cons (pv 0) pa_nil))))
 (pss_cons (ps_for PassesOwn.never rfl (kp_list (K := K) rfl (pv 0)) (pg_name (i := 2) sc__law_store.nd rfl (.inl rfl))
 (pss_one (ps_set (i := 1) sc__law_store.nd rfl (.inl rfl) (pc C__law_mix (hr.mono (by decide)) (by rfl) (pa_cons (pv 1) (pa_cons (pe_op op_mod (pe_callTy kc_int (by rfl) T.int (by decide +kernel) (pa_cons (pv 2) pa_nil)) pe_int) pa_nil))))))
 (pss_one (ps_ret (pe_lst (pa_cons (pe_callTy (kc_list (K := K) rfl) (by rfl) T.list (by decide +kernel) (pa_cons (pv 0) pa_nil)) (pa_cons pe_int (pa_cons pe_int (pa_cons pe_int (pa_cons pe_int (pa_cons (pv 1) (pa_cons pe_int pa_nil)))))))))))), ?_⟩
    walk_at "g"
    refine f_list (xs := ns.map V.int) (fun i σ' H' => ∃ z c, σ' = [some (.ref a), some (.int z), c] ∧ Same H H') ⟨_, _, rfl, by walk_at "same"⟩ (fun i σ' H' _ ⟨_, _, _, s1⟩ => s1.seq h0) ?_ ?_
    · rintro i x σ' H' hi ⟨z, c, rfl, s1⟩
      obtain ⟨y, rfl, _⟩ := map_get hi
      walk_at "g"
      exact ⟨_, _, rfl, by walk_at "same"⟩
    · rintro σ' H' ⟨z, c, rfl, s1⟩
      have q := s1.seq h0
      walk_at "g"
      rename_i l H1 nl s2 hl p H2 np s3 hp
      exact k _ _ (by walk_at "same") ⟨l, ns, _, _, _, _, _, _, hp, ne_of_none hl np, s3 _ _ hl, by decide⟩
in #guard_msgs in universe u_z
abbrev s__law_take : Stmt := top 12
theorem sc__law_take : FnScope ["store", "many", "cell", "rest"] ["store", "many"] (defScope s__law_take) := ⟨rfl, rfl, rfl, by decide +kernel, rfl, by decide +kernel, by decide +kernel⟩
set_option Elab.async true in
set_option maxHeartbeats 4000000 in
theorem ok__law_take {f : Addr} {fd : FuncData} (F : FunA K "_law_take" "_law_take" s__law_take f fd) (T : BltN mg) (C__law_mix : Cal P w K mg base "_law_mix" 1 ["one", "two"] (sp__law_mix K)) : FnOk P w K mg base CX0 2 f fd ["store", "many"] (sp__law_take K) := by
  refine F.ok sc__law_take (fun vs H Q E h => ?_) (fun cdv A outer s H vs Q E hr h => ?_)
  · obtain ⟨_, _, rfl, _⟩ := h
    rfl
  · obtain ⟨st, m, rfl, h0, h1, k⟩ := h
    refine ⟨_, (pss_cons (ps_set (i := 1) sc__law_take.nd rfl (.inl rfl) (pe_callB (kc_max rfl) (by rfl) T.max (by decide +kernel) (pa_cons pe_int (pa_cons (pv 1) pa_nil))))
 (Evl.pss_cut (ps_if (PW.pt (pw_and (pt_cmpR op_eq (pe_ix (kx_list (K := K) rfl) (pv 0) pe_int (fun _ _ => rfl)) pe_int (nomark _)) (pw_and (pt_cmpR op_eq (pe_ix (kx_list (K := K) rfl) (pv 0) pe_int (fun _ _ => rfl)) pe_int (nomark _)) (pw_and1 (pt_cmpR op_lt (pe_ix (kx_list (K := K) rfl) (pv 0) pe_int (fun _ _ => rfl)) (pe_callB (kc_len (K := K) rfl) (by rfl) T.len (by decide +kernel) (pa_cons (pe_ix (kx_list (K := K) rfl) (pv 0) pe_int (fun _ _ => rfl)) pa_nil)) (nomark _))))))
 (pss_cons (ps_set (i := 2) sc__law_take.nd rfl (.inl rfl) (pe_callTy kc_int (by rfl) T.int (by decide +kernel) (pa_cons (pe_ix (kx_list (K := K) rfl) (pe_ix (kx_list (K := K) rfl) (pv 0) pe_int (fun _ _ => rfl)) (pe_ix (kx_list (K := K) rfl) (pv 0) pe_int (fun _ _ => rfl)) (fun _ _ => rfl)) pa_nil)))
 (pss_cons (ps_asg (pe_op op_add (pe_ix (kx_list (K := K) rfl) (pv 0) pe_int (fun _ _ => rfl)) pe_int) (pg_sub (pv 0) pe_int set_list))
 (pss_one (ps_if (pt_cmpR op_ge (pe_callB kc_abs (by rfl) T.abs (by decide +kernel) (pa_cons (pv 2) pa_nil)) (pe_op op_pow pe_int pe_int) (nomark _))
 (pss_one (ps_asg (pe_callB kc_abs (by rfl) T.abs (by decide +kernel) (pa_cons (pv 2) pa_nil)) (pg_sub (pv 0) pe_int set_list)))
 (pss_cons (ps_asg pe_int (pg_sub (pv 0) pe_int set_list))
 (pss_one (ps_asg (pc C__law_mix (hr.mono (by decide)) (by rfl) (pa_cons (pe_ix (kx_list (K := K) rfl) (pv 0) pe_int (fun _ _ => rfl)) (pa_cons (pv 2) pa_nil))) (pg_sub (pv 0) pe_int set_list))))))))
 pss_nil)
 (pss_cons (ps_if (pt_cmpR op_gt (pe_ix (kx_list (K := K) rfl) (pv 0) pe_int (fun _ _ => rfl)) pe_int (nomark _))
 (pss_cons (ps_set (i := 3) sc__law_take.nd rfl (.inl rfl) (pe_callTy kc_int (by rfl) T.int (by decide +kernel) (pa_cons (pe_ix (kx_list (K := K) rfl) (pv 0) pe_int (fun _ _ => rfl)) pa_nil)))
 (pss_cons (ps_asg (pe_op op_fdivZ (pv 3) (pv 1)) (pg_sub (pv 0) pe_int set_list))
 (pss_one (ps_ret (pe_op op_mod (pv 3) (pv 1))))))
 pss_nil)
 (pss_cons (ps_asg (pe_op op_add (pe_ix (kx_list (K := K) rfl) (pv 0) pe_int (fun _ _ => rfl)) pe_int) (pg_sub (pv 0) pe_int set_list))
 (pss_cons (ps_if (pt_cmpR op_gt (pe_ix (kx_list (K := K) rfl) (pv 0) pe_int (fun _ _ => rfl)) pe_int (nomark _))
 (pss_cons (ps_asg (pe_op op_sub (pe_ix (kx_list (K := K) rfl) (pv 0) pe_int (fun _ _ => rfl)) pe_int) (pg_sub (pv 0) pe_int set_list))
 (pss_one (ps_ret (pe_op op_mod (pe_callTy kc_int (by rfl) T.int (by decide +kernel) (pa_cons (pc C__law_mix (hr.mono (by decide)) (by rfl) (pa_cons (pe_ix (kx_list (K := K) rfl) (pv 0) pe_int (fun _ _ => rfl)) (pa_cons (pe_ix (kx_list (K := K) rfl) (pv 0) pe_int (fun _ _ => rfl)) pa_nil))) pa_nil)) (pv 1)))))
 pss_nil)
 (pss_one (ps_ret (pe_op op_mod (pe_callTy kc_int (by rfl) T.int (by decide +kernel) (pa_cons (pc C__law_mix (hr.mono (by decide)) (by rfl) (pa_cons (pc C__law_mix (hr.mono (by decide)) (by rfl) (pa_cons (pe_ix (kx_list (K := K) rfl) (pv 0) pe_int (fun _ _ => rfl)) (pa_cons (pe_ix (kx_list (K := K) rfl) (pv 0) pe_int (fun _ _ => rfl)) pa_nil))) (pa_cons (pe_ix (kx_list (K := K) rfl) (pv 0) pe_int (fun _ _ => rfl)) pa_nil))) pa_nil)) (pv 1))))))))), ?_⟩
    have hm : CDivZ 0 (max 1 m) := B.cdiv (b := 70) (by omega) (B.rng (by omega) (by omega)) (by decide)
    obtain ⟨l, ns, i1, i2, i3, i4, i5, i6, hst⟩ := h0
    have nn := hst.nn
    walk_at "g"
    refine w_cut (fun σ' H' => ∃ v, σ' = [some (.ref st), some (.int (max 1 m)), v, none] ∧ Fr st H H' ∧ St K H' st) ?_ ?_
    · walk_at "a"
      all_goals exact ⟨_, rfl, by walk_at "fr", by walk_at "st"⟩
    · rintro σ' H' ⟨v, rfl, f1, l, ns, i1, i2, i3, i4, i5, i6, hst⟩
      have nn := hst.nn
      walk_at "a"
      all_goals exact k _ _ (by walk_at "fr") (by walk_at "st") (Int.emod_nonneg _ (by omega)) (Int.emod_lt_of_pos _ (by omega))
in #guard_msgs in universe u_z
abbrev s__law_pick : Stmt := top 13
theorem sc__law_pick : FnScope ["store", "items"] ["store", "items"] (defScope s__law_pick) := ⟨rfl, rfl, rfl, by decide +kernel, rfl, by decide +kernel, by decide +kernel⟩
set_option Elab.async true in
set_option maxHeartbeats 4000000 in
theorem ok__law_pick {f : Addr} {fd : FuncData} (F : FunA K "_law_pick" "_law_pick" s__law_pick f fd) (T : BltN mg) (C__law_take : Cal P w K mg base "_law_take" 2 ["store", "many"] (sp__law_take K)) : FnOk P w K mg base CX0 3 f fd ["store", "items"] (sp__law_pick K) := by
  refine F.ok sc__law_pick (fun vs H Q E h => ?_) (fun cdv A outer s H vs Q E hr h => ?_)
  · obtain ⟨_, _, _, rfl, _⟩ := h
    rfl
  · obtain ⟨st, l, xs, rfl, h0, h1, h2, h3, h4, k⟩ := h
    refine ⟨_, (pss_one (ps_ret (pe_ix (kx_list (K := K) rfl) (pv 1) (pc C__law_take (hr.mono (by decide)) (by rfl) (pa_cons (pv 0) (pa_cons (pe_callB (kc_len (K := K) rfl) (by rfl) T.len (by decide +kernel) (pa_cons (pv 1) pa_nil)) pa_nil))) (fun _ _ => rfl)))), ?_⟩
    walk_at "g"
    rename_i H1 r f1 s1 r0 r1
    obtain ⟨v, ea, _, en⟩ := atI_in (xs := xs) r0 (by omega)
    refine r_ixL (Fr.seqN f1 h0 h1 h4) ea ?_
    walk_at "g"
    exact k _ _ _ (by walk_at "fr") (by walk_at "st") en
in #guard_msgs in universe u_z
abbrev s__law_few : Stmt := top 14
theorem sc__law_few : FnScope ["store", "most", "kind"] ["store", "most"] (defScope s__law_few) := ⟨rfl, rfl, rfl, by decide +kernel, rfl, by decide +kernel, by decide +kernel⟩
set_option Elab.async true in
set_option maxHeartbeats 4000000 in
theorem ok__law_few {f : Addr} {fd : FuncData} (F : FunA K "_law_few" "_law_few" s__law_few f fd) (T : BltN mg) (C__law_take : Cal P w K mg base "_law_take" 2 ["store", "many"] (sp__law_take K)) : FnOk P w K mg base CX0 3 f fd ["store", "most"] (sp__law_few K) := by
  refine F.ok sc__law_few (fun vs H Q E h => ?_) (fun cdv A outer s H vs Q E hr h => ?_)
  · obtain ⟨_, _, rfl, _⟩ := h
    rfl
  · obtain ⟨st, m, rfl, h0, h1, h2, k⟩ := h
    refine ⟨_, (pss_cons (ps_set (i := 2) sc__law_few.nd rfl (.inl rfl) (pc C__law_take (hr.mono (by decide)) (by rfl) (pa_cons (pv 0) (pa_cons pe_int pa_nil))))
 (pss_cons (ps_if (PW.pt (pw_or (pt_cmpR op_eq (pv 2) pe_int (nomark _)) (pw_or1 (pt_cmpR op_lt (pv 1) pe_int (nomark _)))))
 (pss_one (ps_ret pe_int))
 pss_nil)
 (pss_cons (ps_if (pt_cmpR op_eq (pv 2) pe_int (nomark _))
 (pss_one (ps_ret (pv 1)))
 pss_nil)
 (pss_one (ps_ret (pe_op op_add pe_int (pc C__law_take (hr.mono (by decide)) (by rfl) (pa_cons (pv 0) (pa_cons (pe_callB (kc_min rfl) (by rfl) T.min (by decide +kernel) (pa_cons pe_int (pa_cons (pv 1) pa_nil))) pa_nil))))))))), ?_⟩
    walk_at "a"
    all_goals exact k _ _ (by walk_at "fr") (by walk_at "st") (by omega) (by omega)
in #guard_msgs in universe u_z
abbrev s__law_wide : Stmt := top 15
theorem sc__law_wide : FnScope ["store", "many", "found", "k"] ["store", "many"] (defScope s__law_wide) := ⟨rfl, rfl, rfl, by decide +kernel, rfl, by decide +kernel, by decide +kernel⟩
set_option Elab.async true in
set_option maxHeartbeats 4000000 in
theorem ok__law_wide {f : Addr} {fd : FuncData} (F : FunA K "_law_wide" "_law_wide" s__law_wide f fd) (T : BltN mg) (C__law_take : Cal P w K mg base "_law_take" 2 ["store", "many"] (sp__law_take K)) : FnOk P w K mg base CX0 3 f fd ["store", "many"] (sp__law_wide K) := by
  refine F.ok sc__law_wide (fun vs H Q E h => ?_) (fun cdv A outer s H vs Q E hr h => ?_)
  · obtain ⟨_, _, rfl, _⟩ := h
    rfl
  · obtain ⟨st, m, rfl, h0, h1, h2, k⟩ := h
    refine ⟨_, (pss_cons (ps_set (i := 2) sc__law_wide.nd rfl (.inl rfl) pe_int)
 (pss_cons (ps_for PassesOwn.never rfl (pi_range1 (by rfl) T.range (pa_cons (pv 1) pa_nil)) (pg_name (i := 3) sc__law_wide.nd rfl (.inl rfl))
 (pss_one (ps_set (i := 2) sc__law_wide.nd rfl (.inl rfl) (pe_op op_add (pe_op op_mulW (pv 2) pe_int) (pc C__law_take (hr.mono (by decide)) (by rfl) (pa_cons (pv 0) (pa_cons pe_int pa_nil)))))))
 (pss_one (ps_ret (pv 2))))), ?_⟩
    walk_at "g"
    refine f_range (n := m.toNat) (fun i σ' H' => ∃ z c, σ' = [some (.ref st), some (.int m), some (.int z), c] ∧ Fr st H H' ∧ St K H' st ∧ 0 ≤ z ∧ z < 10 ^ i) ⟨_, _, rfl, by walk_at "fr", by walk_at "st", by omega, by decide⟩ ?_ ?_
    · rintro i σ' H' hi ⟨z, c, rfl, f1, s1, z0, z1⟩
      have cz : CMulW z 10 := by
        have e : (10 : Int) ^ i ≤ 10 ^ 60 := p10 (by omega)
        exact B.cmul (a := 220) (b := 10) (B.rng (by omega) (Int.lt_of_lt_of_le z1 (Int.le_trans e (by decide)))) (B.lit (by decide)) (by decide)
      walk_at "g"
      refine ⟨_, _, rfl, by walk_at "fr", by walk_at "st", by omega, ?_⟩
      rw [Int.pow_succ]
      omega
    · rintro σ' H' ⟨z, c, rfl, f1, s1, z0, z1⟩
      walk_at "g"
      exact k _ _ (by walk_at "fr") (by walk_at "st") z0 z1
in #guard_msgs in universe u_z
abbrev s__law_integer : Stmt := top 16
theorem sc__law_integer : FnScope ["store", "kind", "found", "k"] ["store"] (defScope s__law_integer) := ⟨rfl, rfl, rfl, by decide +kernel, rfl, by decide +kernel, by decide +kernel⟩
set_option Elab.async true in
set_option maxHeartbeats 4000000 in
theorem ok__law_integer {f : Addr} {fd : FuncData} (F : FunA K "_law_integer" "_law_integer" s__law_integer f fd) (T : BltN mg) (C__law_take : Cal P w K mg base "_law_take" 2 ["store", "many"] (sp__law_take K)) (C__law_wide : Cal P w K mg base "_law_wide" 3 ["store", "many"] (sp__law_wide K)) : FnOk P w K mg base CX0 4 f fd ["store"] (sp__law_integer K) := by
  refine F.ok sc__law_integer (fun vs H Q E h => ?_) (fun cdv A outer s H vs Q E hr h => ?_)
  · obtain ⟨_, rfl, _⟩ := h
    rfl
  · obtain ⟨st, rfl, h0, k⟩ := h
    refine ⟨_, (pss_cons (ps_set (i := 1) sc__law_integer.nd rfl (.inl rfl) (pc C__law_take (hr.mono (by decide)) (by rfl) (pa_cons (pv 0) (pa_cons pe_int pa_nil))))
 (pss_cons (ps_if (pt_cmpR op_eq (pv 1) pe_int (nomark _))
 (pss_one (ps_ret (pe_op op_sub (pc C__law_take (hr.mono (by decide)) (by rfl) (pa_cons (pv 0) (pa_cons pe_int pa_nil))) pe_int)))
 pss_nil)
 (pss_cons (ps_if (pt_cmpR op_gt (pv 1) pe_int (nomark _))
 (pss_one (ps_ret (pe_op op_sub (pc C__law_take (hr.mono (by decide)) (by rfl) (pa_cons (pv 0) (pa_cons pe_int pa_nil))) pe_int)))
 pss_nil)
 (pss_cons (ps_set (i := 2) sc__law_integer.nd rfl (.inl rfl) pe_int)
 (Evl.pss_cut (ps_if (pt_cmpR op_eq (pv 1) pe_int (nomark _))
 (pss_cons (ps_for PassesOwn.never rfl (pi_range1 (by rfl) T.range (pa_cons (pc C__law_take (hr.mono (by decide)) (by rfl) (pa_cons (pv 0) (pa_cons pe_int pa_nil))) pa_nil)) (pg_name (i := 3) sc__law_integer.nd rfl (.inl rfl))
 (pss_one (ps_set (i := 2) sc__law_integer.nd rfl (.inl rfl) (pe_op op_mulW (pv 2) pe_int))))
 (pss_one (ps_set (i := 2) sc__law_integer.nd rfl (.inl rfl) (pe_op op_sub (pe_op op_add (pv 2) (pc C__law_take (hr.mono (by decide)) (by rfl) (pa_cons (pv 0) (pa_cons pe_int pa_nil)))) pe_int))))
 (pss_one (ps_set (i := 2) sc__law_integer.nd rfl (.inl rfl) (pc C__law_wide (hr.mono (by decide)) (by rfl) (pa_cons (pv 0) (pa_cons (pe_op op_add pe_int (pc C__law_take (hr.mono (by decide)) (by rfl) (pa_cons (pv 0) (pa_cons pe_int pa_nil)))) pa_nil))))))
 (pss_cons (ps_if (pt_cmpR op_eq (pc C__law_take (hr.mono (by decide)) (by rfl) (pa_cons (pv 0) (pa_cons pe_int pa_nil))) pe_int (nomark _))
 (pss_one (ps_ret (pe_un un_neg (pv 2))))
 pss_nil)
 (pss_one (ps_ret (pv 2))))))))), ?_⟩
    walk_at "a"
    · exact k _ _ (by walk_at "fr") (by walk_at "st") (B.rng (by omega) (by omega))
    · exact k _ _ (by walk_at "fr") (by walk_at "st") (B.rng (by omega) (by omega))
    rename_i H0 kd f0 s0 k0 k6 n0 n2
    refine w_cut (fun σ' H' => ∃ z c, σ' = [some (.ref st), some (.int kd), some (.int z), c] ∧ Fr st H H' ∧ St K H' st ∧ B 134 z) ?_ ?_
    · walk_at "a"
      · rename_i H1 m f1 s1 m0 m1
        refine f_range (n := m.toNat) (fun i σ' H' => ∃ z c, σ' = [some (.ref st), some (.int kd), some (.int z), c] ∧ Fr st H H' ∧ St K H' st ∧ 0 ≤ z ∧ z ≤ 10 ^ i) ⟨_, _, rfl, by walk_at "fr", by walk_at "st", by omega, by decide⟩ ?_ ?_
        · rintro i σ' H' hi ⟨z, c, rfl, f2, s2, z0, z1⟩
          have cz : CMulW z 10 := by
            have e : (10 : Int) ^ i ≤ 10 ^ 40 := p10 (by omega)
            exact B.cmul (a := 220) (b := 10) (B.rng (by omega) (Int.lt_of_le_of_lt (Int.le_trans z1 e) (by decide))) (B.lit (by decide)) (by decide)
          walk_at "g"
          refine ⟨_, _, rfl, by walk_at "fr", by walk_at "st", by omega, ?_⟩
          rw [Int.pow_succ]
          omega
        · rintro σ' H' ⟨z, c, rfl, f2, s2, z0, z1⟩
          walk_at "g"
          have e : (10 : Int) ^ m.toNat ≤ 10 ^ 40 := p10 (by omega)
          exact ⟨_, _, rfl, by walk_at "fr", by walk_at "st", B.rng (by omega) (by have e3 : (10 : Int) ^ m.toNat ≤ 10 ^ 39 := p10 (by omega); have e2 : (10 : Int) ^ 39 + 10 < 2 ^ 134 := (by decide); omega)⟩
      · rename_i H1 m f1 s1 m0 m1 H2 r f2 s2 q0 q1
        exact ⟨_, _, rfl, by walk_at "fr", by walk_at "st", B.pow10 q0 (Int.le_of_lt q1) (by omega)⟩
    · rintro σ' H' ⟨z, c, rfl, f1, s1, bz⟩
      walk_at "a"
      all_goals exact k _ _ (by walk_at "fr") (by walk_at "st") (by walk_at "bitsK")
in #guard_msgs in universe u_z
abbrev s__law_gcd : Stmt := top 17
theorem sc__law_gcd : FnScope ["one", "two", "rest"] ["one", "two"] (defScope s__law_gcd) := ⟨rfl, rfl, rfl, by decide +kernel, rfl, by decide +kernel, by decide +kernel⟩
set_option Elab.async true in
set_option maxHeartbeats 4000000 in
theorem ok__law_gcd {f : Addr} {fd : FuncData} (F : FunA K "_law_gcd" "_law_gcd" s__law_gcd f fd) (T : BltN mg) : FnOk P w K mg base CX0 1 f fd ["one", "two"] (sp__law_gcd K) := by
  refine F.ok sc__law_gcd (fun vs H Q E h => ?_) (fun cdv A outer s H vs Q E hr h => ?_)
  · obtain ⟨_, _, rfl, _⟩ := h
    rfl
  · obtain ⟨x, y, rfl, k⟩ := h
    refine ⟨_, (pss_cons (ps_set (i := 0) sc__law_gcd.nd rfl (.inl rfl) (pe_callB kc_abs (by rfl) T.abs (by decide +kernel) (pa_cons (pv 0) pa_nil)))
 (pss_cons (ps_set (i := 1) sc__law_gcd.nd rfl (.inl rfl) (pe_callB kc_abs (by rfl) T.abs (by decide +kernel) (pa_cons (pv 1) pa_nil)))
 (pss_cons (ps_while PassesOwn.never (pt_cmpR op_gt (pv 1) pe_int (nomark _))
 (pss_cons (ps_set (i := 2) sc__law_gcd.nd rfl (.inl rfl) (pe_op op_mod (pe_callTy kc_int (by rfl) T.int (by decide +kernel) (pa_cons (pv 0) pa_nil)) (pv 1)))
 (pss_cons (ps_set (i := 0) sc__law_gcd.nd rfl (.inl rfl) (pv 1))
 (pss_one (ps_set (i := 1) sc__law_gcd.nd rfl (.inl rfl) (pv 2))))))
 (pss_one (ps_ret (pv 0)))))), ?_⟩
    walk_at "g"
    refine w_seqW (fun m σ' H' => ∃ a b c, σ' = [some (.int a), some (.int b), c] ∧ Same H H' ∧ 0 ≤ a ∧ 0 ≤ b ∧ m = b.toNat ∧ Nat.gcd a.natAbs b.natAbs = Nat.gcd x.natAbs y.natAbs) _ ⟨_, _, _, rfl, by walk_at "same", by omega, by omega, rfl, by simp⟩ ?_
    rintro m σ' H' ⟨a, b, c, rfl, s1, a0, b0, rfl, e⟩
    walk_at "g"
    refine r_whP (fun hb => ?_) (fun hb => ?_)
    · have hb' : 0 < b := of_decide_eq_true hb
      walk_at "g"
      have h1 := Int.emod_nonneg a (b := b) (by omega)
      have h2 := Int.emod_lt_of_pos a hb'
      refine ⟨(a % b).toNat, by omega, _, _, _, rfl, by walk_at "same", by omega, by omega, rfl, ?_⟩
      rw [← e]
      obtain ⟨n, rfl⟩ := Int.eq_ofNat_of_zero_le a0
      obtain ⟨m, rfl⟩ := Int.eq_ofNat_of_zero_le b0
      have e3 : ((n : Int) % (m : Int)).natAbs = n % m := by
        rw [← Int.natCast_emod]
        rfl
      rw [e3]
      show Nat.gcd m (n % m) = Nat.gcd n m
      rw [Nat.gcd_comm n m, Nat.gcd_rec m n, Nat.gcd_comm]
    · have hb' : ¬ 0 < b := of_decide_eq_false hb
      walk_at "g"
      have e0 : b = 0 := by omega
      subst e0
      have e1 : a = ((Nat.gcd x.natAbs y.natAbs : Nat) : Int) := by
        rw [← e]
        simp
        omega
      rw [e1]
      exact k _ (by walk_at "same")
in #guard_msgs in universe u_z
abbrev s__law_frac : Stmt := top 18
theorem sc__law_frac : FnScope ["top", "bottom", "many"] ["top", "bottom"] (defScope s__law_frac) := ⟨rfl, rfl, rfl, by decide +kernel, rfl, by decide +kernel, by decide +kernel⟩
set_option Elab.async true in
set_option maxHeartbeats 4000000 in
theorem ok__law_frac {f : Addr} {fd : FuncData} (F : FunA K "_law_frac" "_law_frac" s__law_frac f fd) (T : BltN mg) (C__law_gcd : Cal P w K mg base "_law_gcd" 1 ["one", "two"] (sp__law_gcd K)) : FnOk P w K mg base CX0 2 f fd ["top", "bottom"] (sp__law_frac K) := by
  refine F.ok sc__law_frac (fun vs H Q E h => ?_) (fun cdv A outer s H vs Q E hr h => ?_)
  · obtain ⟨_, _, rfl, _⟩ := h
    rfl
  · obtain ⟨t, b, rfl, h0, k⟩ := h
    refine ⟨_, (pss_cons (ps_if (pt_cmpR op_eq (pv 1) pe_int (nomark _))
 (pss_one (ps_ret (pe_tup (pa_cons pe_int (pa_cons pe_int pa_nil)))))
 pss_nil)
 (pss_cons (ps_set (i := 2) sc__law_frac.nd rfl (.inl rfl) (pc C__law_gcd (hr.mono (by decide)) (by rfl) (pa_cons (pv 0) (pa_cons (pv 1) pa_nil))))
 (pss_cons (ps_if (pt_cmpR op_lt (pv 1) pe_int (nomark _))
 (pss_one (ps_set (i := 2) sc__law_frac.nd rfl (.inl rfl) (pe_un un_neg (pv 2))))
 pss_nil)
 (pss_one (ps_ret (pe_tup (pa_cons (pe_op op_fdivZ (pv 0) (pv 2)) (pa_cons (pe_op op_fdivZ (pv 1) (pv 2)) pa_nil)))))))), ?_⟩
    by_cases h1 : b = 0
    · subst h1
      walk_at "g"
      rename_i hp
      have e : ((t : Rat) / ((0 : Int) : Rat)) = ((0 : Int) : Rat) := by simp [Rat.div_def]
      exact k _ _ (by walk_at "same") (by rw [e]; exact SqT.ofInt (by walk_at "sq"))
    
    have hg : 0 < Nat.gcd t.natAbs b.natAbs := Nat.gcd_pos_of_pos_right _ (by omega)
    have gB : B 8990 ((Nat.gcd t.natAbs b.natAbs : Nat) : Int) := B.of_le (y := b) (by have := Nat.gcd_le_right t.natAbs (n := b.natAbs) (by omega); omega) h0
    have c1 : CDivZ t ((Nat.gcd t.natAbs b.natAbs : Nat) : Int) := B.cdiv (by omega) gB (by decide)
    have c2 : CDivZ t (-((Nat.gcd t.natAbs b.natAbs : Nat) : Int)) := B.cdiv (by omega) gB.neg (by decide)
    have go : ∀ (H' : Hp) p n d, Same H H' → H' p = some (.tup [.int n, .int d]) → Red t b n d → Q (.ref p) H' := fun H' p n d s1 hp r => by
      obtain ⟨rfl, rfl⟩ := red_q h1 r
      exact k _ _ s1 (SqT.of hp)
    walk_at "a"
    · omega
    · exact go _ _ _ _ (by walk_at "same") (by assumption) (red_of h1 (fun q => absurd q (by omega)) (fun _ => rfl))
    · exact go _ _ _ _ (by walk_at "same") (by assumption) (red_of h1 (fun _ => rfl) (fun q => absurd q (by omega)))
in #guard_msgs in universe u_z
abbrev s__law_ratio : Stmt := top 19
theorem sc__law_ratio : FnScope ["store", "kind"] ["store"] (defScope s__law_ratio) := ⟨rfl, rfl, rfl, by decide +kernel, rfl, by decide +kernel, by decide +kernel⟩
set_option Elab.async true in
set_option maxHeartbeats 4000000 in
theorem ok__law_ratio {f : Addr} {fd : FuncData} (F : FunA K "_law_ratio" "_law_ratio" s__law_ratio f fd) (T : BltN mg) (C__law_take : Cal P w K mg base "_law_take" 2 ["store", "many"] (sp__law_take K)) (C__law_frac : Cal P w K mg base "_law_frac" 2 ["top", "bottom"] (sp__law_frac K)) : FnOk P w K mg base CX0 3 f fd ["store"] (sp__law_ratio K) := by
  refine F.ok sc__law_ratio (fun vs H Q E h => ?_) (fun cdv A outer s H vs Q E hr h => ?_)
  · obtain ⟨_, rfl, _⟩ := h
    rfl
  · obtain ⟨st, rfl, h0, k⟩ := h
    refine ⟨_, (pss_cons (ps_set (i := 1) sc__law_ratio.nd rfl (.inl rfl) (pc C__law_take (hr.mono (by decide)) (by rfl) (pa_cons (pv 0) (pa_cons pe_int pa_nil))))
 (pss_cons (ps_if (pt_cmpR op_eq (pv 1) pe_int (nomark _))
 (pss_one (ps_ret (pe_tup (pa_cons (pe_op op_sub (pc C__law_take (hr.mono (by decide)) (by rfl) (pa_cons (pv 0) (pa_cons pe_int pa_nil))) pe_int) (pa_cons pe_int pa_nil)))))
 pss_nil)
 (pss_cons (ps_if (pt_cmpR op_eq (pv 1) pe_int (nomark _))
 (pss_one (ps_ret (pe_tup (pa_cons (pe_op op_sub (pc C__law_take (hr.mono (by decide)) (by rfl) (pa_cons (pv 0) (pa_cons pe_int pa_nil))) pe_int) (pa_cons pe_int pa_nil)))))
 pss_nil)
 (pss_one (ps_ret (pc C__law_frac (hr.mono (by decide)) (by rfl) (pa_cons (pe_op op_sub (pc C__law_take (hr.mono (by decide)) (by rfl) (pa_cons (pv 0) (pa_cons pe_int pa_nil))) pe_int) (pa_cons (pe_op op_add pe_int (pc C__law_take (hr.mono (by decide)) (by rfl) (pa_cons (pv 0) (pa_cons pe_int pa_nil)))) pa_nil)))))))), ?_⟩
    walk_at "a"
    · exact k _ _ _ (by walk_at "fr") (by walk_at "st") (SqT.ofInt (by walk_at "sq")) (BQ.ofInt (B.rng (by omega) (by omega)) (by decide))
    · exact k _ _ _ (by walk_at "fr") (by walk_at "st") (SqT.ofInt (by walk_at "sq")) (BQ.ofInt (B.rng (by omega) (by omega)) (by decide))
    · exact k _ _ _ (by walk_at "fr") (by walk_at "st") (by walk_at "sq") (BQ.dv (by omega) (B.rng (by omega) (by omega)) (B.rng (by omega) (by omega)))
in #guard_msgs in universe u_z
abbrev s__law_wide_ratio : Stmt := top 20
theorem sc__law_wide_ratio : FnScope ["store", "top"] ["store"] (defScope s__law_wide_ratio) := ⟨rfl, rfl, rfl, by decide +kernel, rfl, by decide +kernel, by decide +kernel⟩
set_option Elab.async true in
set_option maxHeartbeats 4000000 in
theorem ok__law_wide_ratio {f : Addr} {fd : FuncData} (F : FunA K "_law_wide_ratio" "_law_wide_ratio" s__law_wide_ratio f fd) (T : BltN mg) (C__law_integer : Cal P w K mg base "_law_integer" 4 ["store"] (sp__law_integer K)) (C__law_frac : Cal P w K mg base "_law_frac" 2 ["top", "bottom"] (sp__law_frac K)) (C__law_take : Cal P w K mg base "_law_take" 2 ["store", "many"] (sp__law_take K)) (C__law_ratio : Cal P w K mg base "_law_ratio" 3 ["store"] (sp__law_ratio K)) : FnOk P w K mg base CX0 5 f fd ["store"] (sp__law_wide_ratio K) := by
  refine F.ok sc__law_wide_ratio (fun vs H Q E h => ?_) (fun cdv A outer s H vs Q E hr h => ?_)
  · obtain ⟨_, rfl, _⟩ := h
    rfl
  · obtain ⟨st, rfl, h0, k⟩ := h
    refine ⟨_, (pss_cons (ps_if (pt_cmpR op_eq (pc C__law_take (hr.mono (by decide)) (by rfl) (pa_cons (pv 0) (pa_cons pe_int pa_nil))) pe_int (nomark _))
 (pss_one (ps_ret (pc C__law_ratio (hr.mono (by decide)) (by rfl) (pa_cons (pv 0) pa_nil))))
 pss_nil)
 (pss_cons (ps_set (i := 1) sc__law_wide_ratio.nd rfl (.inl rfl) (pc C__law_integer (hr.mono (by decide)) (by rfl) (pa_cons (pv 0) pa_nil)))
 (pss_one (ps_ret (pc C__law_frac (hr.mono (by decide)) (by rfl) (pa_cons (pv 1) (pa_cons (pe_callB (kc_max rfl) (by rfl) T.max (by decide +kernel) (pa_cons pe_int (pa_cons (pe_callB kc_abs (by rfl) T.abs (by decide +kernel) (pa_cons (pc C__law_integer (hr.mono (by decide)) (by rfl) (pa_cons (pv 0) pa_nil)) pa_nil)) pa_nil))) pa_nil))))))), ?_⟩
    walk_at "a"
    · exact k _ _ _ (by walk_at "fr") (by walk_at "st") (by walk_at "sq") (BQ.le (by assumption) (by decide))
    · rename_i H3 x f1 s1 b1 H4 y f2 s2 b2
      have nz : max 1 (y.natAbs : Int) ≠ 0 := by omega
      have bm : B 134 (max 1 (y.natAbs : Int)) := by
        by_cases h : 1 ≤ (y.natAbs : Int)
        · exact (B.of_le (y := y) (by omega) b2).le (by decide)
        · exact (B.lit (x := 1) (k := 4) (by decide)).of_le (x := max 1 (y.natAbs : Int)) |> fun _ => ⟨by omega⟩
      walk_at "a"
      exact k _ _ _ (by walk_at "fr") (by walk_at "st") (by walk_at "sq") (BQ.dv nz (b1.le (by decide)) bm)
in #guard_msgs in universe u_z
abbrev s__law_close : Stmt := top 21
theorem sc__law_close : FnScope ["store", "x", "power", "k"] ["store", "x"] (defScope s__law_close) := ⟨rfl, rfl, rfl, by decide +kernel, rfl, by decide +kernel, by decide +kernel⟩
set_option Elab.async true in
set_option maxHeartbeats 4000000 in
theorem ok__law_close {f : Addr} {fd : FuncData} (F : FunA K "_law_close" "_law_close" s__law_close f fd) (T : BltN mg) (C__law_frac : Cal P w K mg base "_law_frac" 2 ["top", "bottom"] (sp__law_frac K)) (C__law_take : Cal P w K mg base "_law_take" 2 ["store", "many"] (sp__law_take K)) : FnOk P w K mg base CX0 3 f fd ["store", "x"] (sp__law_close K) := by
  refine F.ok sc__law_close (fun vs H Q E h => ?_) (fun cdv A outer s H vs Q E hr h => ?_)
  · obtain ⟨_, _, _, rfl, _⟩ := h
    rfl
  · obtain ⟨st, x, q, rfl, h0, h1, h2, k⟩ := h
    refine ⟨_, (pss_cons (ps_set (i := 2) sc__law_close.nd rfl (.inl rfl) pe_int)
 (pss_cons (ps_for PassesOwn.never rfl (pi_range1 (by rfl) T.range (pa_cons (pc C__law_take (hr.mono (by decide)) (by rfl) (pa_cons (pv 0) (pa_cons pe_int pa_nil))) pa_nil)) (pg_name (i := 3) sc__law_close.nd rfl (.inl rfl))
 (pss_one (ps_set (i := 2) sc__law_close.nd rfl (.inl rfl) (pe_op op_mulW (pv 2) pe_int))))
 (pss_one (ps_ret (pc C__law_frac (hr.mono (by decide)) (by rfl) (pa_cons (pe_op op_sub (pe_op op_add (pe_op op_mulW (pe_ix (kx_tup (K := K) rfl) (pv 1) pe_int (fun _ _ => rfl)) (pv 2)) (pc C__law_take (hr.mono (by decide)) (by rfl) (pa_cons (pv 0) (pa_cons pe_int pa_nil)))) pe_int) (pa_cons (pe_op op_mulW (pe_ix (kx_tup (K := K) rfl) (pv 1) pe_int (fun _ _ => rfl)) (pv 2)) pa_nil))))))), ?_⟩
    have z70 := h2.n
    have z71 := h2.d
    walk_at "g"
    rename_i H8 j8 f8 t8 j80 j81
    have z8 := TK.fr f8 h0 _ _ h1
    refine f_range (n := j8.toNat) (fun j σ' H' => ∃ (o8 : Option V), σ' = [some (.ref st), some (.ref x), some (.int ((10 : Int) ^ j)), o8] ∧ H' = H8) ⟨_, rfl, rfl⟩ ?_ ?_
    · rintro j σ' H9 hj ⟨p8, rfl, rfl⟩
      have b9 : B 100 ((10 : Int) ^ j) := B.rng (Int.le_of_lt (Int.lt_of_lt_of_le (by decide) (Int.le_of_lt (Int.pow_pos (by decide))))) (Int.lt_of_le_of_lt (p10 (show j ≤ 27 by omega)) (by decide))
      walk_at "g"
      exact ⟨_, rfl, rfl⟩
    · rintro σ' H9 ⟨p8, rfl, rfl⟩
      have b9 : B 100 ((10 : Int) ^ j8.toNat) := B.rng (Int.le_of_lt (Int.lt_of_lt_of_le (by decide) (Int.le_of_lt (Int.pow_pos (by decide))))) (Int.lt_of_le_of_lt (p10 (show j8.toNat ≤ 27 by omega)) (by decide))
      walk_at "g"
      rename_i H10 t10 f10 st10 t100 t101 H11 p11 s11 h11
      obtain ⟨bn1, bn2, bn3⟩ := near_bn (t := t10) h2 (show j8.toNat ≤ 27 by omega) t100 (by omega)
      exact k _ _ _ (by walk_at "fr") (by walk_at "st") h11 (BQ.le (BQ.dv (by omega) bn1 bn2) (by decide))
in #guard_msgs in universe u_z
abbrev s__law_is_integer : Stmt := top 22
theorem sc__law_is_integer : FnScope ["value"] ["value"] (defScope s__law_is_integer) := ⟨rfl, rfl, rfl, by decide +kernel, rfl, by decide +kernel, by decide +kernel⟩
set_option Elab.async true in
set_option maxHeartbeats 4000000 in
theorem ok__law_is_integer {f : Addr} {fd : FuncData} (F : FunA K "_law_is_integer" "_law_is_integer" s__law_is_integer f fd) (T : BltN mg) : FnOk P w K mg base CX0 1 f fd ["value"] (sp__law_is_integer K) := by
  refine F.ok sc__law_is_integer (fun vs H Q E h => ?_) (fun cdv A outer s H vs Q E hr h => ?_)
  · obtain ⟨_, rfl, _⟩ := h
    rfl
  · obtain ⟨x, rfl, k⟩ := h
    refine ⟨_, (pss_one (ps_ret (pe_and (pe_callB (kc_isi (K := K) rfl) (by rfl) T.isinstance (by decide +kernel) (pa_cons (pv 0) (pa_cons (pe_bltn (v := .ty "int") (u := .type "int") (by rfl) T.int (by decide +kernel) rfl) pa_nil))) (pe_one (pe_not (pe_callB (kc_isi (K := K) rfl) (by rfl) T.isinstance (by decide +kernel) (pa_cons (pv 0) (pa_cons (pe_bltn (v := .ty "bool") (u := .type "bool") (by rfl) T.bool (by decide +kernel) rfl) pa_nil)))))))), ?_⟩
    walk_at "a"
    exact k _ (by walk_at "same")
in #guard_msgs in universe u_z
abbrev s__law_point : Stmt := top 23
theorem sc__law_point : FnScope ["store", "kind", "first", "second"] ["store"] (defScope s__law_point) := ⟨rfl, rfl, rfl, by decide +kernel, rfl, by decide +kernel, by decide +kernel⟩
set_option Elab.async true in
set_option maxHeartbeats 4000000 in
theorem ok__law_point {f : Addr} {fd : FuncData} (F : FunA K "_law_point" "_law_point" s__law_point f fd) (T : BltN mg) (C__law_take : Cal P w K mg base "_law_take" 2 ["store", "many"] (sp__law_take K)) (C__law_ratio : Cal P w K mg base "_law_ratio" 3 ["store"] (sp__law_ratio K)) : FnOk P w K mg base CX0 4 f fd ["store"] (sp__law_point K) := by
  refine F.ok sc__law_point (fun vs H Q E h => ?_) (fun cdv A outer s H vs Q E hr h => ?_)
  · obtain ⟨_, rfl, _⟩ := h
    rfl
  · obtain ⟨st, rfl, h0, k⟩ := h
    refine ⟨_, (pss_cons (ps_set (i := 1) sc__law_point.nd rfl (.inl rfl) (pc C__law_take (hr.mono (by decide)) (by rfl) (pa_cons (pv 0) (pa_cons pe_int pa_nil))))
 (pss_cons (ps_if (pt_cmpR op_eq (pv 1) pe_int (nomark _))
 (pss_one (ps_ret (pe_tup (pa_cons (pe_tup (pa_cons (pe_op op_sub (pc C__law_take (hr.mono (by decide)) (by rfl) (pa_cons (pv 0) (pa_cons pe_int pa_nil))) pe_int) (pa_cons pe_int pa_nil))) (pa_cons (pe_tup (pa_cons (pe_op op_sub (pc C__law_take (hr.mono (by decide)) (by rfl) (pa_cons (pv 0) (pa_cons pe_int pa_nil))) pe_int) (pa_cons pe_int pa_nil))) (pa_cons (pe_tup (pa_cons (pe_op op_sub (pc C__law_take (hr.mono (by decide)) (by rfl) (pa_cons (pv 0) (pa_cons pe_int pa_nil))) pe_int) (pa_cons pe_int pa_nil))) pa_nil))))))
 pss_nil)
 (pss_cons (ps_set (i := 2) sc__law_point.nd rfl (.inl rfl) (pc C__law_ratio (hr.mono (by decide)) (by rfl) (pa_cons (pv 0) pa_nil)))
 (pss_cons (ps_if (pt_cmpR op_eq (pv 1) pe_int (nomark _))
 (pss_one (ps_ret (pe_tup (pa_cons (pv 2) (pa_cons (pv 2) (pa_cons (pv 2) pa_nil))))))
 pss_nil)
 (pss_cons (ps_set (i := 3) sc__law_point.nd rfl (.inl rfl) (pc C__law_ratio (hr.mono (by decide)) (by rfl) (pa_cons (pv 0) pa_nil)))
 (pss_one (ps_ret (pe_tup (pa_cons (pv 2) (pa_cons (pv 3) (pa_cons (pc C__law_ratio (hr.mono (by decide)) (by rfl) (pa_cons (pv 0) pa_nil)) pa_nil))))))))))), ?_⟩
    walk_at "a"
    · have z : ∀ r : Int, 0 ≤ r → r < max 1 3 → BN 6 6 ((r - 1 : Int) : Rat) := fun r h0 h1 => BN.bq (BQ.ofInt (B.rng (by omega) (by omega)) (by decide))
      exact k _ _ _ (by walk_at "fr") (by walk_at "st") (Vc.mk (by walk_at "sq") (SqT.ofInt (by walk_at "sq")) (SqT.ofInt (by walk_at "sq")) (SqT.ofInt (by walk_at "sq"))) ⟨z _ (by assumption) (by assumption), z _ (by assumption) (by assumption), z _ (by assumption) (by assumption)⟩
    all_goals exact k _ _ _ (by walk_at "fr") (by walk_at "st") (Vc.mk (by walk_at "sq") (by walk_at "sq") (by walk_at "sq") (by walk_at "sq")) ⟨BN.bq (by assumption), BN.bq (by assumption), BN.bq (by assumption)⟩
in #guard_msgs in universe u_z
abbrev s__law_wide_point : Stmt := top 24
theorem sc__law_wide_point : FnScope ["store", "first", "second"] ["store"] (defScope s__law_wide_point) := ⟨rfl, rfl, rfl, by decide +kernel, rfl, by decide +kernel, by decide +kernel⟩
set_option Elab.async true in
set_option maxHeartbeats 4000000 in
theorem ok__law_wide_point {f : Addr} {fd : FuncData} (F : FunA K "_law_wide_point" "_law_wide_point" s__law_wide_point f fd) (T : BltN mg) (C__law_wide_ratio : Cal P w K mg base "_law_wide_ratio" 5 ["store"] (sp__law_wide_ratio K)) (C__law_take : Cal P w K mg base "_law_take" 2 ["store", "many"] (sp__law_take K)) (C__law_point : Cal P w K mg base "_law_point" 4 ["store"] (sp__law_point K)) : FnOk P w K mg base CX0 6 f fd ["store"] (sp__law_wide_point K) := by
  refine F.ok sc__law_wide_point (fun vs H Q E h => ?_) (fun cdv A outer s H vs Q E hr h => ?_)
  · obtain ⟨_, rfl, _⟩ := h
    rfl
  · obtain ⟨st, rfl, h0, k⟩ := h
    refine ⟨_, (pss_cons (ps_if (pt_cmpR op_eq (pc C__law_take (hr.mono (by decide)) (by rfl) (pa_cons (pv 0) (pa_cons pe_int pa_nil))) pe_int (nomark _))
 (pss_one (ps_ret (pc C__law_point (hr.mono (by decide)) (by rfl) (pa_cons (pv 0) pa_nil))))
 pss_nil)
 (pss_cons (ps_set (i := 1) sc__law_wide_point.nd rfl (.inl rfl) (pc C__law_wide_ratio (hr.mono (by decide)) (by rfl) (pa_cons (pv 0) pa_nil)))
 (pss_cons (ps_set (i := 2) sc__law_wide_point.nd rfl (.inl rfl) (pc C__law_wide_ratio (hr.mono (by decide)) (by rfl) (pa_cons (pv 0) pa_nil)))
 (pss_one (ps_ret (pe_tup (pa_cons (pv 1) (pa_cons (pv 2) (pa_cons (pc C__law_wide_ratio (hr.mono (by decide)) (by rfl) (pa_cons (pv 0) pa_nil)) pa_nil))))))))), ?_⟩
    walk_at "a"
    · exact k _ _ _ (by walk_at "fr") (by walk_at "st") (by walk_at "vc") (VN.le (by assumption) (by decide) (by decide))
    all_goals exact k _ _ _ (by walk_at "fr") (by walk_at "st") (Vc.mk (by walk_at "sq") (by walk_at "sq") (by walk_at "sq") (by walk_at "sq")) ⟨BN.bq (by assumption), BN.bq (by assumption), BN.bq (by assumption)⟩
in #guard_msgs in universe u_z
abbrev s__law_is_ratio : Stmt := top 25
theorem sc__law_is_ratio : FnScope ["value"] ["value"] (defScope s__law_is_ratio) := ⟨rfl, rfl, rfl, by decide +kernel, rfl, by decide +kernel, by decide +kernel⟩
set_option Elab.async true in
set_option maxHeartbeats 4000000 in
theorem ok__law_is_ratio {f : Addr} {fd : FuncData} (F : FunA K "_law_is_ratio" "_law_is_ratio" s__law_is_ratio f fd) (T : BltN mg) (C__law_is_integer : Cal P w K mg base "_law_is_integer" 1 ["value"] (sp__law_is_integer K)) (C__law_gcd : Cal P w K mg base "_law_gcd" 1 ["one", "two"] (sp__law_gcd K)) : FnOk P w K mg base CX0 2 f fd ["value"] (sp__law_is_ratio K) := by
  refine F.ok sc__law_is_ratio (fun vs H Q E h => ?_) (fun cdv A outer s H vs Q E hr h => ?_)
  · obtain ⟨_, _, rfl, _⟩ := h
    rfl
  · obtain ⟨p, q, rfl, h0, k⟩ := h
    refine ⟨_, (pss_cons (ps_if (PW.pt (pw_or (pt_not (pt_val (pe_callB (kc_isi (K := K) rfl) (by rfl) T.isinstance (by decide +kernel) (pa_cons (pv 0) (pa_cons (pe_bltn (v := .ty "tuple") (u := .type "tuple") (by rfl) T.tuple (by decide +kernel) rfl) pa_nil))))) (pw_or1 (pt_cmpR op_ne (pe_callB (kc_len (K := K) rfl) (by rfl) T.len (by decide +kernel) (pa_cons (pv 0) pa_nil)) pe_int (nomark _)))))
 (pss_one (ps_ret pe_bl))
 pss_nil)
 (pss_cons (ps_if (PW.pt (pw_or (pt_not (pt_val (pc C__law_is_integer (hr.mono (by decide)) (by rfl) (pa_cons (pe_ix (kx_tup (K := K) rfl) (pv 0) pe_int (fun _ _ => rfl)) pa_nil)))) (pw_or1 (pt_not (pt_val (pc C__law_is_integer (hr.mono (by decide)) (by rfl) (pa_cons (pe_ix (kx_tup (K := K) rfl) (pv 0) pe_int (fun _ _ => rfl)) pa_nil)))))))
 (pss_one (ps_ret pe_bl))
 pss_nil)
 (pss_one (ps_ret (pe_and (pe_cmpR op_gt (pe_ix (kx_tup (K := K) rfl) (pv 0) pe_int (fun _ _ => rfl)) pe_int (nomark _)) (pe_one (pe_cmpR op_eq (pc C__law_gcd (hr.mono (by decide)) (by rfl) (pa_cons (pe_ix (kx_tup (K := K) rfl) (pv 0) pe_int (fun _ _ => rfl)) (pa_cons (pe_ix (kx_tup (K := K) rfl) (pv 0) pe_int (fun _ _ => rfl)) pa_nil))) pe_int (nomark _)))))))), ?_⟩
    have h1 : (q.den : Int) > 0 := denP q
    have h2 := gcdQ q
    walk_at "a"
    all_goals first | (rw [h2]; exact k _ (by walk_at "same")) | (exfalso; omega)
in #guard_msgs in universe u_z
abbrev s__law_is_vector : Stmt := top 26
theorem sc__law_is_vector : FnScope ["value"] ["value"] (defScope s__law_is_vector) := ⟨rfl, rfl, rfl, by decide +kernel, rfl, by decide +kernel, by decide +kernel⟩
set_option Elab.async true in
set_option maxHeartbeats 4000000 in
theorem ok__law_is_vector {f : Addr} {fd : FuncData} (F : FunA K "_law_is_vector" "_law_is_vector" s__law_is_vector f fd) (T : BltN mg) (C__law_is_ratio : Cal P w K mg base "_law_is_ratio" 2 ["value"] (sp__law_is_ratio K)) : FnOk P w K mg base CX0 3 f fd ["value"] (sp__law_is_vector K) := by
  refine F.ok sc__law_is_vector (fun vs H Q E h => ?_) (fun cdv A outer s H vs Q E hr h => ?_)
  · obtain ⟨_, _, rfl, _⟩ := h
    rfl
  · obtain ⟨v, p, rfl, h0, k⟩ := h
    refine ⟨_, (pss_cons (ps_if (PW.pt (pw_or (pt_not (pt_val (pe_callB (kc_isi (K := K) rfl) (by rfl) T.isinstance (by decide +kernel) (pa_cons (pv 0) (pa_cons (pe_bltn (v := .ty "tuple") (u := .type "tuple") (by rfl) T.tuple (by decide +kernel) rfl) pa_nil))))) (pw_or1 (pt_cmpR op_ne (pe_callB (kc_len (K := K) rfl) (by rfl) T.len (by decide +kernel) (pa_cons (pv 0) pa_nil)) pe_int (nomark _)))))
 (pss_one (ps_ret pe_bl))
 pss_nil)
 (pss_one (ps_ret (pe_and (pc C__law_is_ratio (hr.mono (by decide)) (by rfl) (pa_cons (pe_ix (kx_tup (K := K) rfl) (pv 0) pe_int (fun _ _ => rfl)) pa_nil)) (pe_and (pc C__law_is_ratio (hr.mono (by decide)) (by rfl) (pa_cons (pe_ix (kx_tup (K := K) rfl) (pv 0) pe_int (fun _ _ => rfl)) pa_nil)) (pe_one (pc C__law_is_ratio (hr.mono (by decide)) (by rfl) (pa_cons (pe_ix (kx_tup (K := K) rfl) (pv 0) pe_int (fun _ _ => rfl)) pa_nil)))))))), ?_⟩
    obtain ⟨v0, v1, v2, vt, va, vb, vc⟩ := h0
    walk_at "a"
    exact k _ (by walk_at "same")
in #guard_msgs in universe u_z
abbrev s__law_menu : Stmt := top 27
theorem sc__law_menu : FnScope ["store", "found", "k", "kind"] ["store"] (defScope s__law_menu) := ⟨rfl, rfl, rfl, by decide +kernel, rfl, by decide +kernel, by decide +kernel⟩
set_option Elab.async true in
set_option maxHeartbeats 4000000 in
theorem ok__law_menu {f : Addr} {fd : FuncData} (F : FunA K "_law_menu" "_law_menu" s__law_menu f fd) (T : BltN mg) (C__law_take : Cal P w K mg base "_law_take" 2 ["store", "many"] (sp__law_take K)) (C__law_ratio : Cal P w K mg base "_law_ratio" 3 ["store"] (sp__law_ratio K)) (C__law_close : Cal P w K mg base "_law_close" 3 ["store", "x"] (sp__law_close K)) (C__law_wide_ratio : Cal P w K mg base "_law_wide_ratio" 5 ["store"] (sp__law_wide_ratio K)) : FnOk P w K mg base CX0 6 f fd ["store"] (sp__law_menu K) := by
  refine F.ok sc__law_menu (fun vs H Q E h => ?_) (fun cdv A outer s H vs Q E hr h => ?_)
  · obtain ⟨_, rfl, _⟩ := h
    rfl
  · obtain ⟨st, rfl, h0, k⟩ := h
    refine ⟨_, (pss_cons (ps_set (i := 1) sc__law_menu.nd rfl (.inl rfl) (pe_lst pa_nil))
 (pss_cons (ps_for PassesOwn.never rfl (pi_range1 (by rfl) T.range (pa_cons (pe_op op_add pe_int (pc C__law_take (hr.mono (by decide)) (by rfl) (pa_cons (pv 0) (pa_cons pe_int pa_nil)))) pa_nil)) (pg_name (i := 2) sc__law_menu.nd rfl (.inl rfl))
 (pss_cons (ps_set (i := 3) sc__law_menu.nd rfl (.inl rfl) (pc C__law_take (hr.mono (by decide)) (by rfl) (pa_cons (pv 0) (pa_cons pe_int pa_nil))))
 (pss_one (ps_if (pt_cmpR op_eq (pv 3) pe_int (nomark _))
 (pss_one (ps_expr (k_bm (K := K) rfl PySem.F.plainAttrs_list PySem.F.slot_list_append PySem.F.type_list_append mt_append (pv 1) (pa_cons (pc C__law_ratio (hr.mono (by decide)) (by rfl) (pa_cons (pv 0) pa_nil)) pa_nil))))
 (pss_one (ps_if (pt_cmpR op_eq (pv 3) pe_int (nomark _))
 (pss_one (ps_expr (k_bm (K := K) rfl PySem.F.plainAttrs_list PySem.F.slot_list_append PySem.F.type_list_append mt_append (pv 1) (pa_cons (pc C__law_close (hr.mono (by decide)) (by rfl) (pa_cons (pv 0) (pa_cons (pc C__law_ratio (hr.mono (by decide)) (by rfl) (pa_cons (pv 0) pa_nil)) pa_nil))) pa_nil))))
 (pss_one (ps_expr (k_bm (K := K) rfl PySem.F.plainAttrs_list PySem.F.slot_list_append PySem.F.type_list_append mt_append (pv 1) (pa_cons (pc C__law_wide_ratio (hr.mono (by decide)) (by rfl) (pa_cons (pv 0) pa_nil)) pa_nil))))))))))
 (pss_one (ps_ret (pv 1))))), ?_⟩
    walk_at "g"
    rename_i fo H1 n1 s1 hfo H2 m f2 t2 m0 m1
    have nf : H fo = none := n1
    have fs : fo ≠ st := fun e => h0.some (e ▸ nf)
    have hfo2 := f2.keep _ _ fs hfo
    have f02 := Fr.trans (Same.fr s1) f2
    refine f_range (n := (1 + m).toNat) (fun i σ' H' => ∃ (fa : List V) (qs : List Rat) (o2 o3 : Option V), σ' = [some (.ref st), some (.ref fo), o2, o3] ∧ Fr st H H' ∧ St K H' st ∧ H' fo = some (.lst fa) ∧ QtL K H' fa qs ∧ qs.length = i ∧ ∀ q, q ∈ qs → BN 134 134 q) ⟨[], [], _, _, rfl, f02, t2, hfo2, .nil, rfl, fun _ h => by cases h⟩ ?_ ?_
    · rintro i σ' H5 hi ⟨fa, qs, o2, o3, rfl, f5, t5, hf5, qf, lq, bq⟩
      have lfa := qf.len
      have step : ∀ (H8 : Hp) (a : Addr) (q : Rat) (p2 p3 : Option V), Fr st H H8 → St K H8 st → H8 fo = some (.lst fa) → QtL K H8 fa qs → SqT K H8 a [.int q.num, .int (q.den : Int)] → BN 134 134 q →
          ∃ (fa' : List V) (qs : List Rat) (o2 o3 : Option V), [some (V.ref st), some (V.ref fo), p2, p3] = [some (.ref st), some (.ref fo), o2, o3] ∧ Fr st H (upd H8 fo (.lst (fa ++ [.ref a]))) ∧ St K (upd H8 fo (.lst (fa ++ [.ref a]))) st ∧ (upd H8 fo (.lst (fa ++ [.ref a]))) fo = some (.lst fa') ∧ QtL K (upd H8 fo (.lst (fa ++ [.ref a]))) fa' qs ∧ qs.length = i + 1 ∧ ∀ q, q ∈ qs → BN 134 134 q := by
        intro H8 a q p2 p3 f8 t8 g1 g3 g5 g6
        have tk : TK K H8 (upd H8 fo (.lst (fa ++ [.ref a]))) := TK.upd g1
        exact ⟨_, qs ++ [q], p2, p3, rfl, Fr.mut f8 nf h0.some, St.mut h0 f8 t8 nf, upd_same, (g3.snoc g5).tk tk, by simp [lq], qs_snoc bq g6⟩
      clear k
      walk_at "g"
      rename_i H6 r6 f6 t6 r60 r61
      have hf6 := f6.lstN t5 hf5 qf.notS
      refine if_eqI (fun e => ?_) (fun e => ?_)
      · walk_at "g"
        rename_i H7 p7 q7 f7 t7 z7 b7
        have hf7 := f7.lstN t6 hf6 qf.notS
        refine r_app hf7 (by omega) ?_
        walk_at "g"
        exact step _ _ _ _ _ (Fr.trans f5 (Fr.trans f6 f7)) t7 hf7 (qf.tk (TK.fr (Fr.trans f6 f7) t5)) z7 ((BN.bq b7).le (by decide) (by decide))
      · walk_at "g"
        refine if_eqI (fun e1 => ?_) (fun e1 => ?_)
        · walk_at "g"
          rename_i H7 p7 q7 f7 t7 z7 b7
          have c7 := BN.bq b7
          have hf7 := f7.lstN t6 hf6 qf.notS
          walk_at "g"
          rename_i H8 p8 q8 f8 t8 z8 b8
          have hf8 := f8.lstN t7 hf7 qf.notS
          refine r_app hf8 (by omega) ?_
          walk_at "g"
          exact step _ _ _ _ _ (Fr.trans f5 (Fr.trans f6 (Fr.trans f7 f8))) t8 hf8 (qf.tk (TK.fr (Fr.trans f6 (Fr.trans f7 f8)) t5)) z8 (BN.bq b8)
        · walk_at "g"
          rename_i H7 p7 q7 f7 t7 z7 b7
          have hf7 := f7.lstN t6 hf6 qf.notS
          refine r_app hf7 (by omega) ?_
          walk_at "g"
          exact step _ _ _ _ _ (Fr.trans f5 (Fr.trans f6 f7)) t7 hf7 (qf.tk (TK.fr (Fr.trans f6 f7) t5)) z7 (BN.bq b7)
    · rintro σ' H5 ⟨fa, qs, o2, o3, rfl, f5, t5, hf5, qf, lq, bq⟩
      walk_at "g"
      exact k _ fo qs f5 t5 fs ⟨fa, hf5, qf⟩ (by omega) (by omega) bq
in #guard_msgs in universe u_z
abbrev s__law_listed : Stmt := top 28
theorem sc__law_listed : FnScope ["store", "menu", "many", "found", "k", "kind", "parts", "turn"] ["store", "menu", "many"] (defScope s__law_listed) := ⟨rfl, rfl, rfl, by decide +kernel, rfl, by decide +kernel, by decide +kernel⟩
set_option Elab.async true in
set_option maxHeartbeats 4000000 in
theorem ok__law_listed {f : Addr} {fd : FuncData} (F : FunA K "_law_listed" "_law_listed" s__law_listed f fd) (T : BltN mg) (C__law_take : Cal P w K mg base "_law_take" 2 ["store", "many"] (sp__law_take K)) (C__law_pick : Cal P w K mg base "_law_pick" 3 ["store", "items"] (sp__law_pick K)) (C__law_wide_point : Cal P w K mg base "_law_wide_point" 6 ["store"] (sp__law_wide_point K)) : FnOk P w K mg base CX0 7 f fd ["store", "menu", "many"] (sp__law_listed K) := by
  refine F.ok sc__law_listed (fun vs H Q E h => ?_) (fun cdv A outer s H vs Q E hr h => ?_)
  · obtain ⟨_, _, _, _, rfl, _⟩ := h
    rfl
  · obtain ⟨st, l, qs, n, rfl, h0, h1, h2, h3, h4, h5, h6, k⟩ := h
    refine ⟨_, (pss_cons (ps_set (i := 3) sc__law_listed.nd rfl (.inl rfl) (pe_lst pa_nil))
 (pss_cons (ps_for PassesOwn.never rfl (pi_range1 (by rfl) T.range (pa_cons (pv 2) pa_nil)) (pg_name (i := 4) sc__law_listed.nd rfl (.inl rfl))
 (pss_cons (ps_set (i := 5) sc__law_listed.nd rfl (.inl rfl) (pc C__law_take (hr.mono (by decide)) (by rfl) (pa_cons (pv 0) (pa_cons pe_int pa_nil))))
 (pss_one (ps_if (PW.pt (pw_and (pt_cmpR op_eq (pv 5) pe_int (nomark _)) (pw_and1 (pt_cmpR op_gt (pv 4) pe_int (nomark _)))))
 (pss_one (ps_expr (k_bm (K := K) rfl PySem.F.plainAttrs_list PySem.F.slot_list_append PySem.F.type_list_append mt_append (pv 3) (pa_cons (pc C__law_pick (hr.mono (by decide)) (by rfl) (pa_cons (pv 0) (pa_cons (pv 3) pa_nil))) pa_nil))))
 (pss_one (ps_if (PW.pt (pw_and (pt_cmpR op_lt (pv 5) pe_int (nomark _)) (pw_and1 (pt_cmpR op_gt (pv 4) pe_int (nomark _)))))
 (pss_cons (ps_set (i := 6) sc__law_listed.nd rfl (.inl rfl) (pe_callTy (kc_list (K := K) rfl) (by rfl) T.list (by decide +kernel) (pa_cons (pc C__law_pick (hr.mono (by decide)) (by rfl) (pa_cons (pv 0) (pa_cons (pv 3) pa_nil))) pa_nil)))
 (pss_cons (ps_asg (pc C__law_pick (hr.mono (by decide)) (by rfl) (pa_cons (pv 0) (pa_cons (pv 1) pa_nil))) (pg_sub (pv 6) (pc C__law_take (hr.mono (by decide)) (by rfl) (pa_cons (pv 0) (pa_cons pe_int pa_nil))) set_list))
 (pss_one (ps_expr (k_bm (K := K) rfl PySem.F.plainAttrs_list PySem.F.slot_list_append PySem.F.type_list_append mt_append (pv 3) (pa_cons (pe_callTy (kc_tuple (K := K) rfl) (by rfl) T.tuple (by decide +kernel) (pa_cons (pv 6) pa_nil)) pa_nil))))))
 (pss_one (ps_if (pt_cmpR op_eq (pv 5) pe_int (nomark _))
 (pss_one (ps_expr (k_bm (K := K) rfl PySem.F.plainAttrs_list PySem.F.slot_list_append PySem.F.type_list_append mt_append (pv 3) (pa_cons (pc C__law_wide_point (hr.mono (by decide)) (by rfl) (pa_cons (pv 0) pa_nil)) pa_nil))))
 (pss_one (ps_expr (k_bm (K := K) rfl PySem.F.plainAttrs_list PySem.F.slot_list_append PySem.F.type_list_append mt_append (pv 3) (pa_cons (pe_callTy (kc_tuple (K := K) rfl) (by rfl) T.tuple (by decide +kernel) (pa_cons (pe_lc (own := [("turn", 7)]) rfl sc__law_listed.nd (pi_range1 (by rfl) T.range (pa_cons pe_int pa_nil)) (blkOk_by (own := [("turn", 7)]) (N := ["store", "menu", "many", "found", "k", "kind", "parts", "turn"]) (sc := defScope s__law_listed) (by decide +kernel)) (fun _ _ _ _ _ => (pg_name (i := 7) sc__law_listed.nd rfl (.inl rfl))) (fun _ _ _ _ _ => pts_nil) (fun _ _ _ _ _ => (pc C__law_pick (hr.mono (by decide)) (by rfl) (pa_cons (pv 0) (pa_cons (pv 1) pa_nil))))) pa_nil)) pa_nil))))))))))))
 (pss_one (ps_ret (pv 3))))), ?_⟩
    obtain ⟨m, rfl⟩ := Int.eq_ofNat_of_zero_le h5
    obtain ⟨mc, hmc, hqm⟩ := id h1
    have lmc := hqm.len
    walk_at "g"
    rename_i fo H1 n1 s1 hfo
    rw [Int.toNat_natCast]
    have nf : H fo = none := n1
    have fs : fo ≠ st := fun e => h0.some (e ▸ nf)
    refine f_range (n := m) (fun i σ' H' => ∃ (fa : List V) (ps : List V3) (o4 o5 o6 o7 : Option V), σ' = [some (.ref st), some (.ref l), some (.int (m : Int)), some (.ref fo), o4, o5, o6, o7] ∧ Fr st H H' ∧ St K H' st ∧ H' fo = some (.lst fa) ∧ VcL K H' fa ps ∧ ps.length = i ∧ ∀ q, q ∈ ps → VN 134 134 q) ⟨[], [], _, _, _, _, rfl, Same.fr s1, St.same s1 h0, hfo, .nil, rfl, fun _ h => by cases h⟩ ?_ ?_
    · rintro i σ' H5 hi ⟨fa, ps, o4, o5, o6, o7, rfl, f5, t5, hf5, qf, lq, bq⟩
      rw [Int.zero_add]
      have lfa := qf.len
      have step : ∀ (H8 : Hp) (a : Addr) (q : V3) (p4 p5 p6 p7 : Option V), Fr st H H8 → St K H8 st → H8 fo = some (.lst fa) → VcL K H8 fa ps → Vc K H8 a q → VN 134 134 q →
          ∃ (fa' : List V) (ps : List V3) (o4 o5 o6 o7 : Option V), [some (V.ref st), some (V.ref l), some (V.int (m : Int)), some (V.ref fo), p4, p5, p6, p7] = [some (.ref st), some (.ref l), some (.int (m : Int)), some (.ref fo), o4, o5, o6, o7] ∧ Fr st H (upd H8 fo (.lst (fa ++ [.ref a]))) ∧ St K (upd H8 fo (.lst (fa ++ [.ref a]))) st ∧ (upd H8 fo (.lst (fa ++ [.ref a]))) fo = some (.lst fa') ∧ VcL K (upd H8 fo (.lst (fa ++ [.ref a]))) fa' ps ∧ ps.length = i + 1 ∧ ∀ q, q ∈ ps → VN 134 134 q := by
        intro H8 a q p4 p5 p6 p7 f8 t8 g1 g3 g5 g6
        have tk : TK K H8 (upd H8 fo (.lst (fa ++ [.ref a]))) := TK.upd g1
        exact ⟨_, ps ++ [q], p4, p5, p6, p7, rfl, Fr.mut f8 nf h0.some, St.mut h0 f8 t8 nf, upd_same, (g3.snoc g5).tk tk, by simp [lq], vs_snoc bq g6⟩
      clear k
      walk_at "g"
      rename_i H6 r6 f6 t6 r60 r61
      have hf6 := f6.lstN t5 hf5 qf.notS
      have nq := qf.notS
      have hm6 : H6 l = some (.lst mc) := (Fr.trans f5 f6).lstN h0 hmc hqm.notS
      have nm := hqm.notS
      refine if_eqI (fun e => ?_) (fun e => ?_)
      · walk_at "g"
        refine if_dec (fun c => ?_) (fun c => ?_)
        · walk_at "g"
          refine u__law_pick t6 (SqL.of hf6) (by omega) (by omega) nq ?_
          intro H7 i7 v7 f7 t7 e7
          obtain ⟨a7, q7, rfl, eq7, z7⟩ := (qf.tk (TK.fr (Fr.trans f6 f7) t5)).get' e7
          have hf7 := f7.lstN t6 hf6 nq
          walk_at "g"
          refine r_app hf7 (by omega) ?_
          walk_at "g"
          exact step _ _ _ _ _ _ _ (Fr.trans f5 (Fr.trans f6 f7)) t7 hf7 (qf.tk (TK.fr (Fr.trans f6 f7) t5)) z7 (bq _ (List.mem_of_getElem? eq7))
        · walk_at "g"
          refine if_dec (fun _ => ?_) (fun c => absurd (show r6 < 3 by omega) c)
          walk_at "g"
          refine if_eqI (fun z => absurd z (by omega)) (fun _ => ?_)
          walk_at "g"
          intro Da hD
          have LG := lcG_go (K := K) (s := st) (J := fun i acc H' => ∃ zs : List Rat, QtL K H' acc zs ∧ zs.length = i ∧ ∀ q, q ∈ zs → BN 134 134 q) hD t6 (fun _ _ _ _ e h => h.elim fun zs h => ⟨zs, h.1.tk e, h.2⟩)
          have Dst : Da ≠ st := fun e => t6.some (e ▸ hD)
          refine lc_rngG (K := K) (n := 3) LG (go_new hD t6) ⟨[], .nil, rfl, fun _ h => by cases h⟩ (fun _ => rfl) ?_ ?_
          · rintro j ac H7 hj hacc hDa ⟨f7, t7⟩ ⟨zs, J, jl, jb⟩
            have hm7 := f7.lstN t6 hm6 nm
            walk_at "g"
            refine u__law_pick t7 (SqL.of hm7) (by omega) (by omega) nm ?_
            intro H8 i8 v8 f8 t8 e8
            obtain ⟨a8, q8, rfl, eq8, z8⟩ := (hqm.tk (TK.fr (Fr.trans (Fr.trans (Fr.trans f5 f6) f7) f8) h0)).get' e8
            exact r_lcQ (K := K) LG (by omega) hacc (f8.keep _ _ Dst hDa) ⟨f7.trans f8, t8⟩ ⟨zs ++ [q8], (J.tk (TK.fr f8 t7)).snoc z8, by simp [jl], all_snoc jb (h4 _ (List.mem_of_getElem? eq8))⟩
          rintro ac H7 hacc hDa ⟨f7, t7⟩ ⟨zs, J, jl, jb⟩
          obtain ⟨x, y, z, rfl⟩ := three_rat jl
          obtain ⟨b0, b1, b2, rfl, hb0, hb1, hb2⟩ := QtL.three J
          have hf7 := f7.lstN t6 hf6 nq
          walk_at "g"
          rename_i T H8 nT s8 hT
          refine r_app (s8 _ _ hf7) (by omega) ?_
          walk_at "g"
          exact step _ _ ⟨x, y, z⟩ _ _ _ _ (Fr.trans f5 (Fr.trans f6 (Fr.trans f7 (Same.fr s8)))) (St.same s8 t7) (s8 _ _ hf7) (qf.tk (TK.fr (Fr.trans f6 (Fr.trans f7 (Same.fr s8))) t5)) ⟨b0, b1, b2, SqT.of hT, Same.tup s8 hb0, Same.tup s8 hb1, Same.tup s8 hb2⟩ ⟨jb x (by simp), jb y (by simp), jb z (by simp)⟩
      · walk_at "g"
        refine if_dec (fun e1 => ?_) (fun e1 => ?_)
        · walk_at "g"
          refine if_dec (fun c => ?_) (fun c => ?_)
          · walk_at "g"
            refine u__law_pick t6 (SqL.of hf6) (by omega) (by omega) nq ?_
            intro H7 i7 v7 f7 t7 e7
            obtain ⟨a7, q7, rfl, eq7, z7⟩ := (qf.tk (TK.fr (Fr.trans f6 f7) t5)).get' e7
            have b7 := bq _ (List.mem_of_getElem? eq7)
            obtain ⟨b0, b1, b2, hv, hb0, hb1, hb2⟩ := z7
            have hf7 := f7.lstN t6 hf6 nq
            have hm7 := f7.lstN t6 hm6 nm
            have f57 := Fr.trans f5 (Fr.trans f6 f7)
            walk_at "g"
            rename_i L H8 nL s8 hL
            have nLf : L ≠ fo := fun e => by rw [e, hf7] at nL; cases nL
            have nLH : H L = none := f57.freeS t7 nL
            have t8 := St.same s8 t7
            refine u__law_pick t8 (SqL.of (s8 _ _ hm7)) (by omega) (by omega) nm ?_
            intro H9 i9 v9 f9 t9 e9
            have f59 := Fr.trans f57 (Fr.trans (Same.fr s8) f9)
            obtain ⟨a9, q9, rfl, eq9, z9⟩ := (hqm.tk (TK.fr f59 h0)).get' e9
            walk_at "g"
            rename_i H10 r10 f10 t10 r100 r101
            have f810 := Fr.trans f9 f10
            have f510 := Fr.trans f59 f10
            have hL10 := f810.lstN t8 hL rfl
            have hf10 := f810.lstN t8 (s8 _ _ hf7) nq
            have qf10 := qf.tk (TK.fr (Fr.trans f6 (Fr.trans f7 (Fr.trans (Same.fr s8) f810))) t5)
            have tk710 := TK.fr (Fr.trans (Same.fr s8) f810) t7
            have c0 := tk710 _ _ hb0
            have c1 := tk710 _ _ hb1
            have c2 := tk710 _ _ hb2
            have z10 := TK.fr f10 t9 _ _ z9
            clear f57 f59 f810 f9 f10 f7 t7 t8 t9 s8 hL hf7 hm7 tk710 hb0 hb1 hb2 hv z9 qf f6 t6 f5 t5 hf5
            obtain rfl | rfl | rfl : r10 = 0 ∨ r10 = 1 ∨ r10 = 2 := by omega
            · refine r_setL (ys := [.ref a9, .ref b1, .ref b2]) hL10 (j := 0) rfl rfl ?_
              have tk := TK.upd (K := K) (o := .lst [.ref a9, .ref b1, .ref b2]) hL10
              have fM := Fr.mut (o := .lst [.ref a9, .ref b1, .ref b2]) f510 nLH h0.some
              have tM := St.mut (o := .lst [.ref a9, .ref b1, .ref b2]) h0 f510 t10 nLH
              have hfM := (upd_ne (o := .lst [.ref a9, .ref b1, .ref b2]) (H := H10) nLf.symm).trans hf10
              have qM := qf10.tk tk
              have y0 := tk _ _ z10
              have y1 := tk _ _ c1
              have y2 := tk _ _ c2
              have hLM : (upd H10 L (.lst [.ref a9, .ref b1, .ref b2])) L = some (.lst [.ref a9, .ref b1, .ref b2]) := upd_same
              generalize upd H10 L (.lst [.ref a9, .ref b1, .ref b2]) = M at *
              clear tk hL10 f510 t10 hf10 qf10 c0 c1 c2 z10 hf6 hm6
              walk_at "g"
              rename_i T H12 nT s12 hT
              refine r_app (s12 _ _ hfM) (by omega) ?_
              walk_at "g"
              exact step _ _ ⟨q9, q7.y, q7.z⟩ _ _ _ _ (Fr.trans fM (Same.fr s12)) (St.same s12 tM) (s12 _ _ hfM) (qM.tk (TK.same s12)) ⟨_, _, _, SqT.of hT, Same.tup s12 y0, Same.tup s12 y1, Same.tup s12 y2⟩ ⟨(h4 _ (List.mem_of_getElem? eq9)), b7.y, b7.z⟩
            · refine r_setL (ys := [.ref b0, .ref a9, .ref b2]) hL10 (j := 1) rfl rfl ?_
              have tk := TK.upd (K := K) (o := .lst [.ref b0, .ref a9, .ref b2]) hL10
              have fM := Fr.mut (o := .lst [.ref b0, .ref a9, .ref b2]) f510 nLH h0.some
              have tM := St.mut (o := .lst [.ref b0, .ref a9, .ref b2]) h0 f510 t10 nLH
              have hfM := (upd_ne (o := .lst [.ref b0, .ref a9, .ref b2]) (H := H10) nLf.symm).trans hf10
              have qM := qf10.tk tk
              have y0 := tk _ _ c0
              have y1 := tk _ _ z10
              have y2 := tk _ _ c2
              have hLM : (upd H10 L (.lst [.ref b0, .ref a9, .ref b2])) L = some (.lst [.ref b0, .ref a9, .ref b2]) := upd_same
              generalize upd H10 L (.lst [.ref b0, .ref a9, .ref b2]) = M at *
              clear tk hL10 f510 t10 hf10 qf10 c0 c1 c2 z10 hf6 hm6
              walk_at "g"
              rename_i T H12 nT s12 hT
              refine r_app (s12 _ _ hfM) (by omega) ?_
              walk_at "g"
              exact step _ _ ⟨q7.x, q9, q7.z⟩ _ _ _ _ (Fr.trans fM (Same.fr s12)) (St.same s12 tM) (s12 _ _ hfM) (qM.tk (TK.same s12)) ⟨_, _, _, SqT.of hT, Same.tup s12 y0, Same.tup s12 y1, Same.tup s12 y2⟩ ⟨b7.x, (h4 _ (List.mem_of_getElem? eq9)), b7.z⟩
            · refine r_setL (ys := [.ref b0, .ref b1, .ref a9]) hL10 (j := 2) rfl rfl ?_
              have tk := TK.upd (K := K) (o := .lst [.ref b0, .ref b1, .ref a9]) hL10
              have fM := Fr.mut (o := .lst [.ref b0, .ref b1, .ref a9]) f510 nLH h0.some
              have tM := St.mut (o := .lst [.ref b0, .ref b1, .ref a9]) h0 f510 t10 nLH
              have hfM := (upd_ne (o := .lst [.ref b0, .ref b1, .ref a9]) (H := H10) nLf.symm).trans hf10
              have qM := qf10.tk tk
              have y0 := tk _ _ c0
              have y1 := tk _ _ c1
              have y2 := tk _ _ z10
              have hLM : (upd H10 L (.lst [.ref b0, .ref b1, .ref a9])) L = some (.lst [.ref b0, .ref b1, .ref a9]) := upd_same
              generalize upd H10 L (.lst [.ref b0, .ref b1, .ref a9]) = M at *
              clear tk hL10 f510 t10 hf10 qf10 c0 c1 c2 z10 hf6 hm6
              walk_at "g"
              rename_i T H12 nT s12 hT
              refine r_app (s12 _ _ hfM) (by omega) ?_
              walk_at "g"
              exact step _ _ ⟨q7.x, q7.y, q9⟩ _ _ _ _ (Fr.trans fM (Same.fr s12)) (St.same s12 tM) (s12 _ _ hfM) (qM.tk (TK.same s12)) ⟨_, _, _, SqT.of hT, Same.tup s12 y0, Same.tup s12 y1, Same.tup s12 y2⟩ ⟨b7.x, b7.y, (h4 _ (List.mem_of_getElem? eq9))⟩
          · walk_at "g"
            refine if_eqI (fun z => absurd z (by omega)) (fun _ => ?_)
            walk_at "g"
            intro Da hD
            have LG := lcG_go (K := K) (s := st) (J := fun i acc H' => ∃ zs : List Rat, QtL K H' acc zs ∧ zs.length = i ∧ ∀ q, q ∈ zs → BN 134 134 q) hD t6 (fun _ _ _ _ e h => h.elim fun zs h => ⟨zs, h.1.tk e, h.2⟩)
            have Dst : Da ≠ st := fun e => t6.some (e ▸ hD)
            refine lc_rngG (K := K) (n := 3) LG (go_new hD t6) ⟨[], .nil, rfl, fun _ h => by cases h⟩ (fun _ => rfl) ?_ ?_
            · rintro j ac H7 hj hacc hDa ⟨f7, t7⟩ ⟨zs, J, jl, jb⟩
              have hm7 := f7.lstN t6 hm6 nm
              walk_at "g"
              refine u__law_pick t7 (SqL.of hm7) (by omega) (by omega) nm ?_
              intro H8 i8 v8 f8 t8 e8
              obtain ⟨a8, q8, rfl, eq8, z8⟩ := (hqm.tk (TK.fr (Fr.trans (Fr.trans (Fr.trans f5 f6) f7) f8) h0)).get' e8
              exact r_lcQ (K := K) LG (by omega) hacc (f8.keep _ _ Dst hDa) ⟨f7.trans f8, t8⟩ ⟨zs ++ [q8], (J.tk (TK.fr f8 t7)).snoc z8, by simp [jl], all_snoc jb (h4 _ (List.mem_of_getElem? eq8))⟩
            rintro ac H7 hacc hDa ⟨f7, t7⟩ ⟨zs, J, jl, jb⟩
            obtain ⟨x, y, z, rfl⟩ := three_rat jl
            obtain ⟨b0, b1, b2, rfl, hb0, hb1, hb2⟩ := QtL.three J
            have hf7 := f7.lstN t6 hf6 nq
            walk_at "g"
            rename_i T H8 nT s8 hT
            refine r_app (s8 _ _ hf7) (by omega) ?_
            walk_at "g"
            exact step _ _ ⟨x, y, z⟩ _ _ _ _ (Fr.trans f5 (Fr.trans f6 (Fr.trans f7 (Same.fr s8)))) (St.same s8 t7) (s8 _ _ hf7) (qf.tk (TK.fr (Fr.trans f6 (Fr.trans f7 (Same.fr s8))) t5)) ⟨b0, b1, b2, SqT.of hT, Same.tup s8 hb0, Same.tup s8 hb1, Same.tup s8 hb2⟩ ⟨jb x (by simp), jb y (by simp), jb z (by simp)⟩
        · walk_at "g"
          refine if_eqI (fun e2 => ?_) (fun e2 => ?_)
          · walk_at "g"
            rename_i H7 p7 q7 f7 t7 z7 b7
            have hf7 := f7.lstN t6 hf6 qf.notS
            refine r_app hf7 (by omega) ?_
            walk_at "g"
            exact step _ _ _ _ _ _ _ (Fr.trans f5 (Fr.trans f6 f7)) t7 hf7 (qf.tk (TK.fr (Fr.trans f6 f7) t5)) z7 b7
          · walk_at "g"
            intro Da hD
            have LG := lcG_go (K := K) (s := st) (J := fun i acc H' => ∃ zs : List Rat, QtL K H' acc zs ∧ zs.length = i ∧ ∀ q, q ∈ zs → BN 134 134 q) hD t6 (fun _ _ _ _ e h => h.elim fun zs h => ⟨zs, h.1.tk e, h.2⟩)
            have Dst : Da ≠ st := fun e => t6.some (e ▸ hD)
            refine lc_rngG (K := K) (n := 3) LG (go_new hD t6) ⟨[], .nil, rfl, fun _ h => by cases h⟩ (fun _ => rfl) ?_ ?_
            · rintro j ac H7 hj hacc hDa ⟨f7, t7⟩ ⟨zs, J, jl, jb⟩
              have hm7 := f7.lstN t6 hm6 nm
              walk_at "g"
              refine u__law_pick t7 (SqL.of hm7) (by omega) (by omega) nm ?_
              intro H8 i8 v8 f8 t8 e8
              obtain ⟨a8, q8, rfl, eq8, z8⟩ := (hqm.tk (TK.fr (Fr.trans (Fr.trans (Fr.trans f5 f6) f7) f8) h0)).get' e8
              exact r_lcQ (K := K) LG (by omega) hacc (f8.keep _ _ Dst hDa) ⟨f7.trans f8, t8⟩ ⟨zs ++ [q8], (J.tk (TK.fr f8 t7)).snoc z8, by simp [jl], all_snoc jb (h4 _ (List.mem_of_getElem? eq8))⟩
            rintro ac H7 hacc hDa ⟨f7, t7⟩ ⟨zs, J, jl, jb⟩
            obtain ⟨x, y, z, rfl⟩ := three_rat jl
            obtain ⟨b0, b1, b2, rfl, hb0, hb1, hb2⟩ := QtL.three J
            have hf7 := f7.lstN t6 hf6 nq
            walk_at "g"
            rename_i T H8 nT s8 hT
            refine r_app (s8 _ _ hf7) (by omega) ?_
            walk_at "g"
            exact step _ _ ⟨x, y, z⟩ _ _ _ _ (Fr.trans f5 (Fr.trans f6 (Fr.trans f7 (Same.fr s8)))) (St.same s8 t7) (s8 _ _ hf7) (qf.tk (TK.fr (Fr.trans f6 (Fr.trans f7 (Same.fr s8))) t5)) ⟨b0, b1, b2, SqT.of hT, Same.tup s8 hb0, Same.tup s8 hb1, Same.tup s8 hb2⟩ ⟨jb x (by simp), jb y (by simp), jb z (by simp)⟩
    · rintro σ' H5 ⟨fa, ps, o4, o5, o6, o7, rfl, f5, t5, hf5, qf, lq, bq⟩
      walk_at "g"
      exact k _ fo ps f5 t5 fs ⟨fa, hf5, qf⟩ (by omega) bq
in #guard_msgs in universe u_z
abbrev s__law_lies : Stmt := top 29
theorem sc__law_lies : FnScope ["one", "two", "k", "gap"] ["one", "two"] (defScope s__law_lies) := ⟨rfl, rfl, rfl, by decide +kernel, rfl, by decide +kernel, by decide +kernel⟩
set_option Elab.async true in
set_option maxHeartbeats 4000000 in
theorem ok__law_lies {f : Addr} {fd : FuncData} (F : FunA K "_law_lies" "_law_lies" s__law_lies f fd) (T : BltN mg) : FnOk P w K mg base CX0 1 f fd ["one", "two"] (sp__law_lies K) := by
  refine F.ok sc__law_lies (fun vs H Q E h => ?_) (fun cdv A outer s H vs Q E hr h => ?_)
  · obtain ⟨_, _, _, _, rfl, _⟩ := h
    rfl
  · obtain ⟨u, v, p, q, rfl, h0, h1, h2, h3, k⟩ := h
    refine ⟨_, (pss_cons (ps_for PassesOwn.never rfl (pi_range1 (by rfl) T.range (pa_cons pe_int pa_nil)) (pg_name (i := 2) sc__law_lies.nd rfl (.inl rfl))
 (pss_cons (ps_set (i := 3) sc__law_lies.nd rfl (.inl rfl) (pe_op op_sub (pe_op op_mulW (pe_ix (kx_tup (K := K) rfl) (pe_ix (kx_tup (K := K) rfl) (pv 0) (pv 2) (fun _ _ => rfl)) pe_int (fun _ _ => rfl)) (pe_ix (kx_tup (K := K) rfl) (pe_ix (kx_tup (K := K) rfl) (pv 1) (pv 2) (fun _ _ => rfl)) pe_int (fun _ _ => rfl))) (pe_op op_mulW (pe_ix (kx_tup (K := K) rfl) (pe_ix (kx_tup (K := K) rfl) (pv 1) (pv 2) (fun _ _ => rfl)) pe_int (fun _ _ => rfl)) (pe_ix (kx_tup (K := K) rfl) (pe_ix (kx_tup (K := K) rfl) (pv 0) (pv 2) (fun _ _ => rfl)) pe_int (fun _ _ => rfl)))))
 (pss_cons (ps_if (pt_cmpR op_lt (pv 3) pe_int (nomark _))
 (pss_one (ps_ret (pe_un un_neg pe_int)))
 pss_nil)
 (pss_one (ps_if (pt_cmpR op_gt (pv 3) pe_int (nomark _))
 (pss_one (ps_ret pe_int))
 pss_nil)))))
 (pss_one (ps_ret pe_int))), ?_⟩
    obtain ⟨a0, a1, a2, hu, ha0, ha1, ha2⟩ := id h0
    obtain ⟨b0, b1, b2, hv, hb0, hb1, hb2⟩ := id h1
    obtain ⟨px, py, pz⟩ := id h2
    obtain ⟨qx, qy, qz⟩ := id h3
    walk_at "g"
    refine f_range (n := 3) (fun i σ' H' => ∃ o2 o3, σ' = [some (.ref u), some (.ref v), o2, o3] ∧ Same H H' ∧ (0 < i → p.x = q.x) ∧ (1 < i → p.y = q.y) ∧ (2 < i → p.z = q.z)) ⟨_, _, rfl, Same.refl _, (fun h => absurd h (by decide)), (fun h => absurd h (by decide)), (fun h => absurd h (by decide))⟩ ?_ ?_
    · rintro i σ' H1 hi ⟨o2, o3, rfl, s1, e0, e1, e2⟩
      obtain rfl | rfl | rfl : i = 0 ∨ i = 1 ∨ i = 2 := by omega
      · have g1 := (Rat.lt_iff p.x q.x).1
        have g2 := (Rat.lt_iff q.x p.x).1
        have g3 : p.x = q.x → p.x.num * (q.x.den : Int) - q.x.num * (p.x.den : Int) = 0 := fun h => by
          rw [h]
          omega
        have bp := px.n
        have bp2 := px.d
        have bq := qx.n
        have bq2 := qx.d
        have hx2 := Same.tup s1 ha0
        have hy2 := Same.tup s1 hb0
        have hu2 := Same.tup s1 hu
        have hv2 := Same.tup s1 hv
        walk_at "g"
        refine if_dec (fun c1 => ?_) (fun c1 => ?_)
        · walk_at "g"
          have z := tel_x (r := -1) (fun _ => rfl) (fun h => by have := g2 h; omega) (fun h => by have := g3 h; omega) (by decide)
          exact k _ _ (by walk_at "same") z.lt z.gt z.eq
        · walk_at "g"
          refine if_dec (fun c2 => ?_) (fun c2 => ?_)
          · walk_at "g"
            have z := tel_x (r := 1) (fun h => by have := g1 h; omega) (fun _ => rfl) (fun h => by have := g3 h; omega) (by decide)
            exact k _ _ (by walk_at "same") z.lt z.gt z.eq
          · walk_at "g"
            have ee : p.x = q.x := by
              rcases rat_tri3 p.x q.x with h | h | h
              · have := g1 h
                omega
              · exact h
              · have := g2 h
                omega
            exact ⟨_, _, rfl, by walk_at "same", (fun _ => ee), (fun h => absurd h (by decide)), (fun h => absurd h (by decide))⟩
      · have g1 := (Rat.lt_iff p.y q.y).1
        have g2 := (Rat.lt_iff q.y p.y).1
        have g3 : p.y = q.y → p.y.num * (q.y.den : Int) - q.y.num * (p.y.den : Int) = 0 := fun h => by
          rw [h]
          omega
        have bp := py.n
        have bp2 := py.d
        have bq := qy.n
        have bq2 := qy.d
        have hx2 := Same.tup s1 ha1
        have hy2 := Same.tup s1 hb1
        have hu2 := Same.tup s1 hu
        have hv2 := Same.tup s1 hv
        walk_at "g"
        refine if_dec (fun c1 => ?_) (fun c1 => ?_)
        · walk_at "g"
          have z := tel_y (e0 (by decide)) (r := -1) (fun _ => rfl) (fun h => by have := g2 h; omega) (fun h => by have := g3 h; omega) (by decide)
          exact k _ _ (by walk_at "same") z.lt z.gt z.eq
        · walk_at "g"
          refine if_dec (fun c2 => ?_) (fun c2 => ?_)
          · walk_at "g"
            have z := tel_y (e0 (by decide)) (r := 1) (fun h => by have := g1 h; omega) (fun _ => rfl) (fun h => by have := g3 h; omega) (by decide)
            exact k _ _ (by walk_at "same") z.lt z.gt z.eq
          · walk_at "g"
            have ee : p.y = q.y := by
              rcases rat_tri3 p.y q.y with h | h | h
              · have := g1 h
                omega
              · exact h
              · have := g2 h
                omega
            exact ⟨_, _, rfl, by walk_at "same", (fun _ => e0 (by decide)), (fun _ => ee), (fun h => absurd h (by decide))⟩
      · have g1 := (Rat.lt_iff p.z q.z).1
        have g2 := (Rat.lt_iff q.z p.z).1
        have g3 : p.z = q.z → p.z.num * (q.z.den : Int) - q.z.num * (p.z.den : Int) = 0 := fun h => by
          rw [h]
          omega
        have bp := pz.n
        have bp2 := pz.d
        have bq := qz.n
        have bq2 := qz.d
        have hx2 := Same.tup s1 ha2
        have hy2 := Same.tup s1 hb2
        have hu2 := Same.tup s1 hu
        have hv2 := Same.tup s1 hv
        walk_at "g"
        refine if_dec (fun c1 => ?_) (fun c1 => ?_)
        · walk_at "g"
          have z := tel_z (e0 (by decide)) (e1 (by decide)) (r := -1) (fun _ => rfl) (fun h => by have := g2 h; omega) (fun h => by have := g3 h; omega) (by decide)
          exact k _ _ (by walk_at "same") z.lt z.gt z.eq
        · walk_at "g"
          refine if_dec (fun c2 => ?_) (fun c2 => ?_)
          · walk_at "g"
            have z := tel_z (e0 (by decide)) (e1 (by decide)) (r := 1) (fun h => by have := g1 h; omega) (fun _ => rfl) (fun h => by have := g3 h; omega) (by decide)
            exact k _ _ (by walk_at "same") z.lt z.gt z.eq
          · walk_at "g"
            have ee : p.z = q.z := by
              rcases rat_tri3 p.z q.z with h | h | h
              · have := g1 h
                omega
              · exact h
              · have := g2 h
                omega
            exact ⟨_, _, rfl, by walk_at "same", (fun _ => e0 (by decide)), (fun _ => e1 (by decide)), (fun _ => ee)⟩
    · rintro σ' H1 ⟨o2, o3, rfl, s1, e0, e1, e2⟩
      have z := tel_eq (e0 (by decide)) (e1 (by decide)) (e2 (by decide))
      walk_at "g"
      exact k _ _ s1 z.lt z.gt z.eq
in #guard_msgs in universe u_z
abbrev s__law_sorted : Stmt := top 30
theorem sc__law_sorted : FnScope ["actual", "items", "k", "part"] ["actual", "items"] (defScope s__law_sorted) := ⟨rfl, rfl, rfl, by decide +kernel, rfl, by decide +kernel, by decide +kernel⟩
set_option Elab.async true in
set_option maxHeartbeats 4000000 in
theorem ok__law_sorted {f : Addr} {fd : FuncData} (F : FunA K "_law_sorted" "_law_sorted" s__law_sorted f fd) (T : BltN mg) (C__law_is_vector : Cal P w K mg base "_law_is_vector" 3 ["value"] (sp__law_is_vector K)) (C__law_lies : Cal P w K mg base "_law_lies" 1 ["one", "two"] (sp__law_lies K)) : FnOk P w K mg base CX0 4 f fd ["actual", "items"] (sp__law_sorted K) := by
  refine F.ok sc__law_sorted (fun vs H Q E h => ?_) (fun cdv A outer s H vs Q E hr h => ?_)
  · obtain ⟨_, _, _, _, rfl, _⟩ := h
    rfl
  · obtain ⟨l, u, ts, qs, rfl, h0, h1, h2, h3, h4, h5, h6, k⟩ := h
    refine ⟨_, (pss_cons (ps_if (pt_not (pt_val (pe_callB (kc_isi (K := K) rfl) (by rfl) T.isinstance (by decide +kernel) (pa_cons (pv 0) (pa_cons (pe_bltn (v := .ty "list") (u := .type "list") (by rfl) T.list (by decide +kernel) rfl) pa_nil)))))
 (pss_one (ps_ret pe_bl))
 pss_nil)
 (pss_cons (ps_for PassesOwn.never rfl (pi_range1 (by rfl) T.range (pa_cons (pe_callB (kc_len (K := K) rfl) (by rfl) T.len (by decide +kernel) (pa_cons (pv 0) pa_nil)) pa_nil)) (pg_name (i := 2) sc__law_sorted.nd rfl (.inl rfl))
 (pss_cons (ps_if (PW.pt (pw_or (pt_not (pt_val (pc C__law_is_vector (hr.mono (by decide)) (by rfl) (pa_cons (pe_ix (kx_list (K := K) rfl) (pv 0) (pv 2) (fun _ _ => rfl)) pa_nil)))) (pw_or1 (pt_cmpR (ko_niD (K := K) rfl (hu_of65 hr)) (pe_ix (kx_list (K := K) rfl) (pv 0) (pv 2) (fun _ _ => rfl)) (pv 1) (by rfl)))))
 (pss_one (ps_ret pe_bl))
 pss_nil)
 (pss_one (ps_if (PW.pt (pw_and (pt_cmpR op_gt (pv 2) pe_int (nomark _)) (pw_and1 (pt_cmpR op_ge (pc C__law_lies (hr.mono (by decide)) (by rfl) (pa_cons (pe_ix (kx_list (K := K) rfl) (pv 0) (pe_op op_sub (pv 2) pe_int) (fun _ _ => rfl)) (pa_cons (pe_ix (kx_list (K := K) rfl) (pv 0) (pv 2) (fun _ _ => rfl)) pa_nil))) pe_int (nomark _)))))
 (pss_one (ps_ret pe_bl))
 pss_nil))))
 (pss_one (ps_ret (pe_cmpR op_eq (pe_callB (kc_len (K := K) rfl) (by rfl) T.len (by decide +kernel) (pa_cons (pe_lc (own := [("part", 3)]) rfl sc__law_sorted.nd (kp_list (K := K) rfl (pv 1)) (blkOk_by (own := [("part", 3)]) (N := ["actual", "items", "k", "part"]) (sc := defScope s__law_sorted) (by decide +kernel)) (fun _ _ _ _ _ => (pg_name (i := 3) sc__law_sorted.nd rfl (.inl rfl))) (fun _ _ _ _ _ => (pts_one (pt_cmpR (ko_niD (K := K) rfl (hu_of65 hr)) (pv 3) (pv 0) (by rfl)))) (fun _ _ _ _ _ => (pv 3))) pa_nil)) pe_int (nomark _)))))), ?_⟩
    obtain ⟨acc, ha, hq⟩ := id h0
    obtain ⟨bcc, hb, hp⟩ := id h1
    have l1 := hq.len
    have l2 := hp.len
    walk_at "g"
    refine f_range (n := ts.length) (fun i σ' H' => ∃ o2, σ' = [some (.ref l), some (.ref u), o2, none] ∧ Same H H') ⟨_, rfl, by walk_at "same"⟩ ?_ ?_
    · rintro i σ' H1 hi ⟨o2, rfl, s1⟩
      rw [Int.zero_add]
      have hi : i < acc.length := by omega
      have ex := List.getElem?_eq_getElem hi
      generalize acc[i]'hi = x at ex
      obtain ⟨a, q, rfl, eq, hqa⟩ := hq.get' ex
      have hqa1 := Vc.same s1 hqa
      have ha1 := s1 _ _ ha
      have hl1 := h0.same s1
      have hu1 := h1.same s1
      have ix : atI acc (i : Int) = some (.ref a) := atI_nat ex
      have hm : q ∈ qs := (h3 q).1 (List.mem_of_getElem? eq)
      have bq := h4 q hm
      walk_at "g"
      refine r_niV (by walk_at "vc") (by walk_at "vl") ?_
      rw [decide_eq_true hm]
      walk_at "g"
      refine if_dec (fun h9 => ?_) (fun h9 => ?_)
      · have hj : i - 1 < acc.length := by omega
        have ey := List.getElem?_eq_getElem hj
        generalize acc[i - 1]'hj = y at ey
        obtain ⟨a', q', rfl, eq', hqa'⟩ := hq.get' ey
        have hqa2' := Vc.same s1 hqa'
        have bq' := h4 q' ((h3 q').1 (List.mem_of_getElem? eq'))
        have ix2 : atI acc ((i : Int) - 1) = some (.ref a') := by
          have := atI_nat ey
          rw [show ((i - 1 : Nat) : Int) = (i : Int) - 1 by omega] at this
          exact this
        have hlt : lt3 q' q := by
          obtain ⟨b1, c1⟩ := List.getElem?_eq_some_iff.1 eq'
          obtain ⟨b2, c2⟩ := List.getElem?_eq_some_iff.1 eq
          rw [← c1, ← c2]
          exact List.pairwise_iff_getElem.1 h2 (i - 1) i b1 b2 (by omega)
        walk_at "g"
        rename_i H8 r8 s8 g1 g2 g3
        have := g1 hlt
        refine if_dec (fun h8 => ?_) (fun h8 => ?_)
        · exfalso
          omega
        · walk_at "g"
          exact ⟨_, rfl, by walk_at "same"⟩
      · walk_at "g"
        exact ⟨_, rfl, by walk_at "same"⟩
    · rintro σ' H1 ⟨o2, rfl, s1⟩
      have hb1 := s1 _ _ hb
      walk_at "g"
      intro D hD
      refine lc_lstT (K := K) (a := u) (xs := bcc) (fun i H' => H' D = some (.lst []) ∧ Same H1 H') ⟨upd_same, Same.new hD⟩ (fun i H' _ ⟨_, g⟩ => SqL.of (g _ _ hb1)) ?_ ?_
      · rintro i x H2 ex ⟨hDa, g⟩
        obtain ⟨a, q, rfl, eq, hqa⟩ := hp.get' ex
        have hqa2 := Vc.same (s1.trans g) hqa
        have hl2 := h0.same (s1.trans g)
        have hm : q ∈ ts := (h3 q).2 (List.mem_of_getElem? eq)
        walk_at "g"
        refine ⟨rfl, ?_⟩
        walk_at "g"
        refine r_niV hqa2 hl2 ?_
        rw [decide_eq_true hm]
        exact ⟨_, rfl, by rw [if_neg (by decide)]; exact ⟨hDa, g⟩⟩
      · rintro H2 ⟨hDa, g⟩
        walk_at "g"
        exact k _ (by walk_at "same")
in #guard_msgs in universe u_z
abbrev s__law_again : Stmt := top 31
theorem sc__law_again : FnScope ["store", "items", "more", "handed", "first", "k"] ["store", "items", "more"] (defScope s__law_again) := ⟨rfl, rfl, rfl, by decide +kernel, rfl, by decide +kernel, by decide +kernel⟩
set_option Elab.async true in
set_option maxHeartbeats 4000000 in
theorem ok__law_again {f : Addr} {fd : FuncData} (F : FunA K "_law_again" "_law_again" s__law_again f fd) (T : BltN mg) (C_sort_points : Cal P w K mg base "sort_points" 7 ["points"] (sp_sort_points K)) (C__law_sorted : Cal P w K mg base "_law_sorted" 4 ["actual", "items"] (sp__law_sorted K)) (C__law_take : Cal P w K mg base "_law_take" 2 ["store", "many"] (sp__law_take K)) (KC_sort_points_0_points : KCal P w K mg base "sort_points" 7 ["points"] (sp_sort_points K) 0 ["points"] (pkV [0] [])) : FnOk P w K mg base CX0 8 f fd ["store", "items", "more"] (sp__law_again K) := by
  refine F.ok sc__law_again (fun vs H Q E h => ?_) (fun cdv A outer s H vs Q E hr h => ?_)
  · obtain ⟨_, _, _, _, _, rfl, _⟩ := h
    rfl
  · obtain ⟨st, l, am, qs, x, rfl, h0, h1, h2, h3, h4, h5, h6, k⟩ := h
    refine ⟨_, (pss_cons (ps_set (i := 3) sc__law_again.nd rfl (.inl rfl) (pe_callTy (kc_list (K := K) rfl) (by rfl) T.list (by decide +kernel) (pa_cons (pv 1) pa_nil)))
 (pss_cons (ps_set (i := 4) sc__law_again.nd rfl (.inl rfl) (pc C_sort_points (hr.mono (by decide)) (by rfl) (pa_cons (pv 3) pa_nil)))
 (pss_cons (ps_if (PW.pt (pw_or (pt_cmpR (ko_neD (K := K) rfl (hu_of64 hr)) (pv 3) (pv 1) (nomark _)) (pw_or (pt_not (pt_val (pc C__law_sorted (hr.mono (by decide)) (by rfl) (pa_cons (pv 4) (pa_cons (pv 1) pa_nil))))) (pw_or1 (pt_not (pt_val (pc C__law_sorted (hr.mono (by decide)) (by rfl) (pa_cons (pc C_sort_points (hr.mono (by decide)) (by rfl) (pa_cons (pv 4) pa_nil)) (pa_cons (pv 1) pa_nil)))))))))
 (pss_one (ps_ret pe_bl))
 pss_nil)
 (pss_cons (ps_if (pt_not (pt_val (pc C__law_sorted (hr.mono (by decide)) (by rfl) (pa_cons (pc C_sort_points (hr.mono (by decide)) (by rfl) (pa_cons (pe_lc (own := [("k", 5)]) rfl sc__law_again.nd (pi_range1 (by rfl) T.range (pa_cons (pe_callB (kc_len (K := K) rfl) (by rfl) T.len (by decide +kernel) (pa_cons (pv 1) pa_nil)) pa_nil)) (blkOk_by (own := [("k", 5)]) (N := ["store", "items", "more", "handed", "first", "k"]) (sc := defScope s__law_again) (by decide +kernel)) (fun _ _ _ _ _ => (pg_name (i := 5) sc__law_again.nd rfl (.inl rfl))) (fun _ _ _ _ _ => pts_nil) (fun _ _ _ _ _ => (pe_ix (kx_list (K := K) rfl) (pv 1) (pe_op op_sub (pe_un un_neg pe_int) (pv 5)) (fun _ _ => rfl)))) pa_nil)) (pa_cons (pv 1) pa_nil)))))
 (pss_one (ps_ret pe_bl))
 pss_nil)
 (pss_cons (ps_expr (k_bm (K := K) rfl PySem.F.plainAttrs_list PySem.F.slot_list_append PySem.F.type_list_append mt_append (pv 4) (pa_cons pe_str pa_nil)))
 (pss_cons (ps_if (PW.pt (pw_or (pt_cmpR (ko_neD (K := K) rfl (hu_of64 hr)) (pv 3) (pv 1) (nomark _)) (pw_or1 (pt_not (pt_val (pc C__law_sorted (hr.mono (by decide)) (by rfl) (pa_cons (pc C_sort_points (hr.mono (by decide)) (by rfl) (pa_cons (pv 3) pa_nil)) (pa_cons (pv 1) pa_nil))))))))
 (pss_one (ps_ret pe_bl))
 pss_nil)
 (pss_cons (ps_expr (k_bm (K := K) rfl PySem.F.plainAttrs_list PySem.F.slot_list_insert PySem.F.type_list_insert km_insert (pv 3) (pa_cons (pc C__law_take (hr.mono (by decide)) (by rfl) (pa_cons (pv 0) (pa_cons (pe_op op_add (pe_callB (kc_len (K := K) rfl) (by rfl) T.len (by decide +kernel) (pa_cons (pv 3) pa_nil)) pe_int) pa_nil))) (pa_cons (pv 2) pa_nil))))
 (pss_one (ps_ret (pe_and (pc C__law_sorted (hr.mono (by decide)) (by rfl) (pa_cons (pcK0 KC_sort_points_0_points (hr.mono (by decide)) (by rfl) (pk_cons (pv 3) pk_nil)) (pa_cons (pv 3) pa_nil))) (pe_one (pc C__law_sorted (hr.mono (by decide)) (by rfl) (pa_cons (pc C_sort_points (hr.mono (by decide)) (by rfl) (pa_cons (pv 1) pa_nil)) (pa_cons (pv 1) pa_nil)))))))))))))), ?_⟩
    have zam := h5
    obtain ⟨acc, ha, hq⟩ := id h2
    have l1 := hq.len
    walk_at "g"
    rename_i hd H1 n1 s1 hh1
    have q1 : VL K H1 hd qs := hh1
    have l01 : VL K H1 l qs := VL.same s1 h2
    have t1 : St K H1 st := St.same s1 h0
    have T1 := h1.ext s1
    have nlh : hd ≠ l := fun e => by rw [e, ha] at n1; cases n1
    refine u_sort_points T1 q1 h3 (by omega) ?_
    intro H2 f ts e2 T2 nf qf pt mt lt
    have q2 : VL K H2 hd qs := q1.ext e2
    have l02 : VL K H2 l qs := l01.ext e2
    have t2 : St K H2 st := St.ext t1 e2
    have f2 : FrT st H H2 := (Same.frt s1).trans (ext_frt e2)
    have bt : ∀ q, q ∈ ts → VN 134 134 q := fun q z => h3 q ((mt q).1 z)
    have nfl : Fresh H1 f := nf
    clear hh1 T1 nf ha hq h2
    walk_at "g"
    refine r_neVL q2 l02 ?_
    rw [decide_eq_true rfl]
    walk_at "g"
    rename_i H3 s3
    have q3 := VL.same s3 q2
    have l03 := VL.same s3 l02
    have t3 := St.same s3 t2
    have qf3 := VL.same s3 qf
    refine u_sort_points (T2.ext s3) qf3 bt (by omega) ?_
    intro H4 g us e4 T4 _ qg pu mu lu
    have e24 : LamX.ExtN H1 H4 := e2.trans ((ext_same s3).trans e4)
    have q4 : VL K H4 hd qs := q3.ext e4
    have l04 : VL K H4 l qs := l03.ext e4
    have t4 : St K H4 st := St.ext t3 e4
    have qf4 : VL K H4 f ts := qf3.ext e4
    have f4 : FrT st H H4 := f2.trans ((Same.frt s3).trans (ext_frt e4))
    have mu4 : ∀ q, q ∈ us ↔ q ∈ qs := fun q => (mu q).trans (mt q)
    clear f2 s3 e2 q3 l03 t3 qf3 q2 l02 t2 qf
    walk_at "g"
    rename_i H5 s5
    obtain ⟨ac, hac, qac⟩ := id l04
    have la := qac.len
    have hac5 := s5 _ _ hac
    walk_at "g"
    intro Db hDb
    have LG := lcG_same (K := K) (J := fun i acc H' => VcL K H' acc (qs.reverse.take i)) hDb (fun _ _ _ _ e h => h.tk e)
    refine lc_rngG (K := K) (n := qs.length) LG (Same.new hDb) .nil (fun _ => rfl) ?_ ?_
    · rintro i acc7 H7 hi hacc hDa7 sg7 J7
      have hj : ac.length - 1 - i < ac.length := by omega
      obtain ⟨a', q', ea, eq', sq'⟩ := qac.get' (List.getElem?_eq_getElem hj)
      have er : qs.reverse[i]? = some q' := by
        rw [List.getElem?_reverse (by omega), ← la]
        exact eq'
      have el7 : H7 l = some (.lst ac) := sg7 _ _ hac5
      walk_at "g"
      refine r_ixL (SqL.of el7) (atI_neg (List.getElem?_eq_getElem hj) (by omega)) ?_
      rw [ea]
      walk_at "g"
      refine r_lcQ (K := K) LG (by omega) hacc hDa7 sg7 ?_
      rw [List.take_add_one, er]
      exact VcL.snoc J7 (Vc.same (s5.trans sg7) sq')
    rintro acc7 H7 hacc hDa7 sg7 J7
    rw [show qs.length = qs.reverse.length by simp, List.take_length] at J7
    have s7 : Same H4 H7 := s5.trans sg7
    have rev7 : VL K H7 Db qs.reverse := ⟨acc7, hDa7, J7⟩
    have q7 := VL.same s7 q4
    have l07 := VL.same s7 l04
    have t7 := St.same s7 t4
    have qf7 := VL.same s7 qf4
    have T7 := T4.ext s7
    have f7 : FrT st H H7 := f4.trans (Same.frt s7)
    have e7 : LamX.ExtN H1 H7 := e24.trans (ext_same s7)
    clear LG hDb hacc hDa7 sg7 J7 hac hac5 qac la s5 q4 l04 t4 qf4 T4 f4 e24 s7 e4 qg pu mu mu4 lu
    walk_at "g"
    refine u_sort_points T7 rev7 (fun q z => h3 q (List.mem_reverse.1 z)) (by simp; omega) ?_
    intro H8 h vs e8 T8 _ qh pv mv lv
    have q8 := q7.ext e8
    have l08 := l07.ext e8
    have t8 : St K H8 st := St.ext t7 e8
    have qf8 := qf7.ext e8
    have f8 : FrT st H H8 := f7.trans (ext_frt e8)
    have e08 : LamX.ExtN H1 H8 := e7.trans e8
    have mv8 : ∀ q, q ∈ vs ↔ q ∈ qs := fun q => (mv q).trans List.mem_reverse
    clear q7 l07 t7 qf7 f7 e7 e8 T7 rev7
    have lv8 : vs.length ≤ 48 := by simp at lv; omega
    walk_at "g"
    rename_i H9 s9
    obtain ⟨af, haf, qaf⟩ := id qf8
    have haf9 := s9 _ _ haf
    have lf := qaf.len
    walk_at "g"
    refine r_app haf9 (by omega) ?_
    have eM := ext_mut (o := .lst (af ++ [.str (Str.ofString "spoilt")])) (e08.trans (ext_same s9)) nfl
    have TM := Tabs.mutL (o := .lst (af ++ [.str (Str.ofString "spoilt")])) (T8.ext s9) haf9
    have fM := FrT.mut (o := .lst (af ++ [.str (Str.ofString "spoilt")])) (f8.trans (Same.frt s9)) (fun b o hb z => nfl b o (s1 _ _ hb) z)
    generalize upd H9 f (.lst (af ++ [.str (Str.ofString "spoilt")])) = M at *
    have q9 : VL K M hd qs := q1.ext eM
    have l09 : VL K M l qs := l01.ext eM
    have t9 : St K M st := St.ext t1 eM
    clear haf haf9 qaf lf f8 e08 T8 q8 l08 t8 qf8 s9 qh pv mv mv8 lv lv8 eM q1 l01 t1 nfl s1 lt mt pt bt T2
    walk_at "g"
    refine r_neVL q9 l09 ?_
    rw [decide_eq_true rfl]
    walk_at "g"
    rename_i H10 g2 ws e10 T10 n10 qw pw mw lw
    obtain ⟨ah, hah, qah⟩ := q9.ext e10
    have l10 := l09.ext e10
    have t10 : St K H10 st := St.ext t9 e10
    have f10 : FrT st H H10 := fM.trans (ext_frt e10)
    have lah := qah.len
    clear n10 fM TM q9 l09 t9 e10
    walk_at "g"
    rename_i H11 s11 H12 j f12 t12 j0 j1
    have fs12 : Fr st H10 H12 := Fr.trans (Same.fr s11) f12
    have hah12 := fs12.lstN t10 hah qah.notS
    have f1 : FrT st H H12 := f10.trans (Fr.frt fs12)
    have z12 : Vc K H12 am x := zam.tk (tk_frt f1 h0)
    have q12 := VcL.ins (qah.tk (TK.fr fs12 t10)) z12 j.toNat
    have l12 := VL.fr fs12 t10 l10
    have T12 := Tabs.frS T10 fs12 t10
    refine r_insU hah12 (by omega) ⟨j0, by omega⟩ ?_
    have f14 := FrT.mut (o := .lst (ah.take j.toNat ++ [.ref am] ++ ah.drop j.toNat)) f1 (Fresh.of n1)
    have t14 : St K (upd H12 hd (.lst (ah.take j.toNat ++ [.ref am] ++ ah.drop j.toNat))) st := St.mutT h0 f1 t12 (Fresh.of n1)
    have T14 := Tabs.mutL (o := .lst (ah.take j.toNat ++ [.ref am] ++ ah.drop j.toNat)) T12 hah12
    have q14 : VL K (upd H12 hd (.lst (ah.take j.toNat ++ [.ref am] ++ ah.drop j.toNat))) hd (insV qs j.toNat x) := ⟨_, upd_same, q12.tk (TK.upd hah12)⟩
    have l14 := VL.updN (o := .lst (ah.take j.toNat ++ [.ref am] ++ ah.drop j.toNat)) l12 (fun e => nlh e.symm) hah12
    have b14 : ∀ q, q ∈ insV qs j.toNat x → VN 134 134 q := insV_bn h3 h6
    have n14 : (insV qs j.toNat x).length ≤ 49 := by rw [insV_len]; omega
    generalize insV qs j.toNat x = xs at *
    generalize upd H12 hd (.lst (ah.take j.toNat ++ [.ref am] ++ ah.drop j.toNat)) = M2 at *
    clear z12 fs12 hah12 f1 q12 l12 T12 s11 f12 t12 hah qah l10 t10 f10 lah T10 qw pw mw lw j0 j1
    walk_at "g"
    rename_i H15 r15 vs15 e15 T15 n15 qr15 p15 m15 lv15
    have q15 := q14.ext e15
    have l15 := l14.ext e15
    have t15 : St K H15 st := St.ext t14 e15
    have f15 : FrT st H H15 := f14.trans (ext_frt e15)
    clear n15 f14 t14 T14 q14 l14 e15
    walk_at "g"
    rename_i H16 s16
    refine u_sort_points (T15.ext s16) (VL.same s16 l15) h3 (by omega) ?_
    intro H17 r17 vs17 e17 T17 n17 qr17 p17 m17 lv17
    have l17 := (VL.same s16 l15).ext e17
    have t17 : St K H17 st := St.ext (St.same s16 t15) e17
    have f17 : FrT st H H17 := f15.trans ((Same.frt s16).trans (ext_frt e17))
    clear n17 e17 qr15 m15 l15 t15 f15 q15 s16 T15 p15
    walk_at "g"
    rename_i H18 s18
    exact k _ (f17.trans (Same.frt s18)).frn (St.same s18 t17) (T17.ext s18)
in #guard_msgs in universe u_z
abbrev s_law : Stmt := top 32
theorem sc_law : FnScope ["script", "store", "menu", "many", "items", "more", "turn", "few", "one", "two", "actual"] ["script"] (defScope s_law) := ⟨rfl, rfl, rfl, by decide +kernel, rfl, by decide +kernel, by decide +kernel⟩
set_option Elab.async true in
set_option maxHeartbeats 4000000 in
theorem ok_law {f : Addr} {fd : FuncData} (F : FunA K "law" "law" s_law f fd) (T : BltN mg) (C__law_store : Cal P w K mg base "_law_store" 2 ["script"] (sp__law_store K)) (C__law_menu : Cal P w K mg base "_law_menu" 6 ["store"] (sp__law_menu K)) (C__law_listed : Cal P w K mg base "_law_listed" 7 ["store", "menu", "many"] (sp__law_listed K)) (C__law_few : Cal P w K mg base "_law_few" 3 ["store", "most"] (sp__law_few K)) (C__law_again : Cal P w K mg base "_law_again" 8 ["store", "items", "more"] (sp__law_again K)) (C__law_take : Cal P w K mg base "_law_take" 2 ["store", "many"] (sp__law_take K)) (C__law_pick : Cal P w K mg base "_law_pick" 3 ["store", "items"] (sp__law_pick K)) (C_compare_points : Cal P w K mg base "compare_points" 3 ["p", "q"] (sp_compare_points K)) (C__law_lies : Cal P w K mg base "_law_lies" 1 ["one", "two"] (sp__law_lies K)) (C__law_is_integer : Cal P w K mg base "_law_is_integer" 1 ["value"] (sp__law_is_integer K)) (KC_compare_points_0_q_p : KCal P w K mg base "compare_points" 3 ["p", "q"] (sp_compare_points K) 0 ["q", "p"] (pkV [1, 0] [])) : FnOk P w K mg base CX0 9 f fd ["script"] (sp_law K) := by
  refine F.ok sc_law (fun vs H Q E h => ?_) (fun cdv A outer s H vs Q E hr h => ?_)
  · obtain ⟨_, _, rfl, _⟩ := h
    rfl
  · obtain ⟨sa, ns, rfl, h0, h1, h2, k⟩ := h
    refine ⟨_, (pss_cons (ps_set (i := 1) sc_law.nd rfl (.inr rfl) (pc C__law_store (hr.mono (by decide)) (by rfl) (pa_cons (pv 0) pa_nil)))
 (pss_cons (ps_set (i := 2) sc_law.nd rfl (.inr rfl) (pc C__law_menu (hr.mono (by decide)) (by rfl) (pa_cons (pv 1) pa_nil)))
 (pss_cons (ps_set (i := 3) sc_law.nd rfl (.inl rfl) (pe_op op_add (pc C__law_few (hr.mono (by decide)) (by rfl) (pa_cons (pv 1) (pa_cons pe_int pa_nil))) (pe_op op_mulW (pc C__law_take (hr.mono (by decide)) (by rfl) (pa_cons (pv 1) (pa_cons pe_int pa_nil))) (pc C__law_take (hr.mono (by decide)) (by rfl) (pa_cons (pv 1) (pa_cons pe_int pa_nil))))))
 (pss_cons (ps_set (i := 4) sc_law.nd rfl (.inl rfl) (pc C__law_listed (hr.mono (by decide)) (by rfl) (pa_cons (pv 1) (pa_cons (pv 2) (pa_cons (pe_callB (kc_min rfl) (by rfl) T.min (by decide +kernel) (pa_cons pe_int (pa_cons (pv 3) pa_nil))) pa_nil)))))
 (pss_cons (ps_set (i := 5) sc_law.nd rfl (.inl rfl) (pe_callTy (kc_tuple (K := K) rfl) (by rfl) T.tuple (by decide +kernel) (pa_cons (pe_lc (own := [("turn", 6)]) rfl sc_law.nd (pi_range1 (by rfl) T.range (pa_cons pe_int pa_nil)) (blkOk_by (own := [("turn", 6)]) (N := ["script", "store", "menu", "many", "items", "more", "turn", "few", "one", "two", "actual"]) (sc := defScope s_law) (by decide +kernel)) (fun _ _ _ _ _ => (pg_name (i := 6) sc_law.nd rfl (.inl rfl))) (fun _ _ _ _ _ => pts_nil) (fun _ _ _ _ _ => (pc C__law_pick (hr.mono (by decide)) (by rfl) (pa_cons (pv 1) (pa_cons (pv 2) pa_nil))))) pa_nil)))
 (pss_cons (ps_if (pt_not (pt_val (pc C__law_again (hr.mono (by decide)) (by rfl) (pa_cons (pv 1) (pa_cons (pv 4) (pa_cons (pv 5) pa_nil))))))
 (pss_one (ps_ret pe_bl))
 pss_nil)
 (pss_cons (ps_set (i := 7) sc_law.nd rfl (.inl rfl) (pe_op op_cat (pe_slice (ks_list (K := K) rfl) (pv 4) po_none (po_some pe_int)) (pe_lst (pa_cons (pv 5) pa_nil))))
 (pss_cons (ps_for PassesOwn.never rfl (kp_list (K := K) rfl (pv 7)) (pg_name (i := 8) sc_law.nd rfl (.inl rfl))
 (pss_one (ps_for PassesOwn.never rfl (kp_list (K := K) rfl (pv 7)) (pg_name (i := 9) sc_law.nd rfl (.inl rfl))
 (pss_cons (ps_set (i := 10) sc_law.nd rfl (.inl rfl) (pc C_compare_points (hr.mono (by decide)) (by rfl) (pa_cons (pv 8) (pa_cons (pv 9) pa_nil))))
 (pss_cons (ps_if (PW.pt (pw_or (pt_not (pt_val (pc C__law_is_integer (hr.mono (by decide)) (by rfl) (pa_cons (pv 10) pa_nil)))) (pw_or1 (pt_cmpR op_ne (pv 10) (pc C__law_lies (hr.mono (by decide)) (by rfl) (pa_cons (pv 8) (pa_cons (pv 9) pa_nil))) (nomark _)))))
 (pss_one (ps_ret pe_bl))
 pss_nil)
 (pss_one (ps_if (pt_cmpR op_ne (pcK0 KC_compare_points_0_q_p (hr.mono (by decide)) (by rfl) (pk_cons (pv 8) (pk_cons (pv 9) pk_nil))) (pc C__law_lies (hr.mono (by decide)) (by rfl) (pa_cons (pv 9) (pa_cons (pv 8) pa_nil))) (nomark _))
 (pss_one (ps_ret pe_bl))
 pss_nil)))))))
 (pss_one (ps_ret pe_bl)))))))))), ?_⟩
    walk_at "g"
    rename_i H1 st s1 t1 H2 ml qs f2 t2 mns hqm lq1 lq6 bqm H3 r3 f3 t3 r30 r31 H4 r4 f4 t4 r40 r41 H5 r5 f5 t5 r50 r51
    have f25 := Fr.trans f3 (Fr.trans f4 f5)
    have T5 := Tabs.frS (h2.ext s1) (Fr.trans f2 f25) t1
    have hq5 := QL.fr f25 t2 hqm
    have b5 : 0 ≤ r4 * r5 ∧ r4 * r5 ≤ 7 := by
      rcases (show r4 = 0 ∨ r4 = 1 by omega) with rfl | rfl <;> omega
    clear s1 f2 f3 f4 f5 f25 t1 t2 t3 t4 h2 hqm
    generalize r4 * r5 = r45 at *
    refine u__law_listed t5 hq5 lq1 lq6 bqm (by omega) (by omega) ?_
    intro H6 l ps f6 t6 nl hps lps bps
    have T6 := Tabs.frS T5 f6 t5
    obtain ⟨mc, hmc, hqc⟩ := QL.fr f6 t5 hq5
    have lmc := hqc.len
    have nm := hqc.notS
    clear f6 t5 T5 hq5
    walk_at "g"
    intro Da hD
    have LG := lcG_go (K := K) (s := st) (J := fun i acc H' => ∃ zs : List Rat, QtL K H' acc zs ∧ zs.length = i ∧ ∀ q, q ∈ zs → BN 134 134 q) hD t6 (fun _ _ _ _ e h => h.elim fun zs h => ⟨zs, h.1.tk e, h.2⟩)
    have Dst : Da ≠ st := fun e => t6.some (e ▸ hD)
    refine lc_rngG (K := K) (n := 3) LG (go_new hD t6) ⟨[], .nil, rfl, fun _ h => by cases h⟩ (fun _ => rfl) ?_ ?_
    · rintro j ac H7 hj hacc hDa ⟨f7, t7⟩ ⟨zs, J, jl, jb⟩
      have hm7 := f7.lstN t6 hmc nm
      walk_at "g"
      refine u__law_pick t7 (SqL.of hm7) (by omega) (by omega) nm ?_
      intro H8 i8 v8 f8 t8 e8
      obtain ⟨a8, q8, rfl, eq8, z8⟩ := (hqc.tk (TK.fr (Fr.trans f7 f8) t6)).get' e8
      exact r_lcQ (K := K) LG (by omega) hacc (f8.keep _ _ Dst hDa) ⟨f7.trans f8, t8⟩ ⟨zs ++ [q8], (J.tk (TK.fr f8 t7)).snoc z8, by simp [jl], all_snoc jb (bqm _ (List.mem_of_getElem? eq8))⟩
    rintro ac H7 hacc hDa ⟨f7, t7⟩ ⟨zs, J, jl, jb⟩
    obtain ⟨x, y, z, rfl⟩ := three_rat jl
    obtain ⟨b0, b1, b2, rfl, hb0, hb1, hb2⟩ := QtL.three J
    have T7 := Tabs.frS T6 f7 t6
    have hp7 := VL.fr f7 t6 hps
    clear LG hD f7 t6 T6 hps J hmc hqc
    walk_at "g"
    rename_i T H8 nT s8 hT
    have T8 := T7.ext s8
    have t8 := St.same s8 t7
    have hp8 := VL.same s8 hp7
    have v8 : Vc K H8 T ⟨x, y, z⟩ := ⟨b0, b1, b2, SqT.of hT, Same.tup s8 hb0, Same.tup s8 hb1, Same.tup s8 hb2⟩
    have w8 : VN 134 134 (⟨x, y, z⟩ : V3) := ⟨jb x (by simp), jb y (by simp), jb z (by simp)⟩
    clear T7 t7 hp7 s8 hT hb0 hb1 hb2 jb hDa nT
    generalize (⟨x, y, z⟩ : V3) = m at *
    refine u__law_again t8 T8 hp8 bps (by omega) v8 w8 ?_
    intro H9 fN t9 T9
    obtain ⟨acc, hac, qac⟩ := VL.frn fN t8 hp8
    have v9 : Vc K H9 T m := v8.tk (tk_frn fN t8)
    have lac := qac.len
    obtain ⟨rs, hrs, brs, lrs⟩ := qac.cutQ bps none (some (9 : Int))
    have lrs2 := hrs.len
    clear fN t8 T8 hp8 v8 T9 t9
    walk_at "g"
    rename_i u1 H10 n10 s10 h10 u2 H11 n11 s11 h11
    refine r_catL (s11 _ _ h10) h11 ?_ ?_
    · refine decide_eq_true ?_
      rw [lrs2]
      simp
      omega
    intro u H12 n12 s12 h12
    have few : VcL K H12 (cutV acc none (some 9) ++ [.ref T]) (rs ++ [m]) := (hrs.snoc v9).tk (TK.same (s10.trans (s11.trans s12)))
    have bf := vs_snoc brs w8
    generalize cutV acc none (some 9) ++ [V.ref T] = fw at *
    generalize rs ++ [m] = fs at *
    clear s10 h10 s11 h11 s12 n10 n11 n12 v9 hrs hac qac
    walk_at "g"
    refine f_list (K := K) (xs := fw) (fun i σ' H' => ∃ o8 o9 o10, σ' = [some (.ref sa), some (.ref st), some (.ref ml), some (.int (r3 + r45)), some (.ref l), some (.ref T), none, some (.ref u), o8, o9, o10] ∧ Same H12 H') ⟨_, _, _, rfl, Same.refl _⟩ (fun i σ' H' _ ⟨_, _, _, _, s⟩ => SqL.of (s _ _ h12)) ?_ ?_
    · rintro i x σ' H13 ex ⟨o8, o9, o10, rfl, s13⟩
      obtain ⟨a, p, rfl, ep, za⟩ := (few.tk (TK.same s13)).get' ex
      have ba := bf p (List.mem_of_getElem? ep)
      have h13 := s13 _ _ h12
      walk_at "g"
      refine f_list (K := K) (xs := fw) (fun i σ' H' => ∃ o9 o10, σ' = [some (.ref sa), some (.ref st), some (.ref ml), some (.int (r3 + r45)), some (.ref l), some (.ref T), none, some (.ref u), some (.ref a), o9, o10] ∧ Same H13 H') ⟨_, _, rfl, Same.refl _⟩ (fun i σ' H' _ ⟨_, _, _, s⟩ => SqL.of (s _ _ h13)) ?_ ?_
      · rintro j y σ' H14 ey ⟨o9, o10, rfl, s14⟩
        obtain ⟨b, q, rfl, eq, zb⟩ := (few.tk (TK.same (s13.trans s14))).get' ey
        have bb := bf q (List.mem_of_getElem? eq)
        have za14 := za.same s14
        walk_at "g"
        rename_i H15 e1 s15 c1 c2 c3 H16 s16 H17 e2 s17 d1 d2 d3
        have ee : e1 = e2 := by
          rcases tri3 p q with z | z | z
          · rw [c1 z, d1 z]
          · rw [c3 z, d3 z]
          · rw [c2 z, d2 z]
        subst ee
        refine if_neI (fun h => absurd rfl h) (fun _ => ?_)
        clear c1 c2 c3 d1 d2 d3
        walk_at "g"
        rename_i H18 e3 s18 c1 c2 c3 H19 e4 s19 d1 d2 d3
        have ee : e3 = e4 := by
          rcases tri3 q p with z | z | z
          · rw [c1 z, d1 z]
          · rw [c3 z, d3 z]
          · rw [c2 z, d2 z]
        subst ee
        refine if_neI (fun h => absurd rfl h) (fun _ => ?_)
        walk_at "g"
        exact ⟨_, _, rfl, by walk_at "same"⟩
      · rintro σ' H14 ⟨o9, o10, rfl, s14⟩
        walk_at "g"
        exact ⟨_, _, _, rfl, s13.trans s14⟩
    · rintro σ' H13 ⟨o8, o9, o10, rfl, s13⟩
      walk_at "g"
      exact k _
in #guard_msgs in universe u_z
end
set_option Elab.async true in
set_option maxHeartbeats 0 in
theorem all_mk {l : PySem.W.OpenLaw} {w : World} {K : PySem.W.Frag} {h : Heap} {mg : Str → Option Value} {fa : Addr} (X : K.In h) (G : h.Ns mainGlobals mg) (hfa : mg "law" = some (.ref fa))
    {f0 : Addr} {od0 an0 : Option Addr} {sl0 : Array (Option Value)} {oc0 kV0 dc0 pm0 cd0 ct0 : Value}
    (a0 : PySem.W.nsIn K mainGlobals "integer_sign" = some (some (.ref f0))) (l0 : K.lookup f0 = some ⟨oc0, od0, .func (PySem.W.fnOf "integer_sign" "integer_sign" (defArgs s_integer_sign) (defBody s_integer_sign) (defScope s_integer_sign) .none kV0 dc0 pm0 an0 cd0 ct0), sl0⟩) (c0 : PySem.W.codeIn K cd0 "integer_sign" = true) (k0 : PySem.W.keepIn K (.ref f0) = true)
    {f1 : Addr} {od1 an1 : Option Addr} {sl1 : Array (Option Value)} {oc1 kV1 dc1 pm1 cd1 ct1 : Value}
    (a1 : PySem.W.nsIn K mainGlobals "compare" = some (some (.ref f1))) (l1 : K.lookup f1 = some ⟨oc1, od1, .func (PySem.W.fnOf "compare" "compare" (defArgs s_compare) (defBody s_compare) (defScope s_compare) .none kV1 dc1 pm1 an1 cd1 ct1), sl1⟩) (c1 : PySem.W.codeIn K cd1 "compare" = true) (k1 : PySem.W.keepIn K (.ref f1) = true)
    {f2 : Addr} {od2 an2 : Option Addr} {sl2 : Array (Option Value)} {oc2 kV2 dc2 pm2 cd2 ct2 : Value}
    (a2 : PySem.W.nsIn K mainGlobals "key_shift" = some (some (.ref f2))) (l2 : K.lookup f2 = some ⟨oc2, od2, .func (PySem.W.fnOf "key_shift" "key_shift" (defArgs s_key_shift) (defBody s_key_shift) (defScope s_key_shift) .none kV2 dc2 pm2 an2 cd2 ct2), sl2⟩) (c2 : PySem.W.codeIn K cd2 "key_shift" = true) (k2 : PySem.W.keepIn K (.ref f2) = true)
    {f3 : Addr} {od3 an3 : Option Addr} {sl3 : Array (Option Value)} {oc3 kV3 dc3 pm3 cd3 ct3 : Value}
    (a3 : PySem.W.nsIn K mainGlobals "sort_key" = some (some (.ref f3))) (l3 : K.lookup f3 = some ⟨oc3, od3, .func (PySem.W.fnOf "sort_key" "sort_key" (defArgs s_sort_key) (defBody s_sort_key) (defScope s_sort_key) .none kV3 dc3 pm3 an3 cd3 ct3), sl3⟩) (c3 : PySem.W.codeIn K cd3 "sort_key" = true) (k3 : PySem.W.keepIn K (.ref f3) = true)
    {f4 : Addr} {od4 an4 : Option Addr} {sl4 : Array (Option Value)} {oc4 kV4 dc4 pm4 cd4 ct4 : Value}
    (a4 : PySem.W.nsIn K mainGlobals "without_repeats" = some (some (.ref f4))) (l4 : K.lookup f4 = some ⟨oc4, od4, .func (PySem.W.fnOf "without_repeats" "without_repeats" (defArgs s_without_repeats) (defBody s_without_repeats) (defScope s_without_repeats) .none kV4 dc4 pm4 an4 cd4 ct4), sl4⟩) (c4 : PySem.W.codeIn K cd4 "without_repeats" = true) (k4 : PySem.W.keepIn K (.ref f4) = true)
    {f5 : Addr} {od5 an5 : Option Addr} {sl5 : Array (Option Value)} {oc5 kV5 dc5 pm5 cd5 ct5 : Value}
    (a5 : PySem.W.nsIn K mainGlobals "compare_points" = some (some (.ref f5))) (l5 : K.lookup f5 = some ⟨oc5, od5, .func (PySem.W.fnOf "compare_points" "compare_points" (defArgs s_compare_points) (defBody s_compare_points) (defScope s_compare_points) .none kV5 dc5 pm5 an5 cd5 ct5), sl5⟩) (c5 : PySem.W.codeIn K cd5 "compare_points" = true) (k5 : PySem.W.keepIn K (.ref f5) = true)
    {f6 : Addr} {od6 an6 : Option Addr} {sl6 : Array (Option Value)} {oc6 kV6 dc6 pm6 cd6 ct6 : Value}
    (a6 : PySem.W.nsIn K mainGlobals "sort_points" = some (some (.ref f6))) (l6 : K.lookup f6 = some ⟨oc6, od6, .func (PySem.W.fnOf "sort_points" "sort_points" (defArgs s_sort_points) (defBody s_sort_points) (defScope s_sort_points) .none kV6 dc6 pm6 an6 cd6 ct6), sl6⟩) (c6 : PySem.W.codeIn K cd6 "sort_points" = true) (k6 : PySem.W.keepIn K (.ref f6) = true)
    {f7 : Addr} {od7 an7 : Option Addr} {sl7 : Array (Option Value)} {oc7 kV7 dc7 pm7 cd7 ct7 : Value}
    (a7 : PySem.W.nsIn K mainGlobals "_law_mix" = some (some (.ref f7))) (l7 : K.lookup f7 = some ⟨oc7, od7, .func (PySem.W.fnOf "_law_mix" "_law_mix" (defArgs s__law_mix) (defBody s__law_mix) (defScope s__law_mix) .none kV7 dc7 pm7 an7 cd7 ct7), sl7⟩) (c7 : PySem.W.codeIn K cd7 "_law_mix" = true) (k7 : PySem.W.keepIn K (.ref f7) = true)
    {f8 : Addr} {od8 an8 : Option Addr} {sl8 : Array (Option Value)} {oc8 kV8 dc8 pm8 cd8 ct8 : Value}
    (a8 : PySem.W.nsIn K mainGlobals "_law_store" = some (some (.ref f8))) (l8 : K.lookup f8 = some ⟨oc8, od8, .func (PySem.W.fnOf "_law_store" "_law_store" (defArgs s__law_store) (defBody s__law_store) (defScope s__law_store) .none kV8 dc8 pm8 an8 cd8 ct8), sl8⟩) (c8 : PySem.W.codeIn K cd8 "_law_store" = true) (k8 : PySem.W.keepIn K (.ref f8) = true)
    {f9 : Addr} {od9 an9 : Option Addr} {sl9 : Array (Option Value)} {oc9 kV9 dc9 pm9 cd9 ct9 : Value}
    (a9 : PySem.W.nsIn K mainGlobals "_law_take" = some (some (.ref f9))) (l9 : K.lookup f9 = some ⟨oc9, od9, .func (PySem.W.fnOf "_law_take" "_law_take" (defArgs s__law_take) (defBody s__law_take) (defScope s__law_take) .none kV9 dc9 pm9 an9 cd9 ct9), sl9⟩) (c9 : PySem.W.codeIn K cd9 "_law_take" = true) (k9 : PySem.W.keepIn K (.ref f9) = true)
    {f10 : Addr} {od10 an10 : Option Addr} {sl10 : Array (Option Value)} {oc10 kV10 dc10 pm10 cd10 ct10 : Value}
    (a10 : PySem.W.nsIn K mainGlobals "_law_pick" = some (some (.ref f10))) (l10 : K.lookup f10 = some ⟨oc10, od10, .func (PySem.W.fnOf "_law_pick" "_law_pick" (defArgs s__law_pick) (defBody s__law_pick) (defScope s__law_pick) .none kV10 dc10 pm10 an10 cd10 ct10), sl10⟩) (c10 : PySem.W.codeIn K cd10 "_law_pick" = true) (k10 : PySem.W.keepIn K (.ref f10) = true)
    {f11 : Addr} {od11 an11 : Option Addr} {sl11 : Array (Option Value)} {oc11 kV11 dc11 pm11 cd11 ct11 : Value}
    (a11 : PySem.W.nsIn K mainGlobals "_law_few" = some (some (.ref f11))) (l11 : K.lookup f11 = some ⟨oc11, od11, .func (PySem.W.fnOf "_law_few" "_law_few" (defArgs s__law_few) (defBody s__law_few) (defScope s__law_few) .none kV11 dc11 pm11 an11 cd11 ct11), sl11⟩) (c11 : PySem.W.codeIn K cd11 "_law_few" = true) (k11 : PySem.W.keepIn K (.ref f11) = true)
    {f12 : Addr} {od12 an12 : Option Addr} {sl12 : Array (Option Value)} {oc12 kV12 dc12 pm12 cd12 ct12 : Value}
    (a12 : PySem.W.nsIn K mainGlobals "_law_wide" = some (some (.ref f12))) (l12 : K.lookup f12 = some ⟨oc12, od12, .func (PySem.W.fnOf "_law_wide" "_law_wide" (defArgs s__law_wide) (defBody s__law_wide) (defScope s__law_wide) .none kV12 dc12 pm12 an12 cd12 ct12), sl12⟩) (c12 : PySem.W.codeIn K cd12 "_law_wide" = true) (k12 : PySem.W.keepIn K (.ref f12) = true)
    {f13 : Addr} {od13 an13 : Option Addr} {sl13 : Array (Option Value)} {oc13 kV13 dc13 pm13 cd13 ct13 : Value}
    (a13 : PySem.W.nsIn K mainGlobals "_law_integer" = some (some (.ref f13))) (l13 : K.lookup f13 = some ⟨oc13, od13, .func (PySem.W.fnOf "_law_integer" "_law_integer" (defArgs s__law_integer) (defBody s__law_integer) (defScope s__law_integer) .none kV13 dc13 pm13 an13 cd13 ct13), sl13⟩) (c13 : PySem.W.codeIn K cd13 "_law_integer" = true) (k13 : PySem.W.keepIn K (.ref f13) = true)
    {f14 : Addr} {od14 an14 : Option Addr} {sl14 : Array (Option Value)} {oc14 kV14 dc14 pm14 cd14 ct14 : Value}
    (a14 : PySem.W.nsIn K mainGlobals "_law_gcd" = some (some (.ref f14))) (l14 : K.lookup f14 = some ⟨oc14, od14, .func (PySem.W.fnOf "_law_gcd" "_law_gcd" (defArgs s__law_gcd) (defBody s__law_gcd) (defScope s__law_gcd) .none kV14 dc14 pm14 an14 cd14 ct14), sl14⟩) (c14 : PySem.W.codeIn K cd14 "_law_gcd" = true) (k14 : PySem.W.keepIn K (.ref f14) = true)
    {f15 : Addr} {od15 an15 : Option Addr} {sl15 : Array (Option Value)} {oc15 kV15 dc15 pm15 cd15 ct15 : Value}
    (a15 : PySem.W.nsIn K mainGlobals "_law_frac" = some (some (.ref f15))) (l15 : K.lookup f15 = some ⟨oc15, od15, .func (PySem.W.fnOf "_law_frac" "_law_frac" (defArgs s__law_frac) (defBody s__law_frac) (defScope s__law_frac) .none kV15 dc15 pm15 an15 cd15 ct15), sl15⟩) (c15 : PySem.W.codeIn K cd15 "_law_frac" = true) (k15 : PySem.W.keepIn K (.ref f15) = true)
    {f16 : Addr} {od16 an16 : Option Addr} {sl16 : Array (Option Value)} {oc16 kV16 dc16 pm16 cd16 ct16 : Value}
    (a16 : PySem.W.nsIn K mainGlobals "_law_ratio" = some (some (.ref f16))) (l16 : K.lookup f16 = some ⟨oc16, od16, .func (PySem.W.fnOf "_law_ratio" "_law_ratio" (defArgs s__law_ratio) (defBody s__law_ratio) (defScope s__law_ratio) .none kV16 dc16 pm16 an16 cd16 ct16), sl16⟩) (c16 : PySem.W.codeIn K cd16 "_law_ratio" = true) (k16 : PySem.W.keepIn K (.ref f16) = true)
    {f17 : Addr} {od17 an17 : Option Addr} {sl17 : Array (Option Value)} {oc17 kV17 dc17 pm17 cd17 ct17 : Value}
    (a17 : PySem.W.nsIn K mainGlobals "_law_wide_ratio" = some (some (.ref f17))) (l17 : K.lookup f17 = some ⟨oc17, od17, .func (PySem.W.fnOf "_law_wide_ratio" "_law_wide_ratio" (defArgs s__law_wide_ratio) (defBody s__law_wide_ratio) (defScope s__law_wide_ratio) .none kV17 dc17 pm17 an17 cd17 ct17), sl17⟩) (c17 : PySem.W.codeIn K cd17 "_law_wide_ratio" = true) (k17 : PySem.W.keepIn K (.ref f17) = true)
    {f18 : Addr} {od18 an18 : Option Addr} {sl18 : Array (Option Value)} {oc18 kV18 dc18 pm18 cd18 ct18 : Value}
    (a18 : PySem.W.nsIn K mainGlobals "_law_close" = some (some (.ref f18))) (l18 : K.lookup f18 = some ⟨oc18, od18, .func (PySem.W.fnOf "_law_close" "_law_close" (defArgs s__law_close) (defBody s__law_close) (defScope s__law_close) .none kV18 dc18 pm18 an18 cd18 ct18), sl18⟩) (c18 : PySem.W.codeIn K cd18 "_law_close" = true) (k18 : PySem.W.keepIn K (.ref f18) = true)
    {f19 : Addr} {od19 an19 : Option Addr} {sl19 : Array (Option Value)} {oc19 kV19 dc19 pm19 cd19 ct19 : Value}
    (a19 : PySem.W.nsIn K mainGlobals "_law_is_integer" = some (some (.ref f19))) (l19 : K.lookup f19 = some ⟨oc19, od19, .func (PySem.W.fnOf "_law_is_integer" "_law_is_integer" (defArgs s__law_is_integer) (defBody s__law_is_integer) (defScope s__law_is_integer) .none kV19 dc19 pm19 an19 cd19 ct19), sl19⟩) (c19 : PySem.W.codeIn K cd19 "_law_is_integer" = true) (k19 : PySem.W.keepIn K (.ref f19) = true)
    {f20 : Addr} {od20 an20 : Option Addr} {sl20 : Array (Option Value)} {oc20 kV20 dc20 pm20 cd20 ct20 : Value}
    (a20 : PySem.W.nsIn K mainGlobals "_law_point" = some (some (.ref f20))) (l20 : K.lookup f20 = some ⟨oc20, od20, .func (PySem.W.fnOf "_law_point" "_law_point" (defArgs s__law_point) (defBody s__law_point) (defScope s__law_point) .none kV20 dc20 pm20 an20 cd20 ct20), sl20⟩) (c20 : PySem.W.codeIn K cd20 "_law_point" = true) (k20 : PySem.W.keepIn K (.ref f20) = true)
    {f21 : Addr} {od21 an21 : Option Addr} {sl21 : Array (Option Value)} {oc21 kV21 dc21 pm21 cd21 ct21 : Value}
    (a21 : PySem.W.nsIn K mainGlobals "_law_wide_point" = some (some (.ref f21))) (l21 : K.lookup f21 = some ⟨oc21, od21, .func (PySem.W.fnOf "_law_wide_point" "_law_wide_point" (defArgs s__law_wide_point) (defBody s__law_wide_point) (defScope s__law_wide_point) .none kV21 dc21 pm21 an21 cd21 ct21), sl21⟩) (c21 : PySem.W.codeIn K cd21 "_law_wide_point" = true) (k21 : PySem.W.keepIn K (.ref f21) = true)
    {f22 : Addr} {od22 an22 : Option Addr} {sl22 : Array (Option Value)} {oc22 kV22 dc22 pm22 cd22 ct22 : Value}
    (a22 : PySem.W.nsIn K mainGlobals "_law_is_ratio" = some (some (.ref f22))) (l22 : K.lookup f22 = some ⟨oc22, od22, .func (PySem.W.fnOf "_law_is_ratio" "_law_is_ratio" (defArgs s__law_is_ratio) (defBody s__law_is_ratio) (defScope s__law_is_ratio) .none kV22 dc22 pm22 an22 cd22 ct22), sl22⟩) (c22 : PySem.W.codeIn K cd22 "_law_is_ratio" = true) (k22 : PySem.W.keepIn K (.ref f22) = true)
    {f23 : Addr} {od23 an23 : Option Addr} {sl23 : Array (Option Value)} {oc23 kV23 dc23 pm23 cd23 ct23 : Value}
    (a23 : PySem.W.nsIn K mainGlobals "_law_is_vector" = some (some (.ref f23))) (l23 : K.lookup f23 = some ⟨oc23, od23, .func (PySem.W.fnOf "_law_is_vector" "_law_is_vector" (defArgs s__law_is_vector) (defBody s__law_is_vector) (defScope s__law_is_vector) .none kV23 dc23 pm23 an23 cd23 ct23), sl23⟩) (c23 : PySem.W.codeIn K cd23 "_law_is_vector" = true) (k23 : PySem.W.keepIn K (.ref f23) = true)
    {f24 : Addr} {od24 an24 : Option Addr} {sl24 : Array (Option Value)} {oc24 kV24 dc24 pm24 cd24 ct24 : Value}
    (a24 : PySem.W.nsIn K mainGlobals "_law_menu" = some (some (.ref f24))) (l24 : K.lookup f24 = some ⟨oc24, od24, .func (PySem.W.fnOf "_law_menu" "_law_menu" (defArgs s__law_menu) (defBody s__law_menu) (defScope s__law_menu) .none kV24 dc24 pm24 an24 cd24 ct24), sl24⟩) (c24 : PySem.W.codeIn K cd24 "_law_menu" = true) (k24 : PySem.W.keepIn K (.ref f24) = true)
    {f25 : Addr} {od25 an25 : Option Addr} {sl25 : Array (Option Value)} {oc25 kV25 dc25 pm25 cd25 ct25 : Value}
    (a25 : PySem.W.nsIn K mainGlobals "_law_listed" = some (some (.ref f25))) (l25 : K.lookup f25 = some ⟨oc25, od25, .func (PySem.W.fnOf "_law_listed" "_law_listed" (defArgs s__law_listed) (defBody s__law_listed) (defScope s__law_listed) .none kV25 dc25 pm25 an25 cd25 ct25), sl25⟩) (c25 : PySem.W.codeIn K cd25 "_law_listed" = true) (k25 : PySem.W.keepIn K (.ref f25) = true)
    {f26 : Addr} {od26 an26 : Option Addr} {sl26 : Array (Option Value)} {oc26 kV26 dc26 pm26 cd26 ct26 : Value}
    (a26 : PySem.W.nsIn K mainGlobals "_law_lies" = some (some (.ref f26))) (l26 : K.lookup f26 = some ⟨oc26, od26, .func (PySem.W.fnOf "_law_lies" "_law_lies" (defArgs s__law_lies) (defBody s__law_lies) (defScope s__law_lies) .none kV26 dc26 pm26 an26 cd26 ct26), sl26⟩) (c26 : PySem.W.codeIn K cd26 "_law_lies" = true) (k26 : PySem.W.keepIn K (.ref f26) = true)
    {f27 : Addr} {od27 an27 : Option Addr} {sl27 : Array (Option Value)} {oc27 kV27 dc27 pm27 cd27 ct27 : Value}
    (a27 : PySem.W.nsIn K mainGlobals "_law_sorted" = some (some (.ref f27))) (l27 : K.lookup f27 = some ⟨oc27, od27, .func (PySem.W.fnOf "_law_sorted" "_law_sorted" (defArgs s__law_sorted) (defBody s__law_sorted) (defScope s__law_sorted) .none kV27 dc27 pm27 an27 cd27 ct27), sl27⟩) (c27 : PySem.W.codeIn K cd27 "_law_sorted" = true) (k27 : PySem.W.keepIn K (.ref f27) = true)
    {f28 : Addr} {od28 an28 : Option Addr} {sl28 : Array (Option Value)} {oc28 kV28 dc28 pm28 cd28 ct28 : Value}
    (a28 : PySem.W.nsIn K mainGlobals "_law_again" = some (some (.ref f28))) (l28 : K.lookup f28 = some ⟨oc28, od28, .func (PySem.W.fnOf "_law_again" "_law_again" (defArgs s__law_again) (defBody s__law_again) (defScope s__law_again) .none kV28 dc28 pm28 an28 cd28 ct28), sl28⟩) (c28 : PySem.W.codeIn K cd28 "_law_again" = true) (k28 : PySem.W.keepIn K (.ref f28) = true)
    {f29 : Addr} {od29 an29 : Option Addr} {sl29 : Array (Option Value)} {oc29 kV29 dc29 pm29 cd29 ct29 : Value}
    (a29 : PySem.W.nsIn K mainGlobals "law" = some (some (.ref f29))) (l29 : K.lookup f29 = some ⟨oc29, od29, .func (PySem.W.fnOf "law" "law" (defArgs s_law) (defBody s_law) (defScope s_law) .none kV29 dc29 pm29 an29 cd29 ct29), sl29⟩) (c29 : PySem.W.codeIn K cd29 "law" = true) (k29 : PySem.W.keepIn K (.ref f29) = true)
    (z_len : PySem.W.nsIn K mainGlobals "len" = some none)
    (z_int : PySem.W.nsIn K mainGlobals "int" = some none)
    (z_abs : PySem.W.nsIn K mainGlobals "abs" = some none)
    (z_max : PySem.W.nsIn K mainGlobals "max" = some none)
    (z_min : PySem.W.nsIn K mainGlobals "min" = some none)
    (z_range : PySem.W.nsIn K mainGlobals "range" = some none)
    (z_isinstance : PySem.W.nsIn K mainGlobals "isinstance" = some none)
    (z_list : PySem.W.nsIn K mainGlobals "list" = some none)
    (z_tuple : PySem.W.nsIn K mainGlobals "tuple" = some none)
    (z_bool : PySem.W.nsIn K mainGlobals "bool" = some none)
    (z_str : PySem.W.nsIn K mainGlobals "str" = some none)
    (z_zip : PySem.W.nsIn K mainGlobals "zip" = some none)
    (z_enumerate : PySem.W.nsIn K mainGlobals "enumerate" = some none)
    (z_sum : PySem.W.nsIn K mainGlobals "sum" = some none)
    (z_sorted : PySem.W.nsIn K mainGlobals "sorted" = some none)
    (cdI6 : cd6 = .ref (codeOf K "sort_points"))
    : ∃ fd : FuncData, (∀ (s : Shared) (v : Value), BindsTo s fd ⟨[v], []⟩ [("script", v)]) ∧ ∀ base : Heap, K.In base → base.Ns mainGlobals mg → LamX.TabB base mg (codeOf K "sort_points") (tabOf K "sort_points") → FnOk l.prog w K mg base CX0 9 fa fd ["script"] (sp_law K) := by
  have e := hfa.symm.trans (PySem.W.mg_of X G a29)
  cases e
  have T : BltN mg := ⟨PySem.W.mg_none_of X G z_len, PySem.W.mg_none_of X G z_int, PySem.W.mg_none_of X G z_abs, PySem.W.mg_none_of X G z_max, PySem.W.mg_none_of X G z_min, PySem.W.mg_none_of X G z_range, PySem.W.mg_none_of X G z_isinstance, PySem.W.mg_none_of X G z_list, PySem.W.mg_none_of X G z_tuple, PySem.W.mg_none_of X G z_bool, PySem.W.mg_none_of X G z_str, PySem.W.mg_none_of X G z_zip, PySem.W.mg_none_of X G z_enumerate, PySem.W.mg_none_of X G z_sum⟩
  refine ⟨PySem.W.fnOf "law" "law" (defArgs s_law) (defBody s_law) (defScope s_law) .none kV29 dc29 pm29 an29 cd29 ct29, fun s v => .of_eq rfl, fun base _ _ tb6 => ?_⟩
  have TB_enumerate := PySem.W.mg_none_of X G z_enumerate
  have TB_sorted := PySem.W.mg_none_of X G z_sorted
  have C_integer_sign : Cal l.prog w K mg base "integer_sign" 1 ["number"] (sp_integer_sign K) := ⟨⟨f0, _, ok_integer_sign (funA_mk l0 c0) T, PySem.W.mg_of X G a0, k0, .all fun us hl => match us, hl with | [_], _ => rfl⟩⟩
  have C_key_shift : Cal l.prog w K mg base "key_shift" 1 ["values"] (sp_key_shift K) := ⟨⟨f2, _, ok_key_shift (funA_mk l2 c2) T, PySem.W.mg_of X G a2, k2, .all fun us hl => match us, hl with | [_], _ => rfl⟩⟩
  have C_sort_key : Cal l.prog w K mg base "sort_key" 1 ["x", "shift"] (sp_sort_key K) := ⟨⟨f3, _, ok_sort_key (funA_mk l3 c3) T, PySem.W.mg_of X G a3, k3, .all fun us hl => match us, hl with | [_, _], _ => rfl⟩⟩
  have C_without_repeats : Cal l.prog w K mg base "without_repeats" 1 ["ordered"] (sp_without_repeats K) := ⟨⟨f4, _, ok_without_repeats (funA_mk l4 c4) T TB_enumerate, PySem.W.mg_of X G a4, k4, .all fun us hl => match us, hl with | [_], _ => rfl⟩⟩
  have C__law_mix : Cal l.prog w K mg base "_law_mix" 1 ["one", "two"] (sp__law_mix K) := ⟨⟨f7, _, ok__law_mix (funA_mk l7 c7) T, PySem.W.mg_of X G a7, k7, .all fun us hl => match us, hl with | [_, _], _ => rfl⟩⟩
  have C__law_gcd : Cal l.prog w K mg base "_law_gcd" 1 ["one", "two"] (sp__law_gcd K) := ⟨⟨f14, _, ok__law_gcd (funA_mk l14 c14) T, PySem.W.mg_of X G a14, k14, .all fun us hl => match us, hl with | [_, _], _ => rfl⟩⟩
  have C__law_is_integer : Cal l.prog w K mg base "_law_is_integer" 1 ["value"] (sp__law_is_integer K) := ⟨⟨f19, _, ok__law_is_integer (funA_mk l19 c19) T, PySem.W.mg_of X G a19, k19, .all fun us hl => match us, hl with | [_], _ => rfl⟩⟩
  have C__law_lies : Cal l.prog w K mg base "_law_lies" 1 ["one", "two"] (sp__law_lies K) := ⟨⟨f26, _, ok__law_lies (funA_mk l26 c26) T, PySem.W.mg_of X G a26, k26, .all fun us hl => match us, hl with | [_, _], _ => rfl⟩⟩
  have C_compare : Cal l.prog w K mg base "compare" 2 ["x", "y"] (sp_compare K) := ⟨⟨f1, _, ok_compare (funA_mk l1 c1) T C_integer_sign, PySem.W.mg_of X G a1, k1, .all fun us hl => match us, hl with | [_, _], _ => rfl⟩⟩
  have C__law_store : Cal l.prog w K mg base "_law_store" 2 ["script"] (sp__law_store K) := ⟨⟨f8, _, ok__law_store (funA_mk l8 c8) T C__law_mix, PySem.W.mg_of X G a8, k8, .all fun us hl => match us, hl with | [_], _ => rfl⟩⟩
  have C__law_take : Cal l.prog w K mg base "_law_take" 2 ["store", "many"] (sp__law_take K) := ⟨⟨f9, _, ok__law_take (funA_mk l9 c9) T C__law_mix, PySem.W.mg_of X G a9, k9, .all fun us hl => match us, hl with | [_, _], _ => rfl⟩⟩
  have C__law_frac : Cal l.prog w K mg base "_law_frac" 2 ["top", "bottom"] (sp__law_frac K) := ⟨⟨f15, _, ok__law_frac (funA_mk l15 c15) T C__law_gcd, PySem.W.mg_of X G a15, k15, .all fun us hl => match us, hl with | [_, _], _ => rfl⟩⟩
  have C__law_is_ratio : Cal l.prog w K mg base "_law_is_ratio" 2 ["value"] (sp__law_is_ratio K) := ⟨⟨f22, _, ok__law_is_ratio (funA_mk l22 c22) T C__law_is_integer C__law_gcd, PySem.W.mg_of X G a22, k22, .all fun us hl => match us, hl with | [_], _ => rfl⟩⟩
  have C_compare_points : Cal l.prog w K mg base "compare_points" 3 ["p", "q"] (sp_compare_points K) := ⟨⟨f5, _, ok_compare_points (funA_mk l5 c5) T C_compare, PySem.W.mg_of X G a5, k5, .all fun us hl => match us, hl with | [_, _], _ => rfl⟩⟩
  have KC_compare_points_0_q_p : KCal l.prog w K mg base "compare_points" 3 ["p", "q"] (sp_compare_points K) 0 ["q", "p"] (pkV [1, 0] []) := ⟨⟨f5, _, ok_compare_points (funA_mk l5 c5) T C_compare, PySem.W.mg_of X G a5, k5, pkU [1, 0] [], fun s us ws _ l1 l2 => match us, ws, l1, l2 with | [], [_, _], _, _ => .of_eq rfl, fun r1 r2 => pk_rel .nil r1 r2 _⟩⟩
  have C__law_pick : Cal l.prog w K mg base "_law_pick" 3 ["store", "items"] (sp__law_pick K) := ⟨⟨f10, _, ok__law_pick (funA_mk l10 c10) T C__law_take, PySem.W.mg_of X G a10, k10, .all fun us hl => match us, hl with | [_, _], _ => rfl⟩⟩
  have C__law_few : Cal l.prog w K mg base "_law_few" 3 ["store", "most"] (sp__law_few K) := ⟨⟨f11, _, ok__law_few (funA_mk l11 c11) T C__law_take, PySem.W.mg_of X G a11, k11, .all fun us hl => match us, hl with | [_, _], _ => rfl⟩⟩
  have C__law_wide : Cal l.prog w K mg base "_law_wide" 3 ["store", "many"] (sp__law_wide K) := ⟨⟨f12, _, ok__law_wide (funA_mk l12 c12) T C__law_take, PySem.W.mg_of X G a12, k12, .all fun us hl => match us, hl with | [_, _], _ => rfl⟩⟩
  have C__law_ratio : Cal l.prog w K mg base "_law_ratio" 3 ["store"] (sp__law_ratio K) := ⟨⟨f16, _, ok__law_ratio (funA_mk l16 c16) T C__law_take C__law_frac, PySem.W.mg_of X G a16, k16, .all fun us hl => match us, hl with | [_], _ => rfl⟩⟩
  have C__law_close : Cal l.prog w K mg base "_law_close" 3 ["store", "x"] (sp__law_close K) := ⟨⟨f18, _, ok__law_close (funA_mk l18 c18) T C__law_frac C__law_take, PySem.W.mg_of X G a18, k18, .all fun us hl => match us, hl with | [_, _], _ => rfl⟩⟩
  have C__law_is_vector : Cal l.prog w K mg base "_law_is_vector" 3 ["value"] (sp__law_is_vector K) := ⟨⟨f23, _, ok__law_is_vector (funA_mk l23 c23) T C__law_is_ratio, PySem.W.mg_of X G a23, k23, .all fun us hl => match us, hl with | [_], _ => rfl⟩⟩
  have C__law_integer : Cal l.prog w K mg base "_law_integer" 4 ["store"] (sp__law_integer K) := ⟨⟨f13, _, ok__law_integer (funA_mk l13 c13) T C__law_take C__law_wide, PySem.W.mg_of X G a13, k13, .all fun us hl => match us, hl with | [_], _ => rfl⟩⟩
  have C__law_point : Cal l.prog w K mg base "_law_point" 4 ["store"] (sp__law_point K) := ⟨⟨f20, _, ok__law_point (funA_mk l20 c20) T C__law_take C__law_ratio, PySem.W.mg_of X G a20, k20, .all fun us hl => match us, hl with | [_], _ => rfl⟩⟩
  have C__law_sorted : Cal l.prog w K mg base "_law_sorted" 4 ["actual", "items"] (sp__law_sorted K) := ⟨⟨f27, _, ok__law_sorted (funA_mk l27 c27) T C__law_is_vector C__law_lies, PySem.W.mg_of X G a27, k27, .all fun us hl => match us, hl with | [_, _], _ => rfl⟩⟩
  have C__law_wide_ratio : Cal l.prog w K mg base "_law_wide_ratio" 5 ["store"] (sp__law_wide_ratio K) := ⟨⟨f17, _, ok__law_wide_ratio (funA_mk l17 c17) T C__law_integer C__law_frac C__law_take C__law_ratio, PySem.W.mg_of X G a17, k17, .all fun us hl => match us, hl with | [_], _ => rfl⟩⟩
  have C__law_wide_point : Cal l.prog w K mg base "_law_wide_point" 6 ["store"] (sp__law_wide_point K) := ⟨⟨f21, _, ok__law_wide_point (funA_mk l21 c21) T C__law_wide_ratio C__law_take C__law_point, PySem.W.mg_of X G a21, k21, .all fun us hl => match us, hl with | [_], _ => rfl⟩⟩
  have C__law_menu : Cal l.prog w K mg base "_law_menu" 6 ["store"] (sp__law_menu K) := ⟨⟨f24, _, ok__law_menu (funA_mk l24 c24) T C__law_take C__law_ratio C__law_close C__law_wide_ratio, PySem.W.mg_of X G a24, k24, .all fun us hl => match us, hl with | [_], _ => rfl⟩⟩
  have C_sort_points : Cal l.prog w K mg base "sort_points" 7 ["points"] (sp_sort_points K) := ⟨⟨f6, _, ok_sort_points (funC_mk l6 c6 cdI6) T tb6 C_key_shift C_without_repeats C_sort_key TB_sorted, PySem.W.mg_of X G a6, k6, .all fun us hl => match us, hl with | [_], _ => rfl⟩⟩
  have KC_sort_points_0_points : KCal l.prog w K mg base "sort_points" 7 ["points"] (sp_sort_points K) 0 ["points"] (pkV [0] []) := ⟨⟨f6, _, ok_sort_points (funC_mk l6 c6 cdI6) T tb6 C_key_shift C_without_repeats C_sort_key TB_sorted, PySem.W.mg_of X G a6, k6, pkU [0] [], fun s us ws _ l1 l2 => match us, ws, l1, l2 with | [], [_], _, _ => .of_eq rfl, fun r1 r2 => pk_rel .nil r1 r2 _⟩⟩
  have C__law_listed : Cal l.prog w K mg base "_law_listed" 7 ["store", "menu", "many"] (sp__law_listed K) := ⟨⟨f25, _, ok__law_listed (funA_mk l25 c25) T C__law_take C__law_pick C__law_wide_point, PySem.W.mg_of X G a25, k25, .all fun us hl => match us, hl with | [_, _, _], _ => rfl⟩⟩
  have C__law_again : Cal l.prog w K mg base "_law_again" 8 ["store", "items", "more"] (sp__law_again K) := ⟨⟨f28, _, ok__law_again (funA_mk l28 c28) T C_sort_points C__law_sorted C__law_take KC_sort_points_0_points, PySem.W.mg_of X G a28, k28, .all fun us hl => match us, hl with | [_, _, _], _ => rfl⟩⟩
  exact ok_law (funA_mk l29 c29) T C__law_store C__law_menu C__law_listed C__law_few C__law_again C__law_take C__law_pick C_compare_points C__law_lies C__law_is_integer KC_compare_points_0_q_p
in #guard_msgs in universe u_z
set_option Elab.async true in
set_option maxHeartbeats 0 in
theorem all_tab {l : PySem.W.OpenLaw} {w : World} {K : PySem.W.Frag} {h : Heap} {mg : Str → Option Value} {fa : Addr} (X : K.In h) (G : h.Ns mainGlobals mg) (hfa : mg "law" = some (.ref fa))
    {f0 : Addr} {od0 an0 : Option Addr} {sl0 : Array (Option Value)} {oc0 kV0 dc0 pm0 cd0 ct0 : Value}
    (a0 : PySem.W.nsIn K mainGlobals "integer_sign" = some (some (.ref f0))) (l0 : K.lookup f0 = some ⟨oc0, od0, .func (PySem.W.fnOf "integer_sign" "integer_sign" (defArgs s_integer_sign) (defBody s_integer_sign) (defScope s_integer_sign) .none kV0 dc0 pm0 an0 cd0 ct0), sl0⟩) (c0 : PySem.W.codeIn K cd0 "integer_sign" = true) (k0 : PySem.W.keepIn K (.ref f0) = true)
    {f1 : Addr} {od1 an1 : Option Addr} {sl1 : Array (Option Value)} {oc1 kV1 dc1 pm1 cd1 ct1 : Value}
    (a1 : PySem.W.nsIn K mainGlobals "compare" = some (some (.ref f1))) (l1 : K.lookup f1 = some ⟨oc1, od1, .func (PySem.W.fnOf "compare" "compare" (defArgs s_compare) (defBody s_compare) (defScope s_compare) .none kV1 dc1 pm1 an1 cd1 ct1), sl1⟩) (c1 : PySem.W.codeIn K cd1 "compare" = true) (k1 : PySem.W.keepIn K (.ref f1) = true)
    {f2 : Addr} {od2 an2 : Option Addr} {sl2 : Array (Option Value)} {oc2 kV2 dc2 pm2 cd2 ct2 : Value}
    (a2 : PySem.W.nsIn K mainGlobals "key_shift" = some (some (.ref f2))) (l2 : K.lookup f2 = some ⟨oc2, od2, .func (PySem.W.fnOf "key_shift" "key_shift" (defArgs s_key_shift) (defBody s_key_shift) (defScope s_key_shift) .none kV2 dc2 pm2 an2 cd2 ct2), sl2⟩) (c2 : PySem.W.codeIn K cd2 "key_shift" = true) (k2 : PySem.W.keepIn K (.ref f2) = true)
    {f3 : Addr} {od3 an3 : Option Addr} {sl3 : Array (Option Value)} {oc3 kV3 dc3 pm3 cd3 ct3 : Value}
    (a3 : PySem.W.nsIn K mainGlobals "sort_key" = some (some (.ref f3))) (l3 : K.lookup f3 = some ⟨oc3, od3, .func (PySem.W.fnOf "sort_key" "sort_key" (defArgs s_sort_key) (defBody s_sort_key) (defScope s_sort_key) .none kV3 dc3 pm3 an3 cd3 ct3), sl3⟩) (c3 : PySem.W.codeIn K cd3 "sort_key" = true) (k3 : PySem.W.keepIn K (.ref f3) = true)
    {f4 : Addr} {od4 an4 : Option Addr} {sl4 : Array (Option Value)} {oc4 kV4 dc4 pm4 cd4 ct4 : Value}
    (a4 : PySem.W.nsIn K mainGlobals "without_repeats" = some (some (.ref f4))) (l4 : K.lookup f4 = some ⟨oc4, od4, .func (PySem.W.fnOf "without_repeats" "without_repeats" (defArgs s_without_repeats) (defBody s_without_repeats) (defScope s_without_repeats) .none kV4 dc4 pm4 an4 cd4 ct4), sl4⟩) (c4 : PySem.W.codeIn K cd4 "without_repeats" = true) (k4 : PySem.W.keepIn K (.ref f4) = true)
    {f5 : Addr} {od5 an5 : Option Addr} {sl5 : Array (Option Value)} {oc5 kV5 dc5 pm5 cd5 ct5 : Value}
    (a5 : PySem.W.nsIn K mainGlobals "compare_points" = some (some (.ref f5))) (l5 : K.lookup f5 = some ⟨oc5, od5, .func (PySem.W.fnOf "compare_points" "compare_points" (defArgs s_compare_points) (defBody s_compare_points) (defScope s_compare_points) .none kV5 dc5 pm5 an5 cd5 ct5), sl5⟩) (c5 : PySem.W.codeIn K cd5 "compare_points" = true) (k5 : PySem.W.keepIn K (.ref f5) = true)
    {f6 : Addr} {od6 an6 : Option Addr} {sl6 : Array (Option Value)} {oc6 kV6 dc6 pm6 cd6 ct6 : Value}
    (a6 : PySem.W.nsIn K mainGlobals "sort_points" = some (some (.ref f6))) (l6 : K.lookup f6 = some ⟨oc6, od6, .func (PySem.W.fnOf "sort_points" "sort_points" (defArgs s_sort_points) (defBody s_sort_points) (defScope s_sort_points) .none kV6 dc6 pm6 an6 cd6 ct6), sl6⟩) (c6 : PySem.W.codeIn K cd6 "sort_points" = true) (k6 : PySem.W.keepIn K (.ref f6) = true)
    {f7 : Addr} {od7 an7 : Option Addr} {sl7 : Array (Option Value)} {oc7 kV7 dc7 pm7 cd7 ct7 : Value}
    (a7 : PySem.W.nsIn K mainGlobals "_law_mix" = some (some (.ref f7))) (l7 : K.lookup f7 = some ⟨oc7, od7, .func (PySem.W.fnOf "_law_mix" "_law_mix" (defArgs s__law_mix) (defBody s__law_mix) (defScope s__law_mix) .none kV7 dc7 pm7 an7 cd7 ct7), sl7⟩) (c7 : PySem.W.codeIn K cd7 "_law_mix" = true) (k7 : PySem.W.keepIn K (.ref f7) = true)
    {f8 : Addr} {od8 an8 : Option Addr} {sl8 : Array (Option Value)} {oc8 kV8 dc8 pm8 cd8 ct8 : Value}
    (a8 : PySem.W.nsIn K mainGlobals "_law_store" = some (some (.ref f8))) (l8 : K.lookup f8 = some ⟨oc8, od8, .func (PySem.W.fnOf "_law_store" "_law_store" (defArgs s__law_store) (defBody s__law_store) (defScope s__law_store) .none kV8 dc8 pm8 an8 cd8 ct8), sl8⟩) (c8 : PySem.W.codeIn K cd8 "_law_store" = true) (k8 : PySem.W.keepIn K (.ref f8) = true)
    {f9 : Addr} {od9 an9 : Option Addr} {sl9 : Array (Option Value)} {oc9 kV9 dc9 pm9 cd9 ct9 : Value}
    (a9 : PySem.W.nsIn K mainGlobals "_law_take" = some (some (.ref f9))) (l9 : K.lookup f9 = some ⟨oc9, od9, .func (PySem.W.fnOf "_law_take" "_law_take" (defArgs s__law_take) (defBody s__law_take) (defScope s__law_take) .none kV9 dc9 pm9 an9 cd9 ct9), sl9⟩) (c9 : PySem.W.codeIn K cd9 "_law_take" = true) (k9 : PySem.W.keepIn K (.ref f9) = true)
    {f10 : Addr} {od10 an10 : Option Addr} {sl10 : Array (Option Value)} {oc10 kV10 dc10 pm10 cd10 ct10 : Value}
    (a10 : PySem.W.nsIn K mainGlobals "_law_pick" = some (some (.ref f10))) (l10 : K.lookup f10 = some ⟨oc10, od10, .func (PySem.W.fnOf "_law_pick" "_law_pick" (defArgs s__law_pick) (defBody s__law_pick) (defScope s__law_pick) .none kV10 dc10 pm10 an10 cd10 ct10), sl10⟩) (c10 : PySem.W.codeIn K cd10 "_law_pick" = true) (k10 : PySem.W.keepIn K (.ref f10) = true)
    {f11 : Addr} {od11 an11 : Option Addr} {sl11 : Array (Option Value)} {oc11 kV11 dc11 pm11 cd11 ct11 : Value}
    (a11 : PySem.W.nsIn K mainGlobals "_law_few" = some (some (.ref f11))) (l11 : K.lookup f11 = some ⟨oc11, od11, .func (PySem.W.fnOf "_law_few" "_law_few" (defArgs s__law_few) (defBody s__law_few) (defScope s__law_few) .none kV11 dc11 pm11 an11 cd11 ct11), sl11⟩) (c11 : PySem.W.codeIn K cd11 "_law_few" = true) (k11 : PySem.W.keepIn K (.ref f11) = true)
    {f12 : Addr} {od12 an12 : Option Addr} {sl12 : Array (Option Value)} {oc12 kV12 dc12 pm12 cd12 ct12 : Value}
    (a12 : PySem.W.nsIn K mainGlobals "_law_wide" = some (some (.ref f12))) (l12 : K.lookup f12 = some ⟨oc12, od12, .func (PySem.W.fnOf "_law_wide" "_law_wide" (defArgs s__law_wide) (defBody s__law_wide) (defScope s__law_wide) .none kV12 dc12 pm12 an12 cd12 ct12), sl12⟩) (c12 : PySem.W.codeIn K cd12 "_law_wide" = true) (k12 : PySem.W.keepIn K (.ref f12) = true)
    {f13 : Addr} {od13 an13 : Option Addr} {sl13 : Array (Option Value)} {oc13 kV13 dc13 pm13 cd13 ct13 : Value}
    (a13 : PySem.W.nsIn K mainGlobals "_law_integer" = some (some (.ref f13))) (l13 : K.lookup f13 = some ⟨oc13, od13, .func (PySem.W.fnOf "_law_integer" "_law_integer" (defArgs s__law_integer) (defBody s__law_integer) (defScope s__law_integer) .none kV13 dc13 pm13 an13 cd13 ct13), sl13⟩) (c13 : PySem.W.codeIn K cd13 "_law_integer" = true) (k13 : PySem.W.keepIn K (.ref f13) = true)
    {f14 : Addr} {od14 an14 : Option Addr} {sl14 : Array (Option Value)} {oc14 kV14 dc14 pm14 cd14 ct14 : Value}
    (a14 : PySem.W.nsIn K mainGlobals "_law_gcd" = some (some (.ref f14))) (l14 : K.lookup f14 = some ⟨oc14, od14, .func (PySem.W.fnOf "_law_gcd" "_law_gcd" (defArgs s__law_gcd) (defBody s__law_gcd) (defScope s__law_gcd) .none kV14 dc14 pm14 an14 cd14 ct14), sl14⟩) (c14 : PySem.W.codeIn K cd14 "_law_gcd" = true) (k14 : PySem.W.keepIn K (.ref f14) = true)
    {f15 : Addr} {od15 an15 : Option Addr} {sl15 : Array (Option Value)} {oc15 kV15 dc15 pm15 cd15 ct15 : Value}
    (a15 : PySem.W.nsIn K mainGlobals "_law_frac" = some (some (.ref f15))) (l15 : K.lookup f15 = some ⟨oc15, od15, .func (PySem.W.fnOf "_law_frac" "_law_frac" (defArgs s__law_frac) (defBody s__law_frac) (defScope s__law_frac) .none kV15 dc15 pm15 an15 cd15 ct15), sl15⟩) (c15 : PySem.W.codeIn K cd15 "_law_frac" = true) (k15 : PySem.W.keepIn K (.ref f15) = true)
    {f16 : Addr} {od16 an16 : Option Addr} {sl16 : Array (Option Value)} {oc16 kV16 dc16 pm16 cd16 ct16 : Value}
    (a16 : PySem.W.nsIn K mainGlobals "_law_ratio" = some (some (.ref f16))) (l16 : K.lookup f16 = some ⟨oc16, od16, .func (PySem.W.fnOf "_law_ratio" "_law_ratio" (defArgs s__law_ratio) (defBody s__law_ratio) (defScope s__law_ratio) .none kV16 dc16 pm16 an16 cd16 ct16), sl16⟩) (c16 : PySem.W.codeIn K cd16 "_law_ratio" = true) (k16 : PySem.W.keepIn K (.ref f16) = true)
    {f17 : Addr} {od17 an17 : Option Addr} {sl17 : Array (Option Value)} {oc17 kV17 dc17 pm17 cd17 ct17 : Value}
    (a17 : PySem.W.nsIn K mainGlobals "_law_wide_ratio" = some (some (.ref f17))) (l17 : K.lookup f17 = some ⟨oc17, od17, .func (PySem.W.fnOf "_law_wide_ratio" "_law_wide_ratio" (defArgs s__law_wide_ratio) (defBody s__law_wide_ratio) (defScope s__law_wide_ratio) .none kV17 dc17 pm17 an17 cd17 ct17), sl17⟩) (c17 : PySem.W.codeIn K cd17 "_law_wide_ratio" = true) (k17 : PySem.W.keepIn K (.ref f17) = true)
    {f18 : Addr} {od18 an18 : Option Addr} {sl18 : Array (Option Value)} {oc18 kV18 dc18 pm18 cd18 ct18 : Value}
    (a18 : PySem.W.nsIn K mainGlobals "_law_close" = some (some (.ref f18))) (l18 : K.lookup f18 = some ⟨oc18, od18, .func (PySem.W.fnOf "_law_close" "_law_close" (defArgs s__law_close) (defBody s__law_close) (defScope s__law_close) .none kV18 dc18 pm18 an18 cd18 ct18), sl18⟩) (c18 : PySem.W.codeIn K cd18 "_law_close" = true) (k18 : PySem.W.keepIn K (.ref f18) = true)
    {f19 : Addr} {od19 an19 : Option Addr} {sl19 : Array (Option Value)} {oc19 kV19 dc19 pm19 cd19 ct19 : Value}
    (a19 : PySem.W.nsIn K mainGlobals "_law_is_integer" = some (some (.ref f19))) (l19 : K.lookup f19 = some ⟨oc19, od19, .func (PySem.W.fnOf "_law_is_integer" "_law_is_integer" (defArgs s__law_is_integer) (defBody s__law_is_integer) (defScope s__law_is_integer) .none kV19 dc19 pm19 an19 cd19 ct19), sl19⟩) (c19 : PySem.W.codeIn K cd19 "_law_is_integer" = true) (k19 : PySem.W.keepIn K (.ref f19) = true)
    {f20 : Addr} {od20 an20 : Option Addr} {sl20 : Array (Option Value)} {oc20 kV20 dc20 pm20 cd20 ct20 : Value}
    (a20 : PySem.W.nsIn K mainGlobals "_law_point" = some (some (.ref f20))) (l20 : K.lookup f20 = some ⟨oc20, od20, .func (PySem.W.fnOf "_law_point" "_law_point" (defArgs s__law_point) (defBody s__law_point) (defScope s__law_point) .none kV20 dc20 pm20 an20 cd20 ct20), sl20⟩) (c20 : PySem.W.codeIn K cd20 "_law_point" = true) (k20 : PySem.W.keepIn K (.ref f20) = true)
    {f21 : Addr} {od21 an21 : Option Addr} {sl21 : Array (Option Value)} {oc21 kV21 dc21 pm21 cd21 ct21 : Value}
    (a21 : PySem.W.nsIn K mainGlobals "_law_wide_point" = some (some (.ref f21))) (l21 : K.lookup f21 = some ⟨oc21, od21, .func (PySem.W.fnOf "_law_wide_point" "_law_wide_point" (defArgs s__law_wide_point) (defBody s__law_wide_point) (defScope s__law_wide_point) .none kV21 dc21 pm21 an21 cd21 ct21), sl21⟩) (c21 : PySem.W.codeIn K cd21 "_law_wide_point" = true) (k21 : PySem.W.keepIn K (.ref f21) = true)
    {f22 : Addr} {od22 an22 : Option Addr} {sl22 : Array (Option Value)} {oc22 kV22 dc22 pm22 cd22 ct22 : Value}
    (a22 : PySem.W.nsIn K mainGlobals "_law_is_ratio" = some (some (.ref f22))) (l22 : K.lookup f22 = some ⟨oc22, od22, .func (PySem.W.fnOf "_law_is_ratio" "_law_is_ratio" (defArgs s__law_is_ratio) (defBody s__law_is_ratio) (defScope s__law_is_ratio) .none kV22 dc22 pm22 an22 cd22 ct22), sl22⟩) (c22 : PySem.W.codeIn K cd22 "_law_is_ratio" = true) (k22 : PySem.W.keepIn K (.ref f22) = true)
    {f23 : Addr} {od23 an23 : Option Addr} {sl23 : Array (Option Value)} {oc23 kV23 dc23 pm23 cd23 ct23 : Value}
    (a23 : PySem.W.nsIn K mainGlobals "_law_is_vector" = some (some (.ref f23))) (l23 : K.lookup f23 = some ⟨oc23, od23, .func (PySem.W.fnOf "_law_is_vector" "_law_is_vector" (defArgs s__law_is_vector) (defBody s__law_is_vector) (defScope s__law_is_vector) .none kV23 dc23 pm23 an23 cd23 ct23), sl23⟩) (c23 : PySem.W.codeIn K cd23 "_law_is_vector" = true) (k23 : PySem.W.keepIn K (.ref f23) = true)
    {f24 : Addr} {od24 an24 : Option Addr} {sl24 : Array (Option Value)} {oc24 kV24 dc24 pm24 cd24 ct24 : Value}
    (a24 : PySem.W.nsIn K mainGlobals "_law_menu" = some (some (.ref f24))) (l24 : K.lookup f24 = some ⟨oc24, od24, .func (PySem.W.fnOf "_law_menu" "_law_menu" (defArgs s__law_menu) (defBody s__law_menu) (defScope s__law_menu) .none kV24 dc24 pm24 an24 cd24 ct24), sl24⟩) (c24 : PySem.W.codeIn K cd24 "_law_menu" = true) (k24 : PySem.W.keepIn K (.ref f24) = true)
    {f25 : Addr} {od25 an25 : Option Addr} {sl25 : Array (Option Value)} {oc25 kV25 dc25 pm25 cd25 ct25 : Value}
    (a25 : PySem.W.nsIn K mainGlobals "_law_listed" = some (some (.ref f25))) (l25 : K.lookup f25 = some ⟨oc25, od25, .func (PySem.W.fnOf "_law_listed" "_law_listed" (defArgs s__law_listed) (defBody s__law_listed) (defScope s__law_listed) .none kV25 dc25 pm25 an25 cd25 ct25), sl25⟩) (c25 : PySem.W.codeIn K cd25 "_law_listed" = true) (k25 : PySem.W.keepIn K (.ref f25) = true)
    {f26 : Addr} {od26 an26 : Option Addr} {sl26 : Array (Option Value)} {oc26 kV26 dc26 pm26 cd26 ct26 : Value}
    (a26 : PySem.W.nsIn K mainGlobals "_law_lies" = some (some (.ref f26))) (l26 : K.lookup f26 = some ⟨oc26, od26, .func (PySem.W.fnOf "_law_lies" "_law_lies" (defArgs s__law_lies) (defBody s__law_lies) (defScope s__law_lies) .none kV26 dc26 pm26 an26 cd26 ct26), sl26⟩) (c26 : PySem.W.codeIn K cd26 "_law_lies" = true) (k26 : PySem.W.keepIn K (.ref f26) = true)
    {f27 : Addr} {od27 an27 : Option Addr} {sl27 : Array (Option Value)} {oc27 kV27 dc27 pm27 cd27 ct27 : Value}
    (a27 : PySem.W.nsIn K mainGlobals "_law_sorted" = some (some (.ref f27))) (l27 : K.lookup f27 = some ⟨oc27, od27, .func (PySem.W.fnOf "_law_sorted" "_law_sorted" (defArgs s__law_sorted) (defBody s__law_sorted) (defScope s__law_sorted) .none kV27 dc27 pm27 an27 cd27 ct27), sl27⟩) (c27 : PySem.W.codeIn K cd27 "_law_sorted" = true) (k27 : PySem.W.keepIn K (.ref f27) = true)
    {f28 : Addr} {od28 an28 : Option Addr} {sl28 : Array (Option Value)} {oc28 kV28 dc28 pm28 cd28 ct28 : Value}
    (a28 : PySem.W.nsIn K mainGlobals "_law_again" = some (some (.ref f28))) (l28 : K.lookup f28 = some ⟨oc28, od28, .func (PySem.W.fnOf "_law_again" "_law_again" (defArgs s__law_again) (defBody s__law_again) (defScope s__law_again) .none kV28 dc28 pm28 an28 cd28 ct28), sl28⟩) (c28 : PySem.W.codeIn K cd28 "_law_again" = true) (k28 : PySem.W.keepIn K (.ref f28) = true)
    {f29 : Addr} {od29 an29 : Option Addr} {sl29 : Array (Option Value)} {oc29 kV29 dc29 pm29 cd29 ct29 : Value}
    (a29 : PySem.W.nsIn K mainGlobals "law" = some (some (.ref f29))) (l29 : K.lookup f29 = some ⟨oc29, od29, .func (PySem.W.fnOf "law" "law" (defArgs s_law) (defBody s_law) (defScope s_law) .none kV29 dc29 pm29 an29 cd29 ct29), sl29⟩) (c29 : PySem.W.codeIn K cd29 "law" = true) (k29 : PySem.W.keepIn K (.ref f29) = true)
    (z_len : PySem.W.nsIn K mainGlobals "len" = some none)
    (z_int : PySem.W.nsIn K mainGlobals "int" = some none)
    (z_abs : PySem.W.nsIn K mainGlobals "abs" = some none)
    (z_max : PySem.W.nsIn K mainGlobals "max" = some none)
    (z_min : PySem.W.nsIn K mainGlobals "min" = some none)
    (z_range : PySem.W.nsIn K mainGlobals "range" = some none)
    (z_isinstance : PySem.W.nsIn K mainGlobals "isinstance" = some none)
    (z_list : PySem.W.nsIn K mainGlobals "list" = some none)
    (z_tuple : PySem.W.nsIn K mainGlobals "tuple" = some none)
    (z_bool : PySem.W.nsIn K mainGlobals "bool" = some none)
    (z_str : PySem.W.nsIn K mainGlobals "str" = some none)
    (z_zip : PySem.W.nsIn K mainGlobals "zip" = some none)
    (z_enumerate : PySem.W.nsIn K mainGlobals "enumerate" = some none)
    (z_sum : PySem.W.nsIn K mainGlobals "sum" = some none)
    (z_sorted : PySem.W.nsIn K mainGlobals "sorted" = some none)
    {cc6 PP6 : Addr} {oC6 : Obj} (ce6 : cd6 = .ref cc6) (cl6 : K.lookup cc6 = some oC6) (ch6 : codeB oC6 cc6 = some PP6) (ct6 : h.get? PP6 = some { cls := .none, data := .fields #[] })
    : LamX.LawAtS l w (Kd K ((["sort_points"] : List Str).map (tabOf K))) CX0 9 63 "script" mg fa h := by
  have t6 := tab_of a6 l6 rfl ce6 cl6 ch6
  have eT : ∀ P, P ∈ [PP6] → h.get? P = some { cls := .none, data := .fields #[] } := fun P hP => by
    simp only [List.mem_cons, List.not_mem_nil, or_false] at hP
    rcases hP with rfl
    · exact ct6
  have eP := em_of X eT
  rw [show ((["sort_points"] : List Str).map (tabOf K)) = [PP6] by simp only [List.map_cons, List.map_nil, t6.2]]
  have s6 := tab_of (kd_ns eP a6) (kd_fn eP l6) rfl ce6 (kd_cl eP cl6 ch6) ch6
  obtain ⟨fd, hb, hF⟩ := all_mk (l := l) (w := w) (kd_in X) G hfa (kd_ns eP a0) (kd_fn eP l0) (kd_code eP c0) (kd_keep (kd_fn eP l0)) (kd_ns eP a1) (kd_fn eP l1) (kd_code eP c1) (kd_keep (kd_fn eP l1)) (kd_ns eP a2) (kd_fn eP l2) (kd_code eP c2) (kd_keep (kd_fn eP l2)) (kd_ns eP a3) (kd_fn eP l3) (kd_code eP c3) (kd_keep (kd_fn eP l3)) (kd_ns eP a4) (kd_fn eP l4) (kd_code eP c4) (kd_keep (kd_fn eP l4)) (kd_ns eP a5) (kd_fn eP l5) (kd_code eP c5) (kd_keep (kd_fn eP l5)) (kd_ns eP a6) (kd_fn eP l6) (kd_code eP c6) (kd_keep (kd_fn eP l6)) (kd_ns eP a7) (kd_fn eP l7) (kd_code eP c7) (kd_keep (kd_fn eP l7)) (kd_ns eP a8) (kd_fn eP l8) (kd_code eP c8) (kd_keep (kd_fn eP l8)) (kd_ns eP a9) (kd_fn eP l9) (kd_code eP c9) (kd_keep (kd_fn eP l9)) (kd_ns eP a10) (kd_fn eP l10) (kd_code eP c10) (kd_keep (kd_fn eP l10)) (kd_ns eP a11) (kd_fn eP l11) (kd_code eP c11) (kd_keep (kd_fn eP l11)) (kd_ns eP a12) (kd_fn eP l12) (kd_code eP c12) (kd_keep (kd_fn eP l12)) (kd_ns eP a13) (kd_fn eP l13) (kd_code eP c13) (kd_keep (kd_fn eP l13)) (kd_ns eP a14) (kd_fn eP l14) (kd_code eP c14) (kd_keep (kd_fn eP l14)) (kd_ns eP a15) (kd_fn eP l15) (kd_code eP c15) (kd_keep (kd_fn eP l15)) (kd_ns eP a16) (kd_fn eP l16) (kd_code eP c16) (kd_keep (kd_fn eP l16)) (kd_ns eP a17) (kd_fn eP l17) (kd_code eP c17) (kd_keep (kd_fn eP l17)) (kd_ns eP a18) (kd_fn eP l18) (kd_code eP c18) (kd_keep (kd_fn eP l18)) (kd_ns eP a19) (kd_fn eP l19) (kd_code eP c19) (kd_keep (kd_fn eP l19)) (kd_ns eP a20) (kd_fn eP l20) (kd_code eP c20) (kd_keep (kd_fn eP l20)) (kd_ns eP a21) (kd_fn eP l21) (kd_code eP c21) (kd_keep (kd_fn eP l21)) (kd_ns eP a22) (kd_fn eP l22) (kd_code eP c22) (kd_keep (kd_fn eP l22)) (kd_ns eP a23) (kd_fn eP l23) (kd_code eP c23) (kd_keep (kd_fn eP l23)) (kd_ns eP a24) (kd_fn eP l24) (kd_code eP c24) (kd_keep (kd_fn eP l24)) (kd_ns eP a25) (kd_fn eP l25) (kd_code eP c25) (kd_keep (kd_fn eP l25)) (kd_ns eP a26) (kd_fn eP l26) (kd_code eP c26) (kd_keep (kd_fn eP l26)) (kd_ns eP a27) (kd_fn eP l27) (kd_code eP c27) (kd_keep (kd_fn eP l27)) (kd_ns eP a28) (kd_fn eP l28) (kd_code eP c28) (kd_keep (kd_fn eP l28)) (kd_ns eP a29) (kd_fn eP l29) (kd_code eP c29) (kd_keep (kd_fn eP l29)) (kd_ns eP z_len) (kd_ns eP z_int) (kd_ns eP z_abs) (kd_ns eP z_max) (kd_ns eP z_min) (kd_ns eP z_range) (kd_ns eP z_isinstance) (kd_ns eP z_list) (kd_ns eP z_tuple) (kd_ns eP z_bool) (kd_ns eP z_str) (kd_ns eP z_zip) (kd_ns eP z_enumerate) (kd_ns eP z_sum) (kd_ns eP z_sorted) (ce6.trans (by rw [s6.1]))
  refine ⟨fd, [(cc6, PP6)], sp_law _, (fun p hp => by
    simp only [List.mem_cons, List.not_mem_nil, or_false] at hp
    rcases hp with rfl
    · exact ct6), (fun p hp => by
    simp only [List.mem_cons, List.not_mem_nil, or_false] at hp
    rcases hp with rfl
    · exact kd_none (by simp)), (fun p hp => by
    simp only [List.mem_cons, List.not_mem_nil, or_false] at hp
    rcases hp with rfl
    · exact PySem.W.codeHd_of_K X (codeB_hd cl6 ch6)), hb, fun H a ns hl _ hH hS => ⟨a, ns, rfl, hS, hl, ?_, fun _ => rfl⟩, fun base KB GB hT => ?_⟩
  · intro p hp
    simp only [List.mem_cons, List.not_mem_nil, or_false] at hp
    rcases hp with rfl
    · exact LamX.TabS.nil (by rw [s6.2]; exact hH (cc6, PP6) (by simp))
  · exact hF base KB GB (by rw [s6.1, s6.2]; exact hT (cc6, PP6) (by simp))
in #guard_msgs in universe u_z
end My
open PySem PySem.W PyProof.Rows in
set_option maxRecDepth 100000 in
set_option maxHeartbeats 0 in
theorem PySem.Challenge.cw_everypoint_k06_points_in_order_holds : PySem.Challenge.rw_everypoint_k06_points_in_order.Holds := by
  w_on; o_law; k_head; (case hw => w_witness2)
  k_fill
  refine My.walk_tab (l := PySem.Challenge.rw_everypoint_k06_points_in_order) (k := 9) ["sort_points"] rfl rfl ⟨rfl, by decide, by decide⟩ (fun w h Y => PySem.W.km_in_of Y) ?F
  case F =>
    intro w mg fa h Y KX G hmg
    refine' My.all_tab KX G hmg ?a0 ?l0 ?c0 ?k0 ?a1 ?l1 ?c1 ?k1 ?a2 ?l2 ?c2 ?k2 ?a3 ?l3 ?c3 ?k3 ?a4 ?l4 ?c4 ?k4 ?a5 ?l5 ?c5 ?k5 ?a6 ?l6 ?c6 ?k6 ?a7 ?l7 ?c7 ?k7 ?a8 ?l8 ?c8 ?k8 ?a9 ?l9 ?c9 ?k9 ?a10 ?l10 ?c10 ?k10 ?a11 ?l11 ?c11 ?k11 ?a12 ?l12 ?c12 ?k12 ?a13 ?l13 ?c13 ?k13 ?a14 ?l14 ?c14 ?k14 ?a15 ?l15 ?c15 ?k15 ?a16 ?l16 ?c16 ?k16 ?a17 ?l17 ?c17 ?k17 ?a18 ?l18 ?c18 ?k18 ?a19 ?l19 ?c19 ?k19 ?a20 ?l20 ?c20 ?k20 ?a21 ?l21 ?c21 ?k21 ?a22 ?l22 ?c22 ?k22 ?a23 ?l23 ?c23 ?k23 ?a24 ?l24 ?c24 ?k24 ?a25 ?l25 ?c25 ?k25 ?a26 ?l26 ?c26 ?k26 ?a27 ?l27 ?c27 ?k27 ?a28 ?l28 ?c28 ?k28 ?a29 ?l29 ?c29 ?k29 ?z_len ?z_int ?z_abs ?z_max ?z_min ?z_range ?z_isinstance ?z_list ?z_tuple ?z_bool ?z_str ?z_zip ?z_enumerate ?z_sum ?z_sorted ?ce6 ?cl6 ?ch6 ?ct6
    (case a0 => k_is)
    (case l0 => k_is)
    (case c0 => k_is)
    (case k0 => k_is)
    (case a1 => k_is)
    (case l1 => k_is)
    (case c1 => k_is)
    (case k1 => k_is)
    (case a2 => k_is)
    (case l2 => k_is)
    (case c2 => k_is)
    (case k2 => k_is)
    (case a3 => k_is)
    (case l3 => k_is)
    (case c3 => k_is)
    (case k3 => k_is)
    (case a4 => k_is)
    (case l4 => k_is)
    (case c4 => k_is)
    (case k4 => k_is)
    (case a5 => k_is)
    (case l5 => k_is)
    (case c5 => k_is)
    (case k5 => k_is)
    (case a6 => k_is)
    (case l6 => k_is)
    (case c6 => k_is)
    (case k6 => k_is)
    (case a7 => k_is)
    (case l7 => k_is)
    (case c7 => k_is)
    (case k7 => k_is)
    (case a8 => k_is)
    (case l8 => k_is)
    (case c8 => k_is)
    (case k8 => k_is)
    (case a9 => k_is)
    (case l9 => k_is)
    (case c9 => k_is)
    (case k9 => k_is)
    (case a10 => k_is)
    (case l10 => k_is)
    (case c10 => k_is)
    (case k10 => k_is)
    (case a11 => k_is)
    (case l11 => k_is)
    (case c11 => k_is)
    (case k11 => k_is)
    (case a12 => k_is)
    (case l12 => k_is)
    (case c12 => k_is)
    (case k12 => k_is)
    (case a13 => k_is)
    (case l13 => k_is)
    (case c13 => k_is)
    (case k13 => k_is)
    (case a14 => k_is)
    (case l14 => k_is)
    (case c14 => k_is)
    (case k14 => k_is)
    (case a15 => k_is)
    (case l15 => k_is)
    (case c15 => k_is)
    (case k15 => k_is)
    (case a16 => k_is)
    (case l16 => k_is)
    (case c16 => k_is)
    (case k16 => k_is)
    (case a17 => k_is)
    (case l17 => k_is)
    (case c17 => k_is)
    (case k17 => k_is)
    (case a18 => k_is)
    (case l18 => k_is)
    (case c18 => k_is)
    (case k18 => k_is)
    (case a19 => k_is)
    (case l19 => k_is)
    (case c19 => k_is)
    (case k19 => k_is)
    (case a20 => k_is)
    (case l20 => k_is)
    (case c20 => k_is)
    (case k20 => k_is)
    (case a21 => k_is)
    (case l21 => k_is)
    (case c21 => k_is)
    (case k21 => k_is)
    (case a22 => k_is)
    (case l22 => k_is)
    (case c22 => k_is)
    (case k22 => k_is)
    (case a23 => k_is)
    (case l23 => k_is)
    (case c23 => k_is)
    (case k23 => k_is)
    (case a24 => k_is)
    (case l24 => k_is)
    (case c24 => k_is)
    (case k24 => k_is)
    (case a25 => k_is)
    (case l25 => k_is)
    (case c25 => k_is)
    (case k25 => k_is)
    (case a26 => k_is)
    (case l26 => k_is)
    (case c26 => k_is)
    (case k26 => k_is)
    (case a27 => k_is)
    (case l27 => k_is)
    (case c27 => k_is)
    (case k27 => k_is)
    (case a28 => k_is)
    (case l28 => k_is)
    (case c28 => k_is)
    (case k28 => k_is)
    (case a29 => k_is)
    (case l29 => k_is)
    (case c29 => k_is)
    (case k29 => k_is)
    (case z_len => k_is)
    (case z_int => k_is)
    (case z_abs => k_is)
    (case z_max => k_is)
    (case z_min => k_is)
    (case z_range => k_is)
    (case z_isinstance => k_is)
    (case z_list => k_is)
    (case z_tuple => k_is)
    (case z_bool => k_is)
    (case z_str => k_is)
    (case z_zip => k_is)
    (case z_enumerate => k_is)
    (case z_sum => k_is)
    (case z_sorted => k_is)
    (case ce6 => rfl)
    (case cl6 => k_is)
    (case ch6 => rfl)
    (case ct6 => exact PySem.W.km_tabs_of Y _ (by decide))
