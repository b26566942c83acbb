import PyProof.Rows.All
import Wide.All
import OpenK.AllK
import Wide.FinOn
import HandS.Base
import HandS.Call
import HandS.List
import HandS.Comp
import HandS.Ends
import HandS.Words
import HandS.WordsList
import HandS.Wide
import HandS.Zip
import HandS.Iter
import HandS.Gcd
import HandS.IsInst
import HandS.Evl
import HandS.TryOnly
import HandS.Defaults
import KE.KRevSl
import KE.GoesZip
import KE.GoesMore
import HandS.TupAny
import HandS.Flow
import HandS.More
import HandS.ExcIs
import HandS.HotCalls
import HandS.ExcCtx
import HandS.Text
import HandS.Deep
import HandS.Star
import HandS.Lambda
import PyProof.ReprRoads
import PySem.Challenge.RW_everypoint_k15_made_moves
set_option Elab.async false
set_option maxRecDepth 100000
namespace My
open PySem L2

/-! bits -/
structure B (k : Nat) (i : Int) : Prop where
  lt : i.natAbs < 2 ^ k
theorem B.le {a b : Nat} {x : Int} (h : B a x) (ab : a ≤ b) : B b x := ⟨Nat.lt_of_lt_of_le h.lt (Nat.pow_le_pow_right (by decide) ab)⟩
theorem B.add {a b : Nat} {x y : Int} (ha : B a x) (hb : B b y) : B (max a b + 1) (x + y) := by
  have h1 : B (max a b) x := ha.le (Nat.le_max_left _ _)
  have h2 : B (max a b) y := hb.le (Nat.le_max_right _ _)
  have h3 := h1.lt
  have h4 := h2.lt
  refine ⟨?_⟩
  rw [Nat.pow_succ]
  omega
theorem B.neg {a : Nat} {x : Int} (ha : B a x) : B a (-x) := ⟨by
  have := ha.lt
  omega⟩
theorem B.sub {a b : Nat} {x y : Int} (ha : B a x) (hb : B b y) : B (max a b + 1) (x - y) := by
  have := B.add ha hb.neg
  rw [Int.sub_eq_add_neg]
  exact this
theorem B.mul {a b : Nat} {x y : Int} (ha : B a x) (hb : B b y) : B (a + b) (x * y) := ⟨wide_lt ha.lt hb.lt⟩
theorem B.lit {x : Int} {k : Nat} (h : decide (x.natAbs < 2 ^ k) = true) : B k x := ⟨of_decide_eq_true (p := x.natAbs < 2 ^ k) h⟩
theorem B.of_le {k : Nat} {x y : Int} (h : x.natAbs ≤ y.natAbs) (hb : B k y) : B k x := ⟨Nat.lt_of_le_of_lt h hb.lt⟩
theorem B.rng {k : Nat} {x : Int} (lo : -(2 ^ k) < x) (hi : x < 2 ^ k) : B k x := ⟨by
  have e : ((2 ^ k : Nat) : Int) = 2 ^ k := by simp
  omega⟩
theorem B.cmul {a b : Nat} {x y : Int} (ha : B a x) (hb : B b y) (h : a + b + 2 ≤ 1000000) : CMulW x y :=
  wide_mul (a := a + 1) (b := b + 1) (ha.le (Nat.le_succ a)).lt (hb.le (Nat.le_succ b)).lt (Nat.succ_pos _) (Nat.succ_pos _) (by omega)
/-- // by a divisor of any sign -/
def CDivZ (_ j : Int) : Prop := j ≠ 0 ∧ j.natAbs.log2 < 9000
theorem op_fdivZ {X : Cx} : OpR X (binaryOp .FloorDiv) (rI CDivZ fun i j => .int (i.fdiv j)) := opI fun _ _ _ _ _ _ _ hc q =>
  PyProof.Rows.floordiv_int hc.1 q (.inl (PyProof.noPylong_of_log2 hc.2))
theorem B.cdiv {b : Nat} {x y : Int} (h0 : y ≠ 0) (hb : B b y) (h : b + 1 ≤ 9000) : CDivZ x y :=
  ⟨h0, PySem.Flt.log2_lt_of (k := b + 1) (Nat.succ_pos _) (hb.le (Nat.le_succ b)).lt |> fun q => Nat.lt_of_lt_of_le q h⟩

/-! heaps -/
theorem Same.rd {H H' : Hp} {a : Addr} {u : HO} (e : Same H H') (h : Rd H a u) : Rd H' a u := by
  rcases h with h | ⟨o, h⟩
  · exact .inl (e a _ h)
  · exact .inr ⟨o, e a _ h⟩
theorem Same.tup {K : PySem.W.Frag} {H H' : Hp} {a : Addr} {xs : List V} (e : Same H H') (h : SqT K H a xs) : SqT K H' a xs := by
  rcases h with h | h
  · exact .inl (Same.rd e h)
  · exact .inr h
theorem Same.new {H : Hp} {p : Addr} {o : HO} (h : H p = none) : Same H (upd H p o) := fun a u e => by
  rw [upd_ne (ne_of_none e h)]
  exact e
theorem Same.mut {H H' : Hp} {p : Addr} {o : HO} (e : Same H H') (h : H p = none) : Same H (upd H' p o) := fun a u ha => by
  rw [upd_ne (ne_of_none ha h)]
  exact e a u ha
/-- all but what stands at s is as it was; the list at s begins as it began -/
structure Fr (s : Addr) (H H' : Hp) : Prop where
  keep : ∀ b o, b ≠ s → H b = some o → H' b = some o
  hd : ∀ xs, H s = some (.lst xs) → ∃ ys, H' s = some (.lst ys) ∧ ys.head? = xs.head?
theorem Fr.refl (s : Addr) (H : Hp) : Fr s H H := ⟨fun _ _ _ h => h, fun xs h => ⟨xs, h, rfl⟩⟩
theorem Fr.trans {s : Addr} {H H1 H2 : Hp} (a : Fr s H H1) (b : Fr s H1 H2) : Fr s H H2 := ⟨fun c o n h => b.keep c o n (a.keep c o n h), fun xs h => by
  obtain ⟨ys, h1, e1⟩ := a.hd xs h
  obtain ⟨zs, h2, e2⟩ := b.hd ys h1
  exact ⟨zs, h2, e2.trans e1⟩⟩
theorem Same.fr {s : Addr} {H H' : Hp} (e : Same H H') : Fr s H H' := ⟨fun b o _ h => e b o h, fun xs h => ⟨xs, e _ _ h, rfl⟩⟩
theorem Fr.upd {s : Addr} {H : Hp} {xs ys : List V} (h : H s = some (.lst xs)) (e : ys.head? = xs.head?) : Fr s H (upd H s (.lst ys)) := ⟨fun b u n h => by
  rw [upd_ne n]
  exact h, fun zs hz => by
  rw [h] at hz
  cases hz
  exact ⟨ys, upd_same, e⟩⟩
theorem Fr.mut {s : Addr} {H H' : Hp} {p : Addr} {o : HO} (e : Fr s H H') (h : H p = none) (hs : H s ≠ none) : Fr s H (L2.upd H' p o) := ⟨fun b u n hb => by
  rw [upd_ne (ne_of_none hb h)]
  exact e.keep b u n hb, fun xs hx => by
  rw [upd_ne (ne_of_none hx h)]
  exact e.hd xs hx⟩
theorem Fr.new {s : Addr} {H : Hp} {p : Addr} {o : HO} (h : H p = none) : Fr s H (L2.upd H p o) := Same.fr (Same.new h)
/-- the store of a law's draws -/
structure StD (K : PySem.W.Frag) (H : Hp) (s l : Addr) (ns : List Int) (i1 i2 i3 i4 i5 i6 : Int) : Prop where
  at_ : H s = some (.lst [.ref l, .int i1, .int i2, .int i3, .int i4, .int i5, .int i6])
  ne : l ≠ s
  lst : H l = some (.lst (ns.map V.int))
  nn : 0 ≤ i1
def St (K : PySem.W.Frag) (H : Hp) (s : Addr) : Prop := ∃ l ns i1 i2 i3 i4 i5 i6, StD K H s l ns i1 i2 i3 i4 i5 i6
theorem St.same {K : PySem.W.Frag} {H H' : Hp} {s : Addr} (e : Same H H') (h : St K H s) : St K H' s := by
  obtain ⟨l, ns, i1, i2, i3, i4, i5, i6, h⟩ := h
  exact ⟨l, ns, i1, i2, i3, i4, i5, i6, e _ _ h.at_, h.ne, e _ _ h.lst, h.nn⟩
theorem Fr.tup {K : PySem.W.Frag} {H H' : Hp} {s a : Addr} {xs : List V} (e : Fr s H H') (st : St K H s) (h : SqT K H a xs) : SqT K H' a xs := by
  obtain ⟨l, ns, i1, i2, i3, i4, i5, i6, st⟩ := st
  rcases h with (h | ⟨o, h⟩) | h
  · refine .inl (.inl (e.keep _ _ (fun q => ?_) h))
    rw [q, st.at_] at h
    cases h
  · refine .inl (.inr ⟨o, e.keep _ _ (fun q => ?_) h⟩)
    rw [q, st.at_] at h
    cases h
  · exact .inr h

theorem St.some {K : PySem.W.Frag} {H : Hp} {s : Addr} (h : St K H s) : H s ≠ none := by
  obtain ⟨l, ns, i1, i2, i3, i4, i5, i6, h⟩ := h
  rw [h.at_]
  intro q
  cases q
set_option Elab.async true in
/-- an object that was not there at the beginning may change -/
theorem St.mut {K : PySem.W.Frag} {H H1 : Hp} {s p : Addr} {o : HO} (h : St K H s) (e : Fr s H H1) (h1 : St K H1 s) (hp : H p = none) : St K (upd H1 p o) s := by
  obtain ⟨l, ns, i1, i2, i3, i4, i5, i6, h⟩ := h
  obtain ⟨l', ns', j1, j2, j3, j4, j5, j6, h1⟩ := h1
  obtain ⟨ys, hy, e2⟩ := e.hd _ h.at_
  rw [h1.at_] at hy
  cases hy
  have el : l' = l := by simpa using e2
  subst el
  exact ⟨l', ns', j1, j2, j3, j4, j5, j6, (upd_ne (ne_of_none h.at_ hp)).trans h1.at_, h1.ne, (upd_ne (ne_of_none h.lst hp)).trans h1.lst, h1.nn⟩
in #guard_msgs in universe u_z
/-! rules in short -/
section
variable {X : Cx}
structure Cal (P : Program) (w : World) (K : PySem.W.Frag) (mg : Str → Option Value) (base : Heap) (x : Str) (k : Nat) (ps : List Str) (sp : Sp) : Prop where
  ex : ∃ (f : Addr) (fd : FuncData), FnOk P w K mg base CX0 k f fd ps sp ∧ mg x = some (.ref f) ∧ PySem.W.keepIn K (.ref f) = true ∧ Binds K fd ps []
variable {x : Str} {p pos : Pos} {e : Expr} {es : List Expr} {t : TA} {k : Nat} {ps : List Str} {sp : Sp}
theorem pc (C : Cal X.prog X.w X.K X.mg X.base x k ps sp) (hr : Room k X.A) (hg : Gl X x) (ha : PA X (e :: es) t) (hdb : (x == ("__debug__" : Str)) = false := by decide)
    (he : starEach (e :: es) X.env = (false, eval e X.env) :: starEach es X.env := by rfl) (hpl : (backTo pos (starEach es X.env)).any (·.1) = false := by rfl) :
    PE X (.Call (.Name x p) (e :: es) [] pos) (tCall sp [] E0 t) := by
  obtain ⟨f, fd, F, hm, hk, hb⟩ := C.ex
  exact pe_call F hr hg hm hk hb .nil pass0 ha hdb he hpl
theorem pc0 (C : Cal X.prog X.w X.K X.mg X.base x k ps sp) (hr : Room k X.A) (hg : Gl X x) (hdb : (x == ("__debug__" : Str)) = false := by decide) :
    PE X (.Call (.Name x p) [] [] pos) (tCall sp [] E0 tNil) := by
  obtain ⟨f, fd, F, hm, hk, hb⟩ := C.ex
  exact pe_call0 F hr hg hm hk hb .nil pass0 hdb
end
theorem mk_lst {H : Hp} {xs : List V} {Q : VK} (hl : xs.length ≤ 100000) (h : ∀ (p : Addr) (H1 : Hp), H p = none → Same H H1 → H1 p = some (.lst xs) → Q (.ref p) H1) :
    xs.length ≤ sizeLine ∧ ∀ p, H p = none → Q (.ref p) (upd H p (.lst xs)) :=
  ⟨Nat.le_trans hl (by decide), fun p np => h p _ np (Same.new np) upd_same⟩
structure Blt (mg : Str → Option Value) : Prop where
  len : mg "len" = none
  int : mg "int" = none
  abs : mg "abs" = none
  max : mg "max" = none
  min : mg "min" = none
  range : mg "range" = none
  isinstance : mg "isinstance" = none
  list : mg "list" = none
  tuple : mg "tuple" = none
  bool : mg "bool" = none
  str : mg "str" = none
  zip : mg "zip" = none
  enumerate : mg "enumerate" = none
  sum : mg "sum" = none
  gcd : mg "gcd" = some (.builtin "math.gcd")
theorem if_eqI {a b : Int} {A B : Prop} (h1 : a = b → A) (h2 : a ≠ b → B) : if decide (V.int a = V.int b) = true then A else B := by
  by_cases h : a = b
  · rw [if_pos (decide_eq_true (congrArg V.int h))]; exact h1 h
  · rw [if_neg (fun q => h (V.int.inj (of_decide_eq_true q)))]; exact h2 h
theorem if_neI {a b : Int} {A B : Prop} (h1 : a ≠ b → A) (h2 : a = b → B) : if (!decide (V.int a = V.int b)) = true then A else B := by
  by_cases h : a = b
  · rw [if_neg (by rw [decide_eq_true (congrArg V.int h)]; decide)]; exact h2 h
  · rw [if_pos (by rw [decide_eq_false (fun q => h (V.int.inj q))]; rfl)]; exact h1 h
theorem if_dec {p : Prop} [Decidable p] {A B : Prop} (h1 : p → A) (h2 : ¬ p → B) : if decide p = true then A else B := by
  by_cases h : p
  · rw [if_pos (decide_eq_true h)]; exact h1 h
  · rw [if_neg (by rw [decide_eq_false h]; decide)]; exact h2 h
theorem if_b {b : Bool} {A B : Prop} (h1 : b = true → A) (h2 : b = false → B) : if b = true then A else B := by
  cases b
  · rw [if_neg (by decide)]; exact h2 rfl
  · rw [if_pos rfl]; exact h1 rfl
theorem if_nb {b : Bool} {A B : Prop} (h1 : b = false → A) (h2 : b = true → B) : if (!b) = true then A else B := by
  cases b
  · exact (if_pos (c := (!false) = true) rfl).mpr (h1 rfl)
  · exact (if_neg (c := (!true) = true) (by decide)).mpr (h2 rfl)
end My
/-! the readings, one step each -/
namespace My
open PySem L2
section
variable {K : PySem.W.Frag} {σ : L2.St} {H : Hp} {D : Ends} {te ta tb to ti : TE} {tt t2 : TT} {t u w : TS} {Q : VK} {i : Nat} {v x y : V} {r : R2}
theorem w_seqA (h : te σ H fun x H1 => u D (σ.set i (some x)) H1) : tSeq (tAsg te (gName i)) u D σ H := h
theorem w_asg (h : te σ H fun x H1 => D.nx (σ.set i (some x)) H1) : tAsg te (gName i) D σ H := h
theorem w_seqG {g : TG} (h : te σ H fun x H1 => g x σ H1 (u D)) : tSeq (tAsg te g) u D σ H := h
theorem w_asgG {g : TG} (h : te σ H fun x H1 => g x σ H1 D.nx) : tAsg te g D σ H := h
theorem w_seqI (h : tt σ H fun b H1 => if b = true then t { D with nx := w D } σ H1 else u { D with nx := w D } σ H1) : tSeq (tIfS tt t u) w D σ H := h
theorem w_ifS (h : tt σ H fun b H1 => if b = true then t D σ H1 else u D σ H1) : tIfS tt t u D σ H := h
theorem w_seqD (h : te σ H fun _ H1 => u D σ H1) : tSeq (tDrop te) u D σ H := h
theorem w_drop (h : te σ H fun _ H1 => D.nx σ H1) : tDrop te D σ H := h
theorem w_next (h : D.nx σ H) : tNext D σ H := h
theorem w_ret (h : te σ H D.rt) : tRet te D σ H := h
theorem w_nx {n : L2.St → Hp → Prop} {rt : VK} {bk ct : L2.St → Hp → Prop} (h : n σ H) : Ends.nx { nx := n, rt := rt, bk := bk, ct := ct } σ H := h
theorem w_rt {n : L2.St → Hp → Prop} {rt : VK} {bk ct : L2.St → Hp → Prop} (h : rt v H) : Ends.rt { nx := n, rt := rt, bk := bk, ct := ct } v H := h
theorem w_never (h : False) : tNever D σ H := h
theorem w_var (e : σ[i]? = some (some v)) (h : Q v H) : tVar i σ H Q := ⟨v, e, h⟩
theorem w_c (h : Q v H) : tC v σ H Q := h
theorem w_op (h : ta σ H fun x H1 => tb σ H1 fun y H2 => r x y H2 Q) : tOp r ta tb σ H Q := h
theorem w_un {r : V → Hp → VK → Prop} (h : ta σ H fun x H1 => r x H1 Q) : tUn r ta σ H Q := h
theorem w_test {Q : Bool → Hp → Prop} (h : te σ H fun x H' => ∃ k, x = .bl k ∧ Q k H') : tTest te σ H Q := h
theorem w_tB {Q : Bool → Hp → Prop} (h : te σ H fun x H' => ∃ k, x = .bl k ∧ Q k H') : tB te σ H Q := h
theorem w_ex {b : Bool} {Q : Bool → Prop} (h : Q b) : ∃ k, V.bl b = .bl k ∧ Q k := ⟨b, rfl, h⟩
theorem w_and {Q : Bool → Hp → Prop} (h : tt σ H fun c H1 => if c = true then t2 σ H1 Q else Q false H1) : tAnd tt t2 σ H Q := h
theorem w_or {Q : Bool → Hp → Prop} (h : tt σ H fun c H1 => if c = true then Q true H1 else t2 σ H1 Q) : tOr tt t2 σ H Q := h
theorem w_not {Q : Bool → Hp → Prop} (h : tt σ H fun c H1 => Q (!c) H1) : tNot tt σ H Q := h
theorem w_andV (h : ta σ H fun x H1 => ∃ c, x = .bl c ∧ if c = true then tb σ H1 Q else Q (.bl false) H1) : tAndV ta tb σ H Q := h
theorem w_notV (h : ta σ H fun x H1 => ∃ c, x = .bl c ∧ Q (.bl (!c)) H1) : tNotV ta σ H Q := h
theorem w_ifE (h : tt σ H fun c H1 => if c = true then ta σ H1 Q else tb σ H1 Q) : tIf tt ta tb σ H Q := h
theorem w_nil {Q : List V → Hp → Prop} (h : Q [] H) : tNil σ H Q := h
theorem w_cons {tr : TA} {Q : List V → Hp → Prop} (h : ta σ H fun x H1 => tr σ H1 fun xs H2 => Q (x :: xs) H2) : tCons ta tr σ H Q := h
theorem w_cb {r : List V → Hp → VK → Prop} {t : TA} (h : t σ H fun vs H1 => r vs H1 Q) : tCB r t σ H Q := h
theorem w_call {sp : Sp} {E : XK} {t : TA} (h : t σ H fun vs H1 => sp vs H1 Q E) : tCall sp [] E t σ H Q := by
  have e : (fun (vs : List V) H1 => sp (vs ++ []) H1 Q E) = fun vs H1 => sp vs H1 Q E := by
    funext vs H1
    rw [List.append_nil]
  show t σ H fun vs H1 => sp (vs ++ []) H1 Q E
  rw [e]
  exact h
/-- what a new tuple, a new list wants -/
def mkT (xs : List V) (H : Hp) (Q : VK) : Prop := xs.length ≤ sizeLine ∧ ∀ p, H p = none → Q (.ref p) (upd H p (.tup xs))
def mkL (xs : List V) (H : Hp) (Q : VK) : Prop := xs.length ≤ sizeLine ∧ ∀ p, H p = none → Q (.ref p) (upd H p (.lst xs))
theorem w_tup {t : TA} (h : t σ H fun xs H1 => mkT xs H1 Q) : tTup t σ H Q := h
theorem w_lst {t : TA} (h : t σ H fun xs H1 => mkL xs H1 Q) : tLst t σ H Q := h
theorem a_tup {xs : List V} (hl : decide (xs.length ≤ 100000) = true) (h : ∀ (p : Addr) (H1 : Hp), H p = none → Same H H1 → H1 p = some (.tup xs) → Q (.ref p) H1) : mkT xs H Q :=
  ⟨Nat.le_trans (of_decide_eq_true hl) (by decide), fun p np => h p _ np (Same.new np) upd_same⟩
theorem a_lst {xs : List V} (hl : decide (xs.length ≤ 100000) = true) (h : ∀ (p : Addr) (H1 : Hp), H p = none → Same H H1 → H1 p = some (.lst xs) → Q (.ref p) H1) : mkL xs H Q := mk_lst (of_decide_eq_true hl) h
theorem r_I0 {g : Int → Int → V} {i j : Int} (h : Q (g i j) H) : rI0 g (.int i) (.int j) H Q := ⟨i, j, rfl, rfl, h⟩
theorem r_I {C : Int → Int → Prop} {g : Int → Int → V} {i j : Int} (c : C i j) (h : Q (g i j) H) : rI C g (.int i) (.int j) H Q := ⟨i, j, rfl, rfl, c, h⟩
theorem r_U {g : Int → V} {i : Int} (h : Q (g i) H) : rU g (.int i) H Q := ⟨i, rfl, h⟩
theorem r_eq (c : scal x y = true) (h : Q (.bl (decide (x = y))) H) : rEq x y H Q := ⟨c, h⟩
theorem r_ne (c : scal x y = true) (h : Q (.bl (!decide (x = y))) H) : rNe x y H Q := ⟨c, h⟩
theorem r_ixT {p : Addr} {xs : List V} {i : Int} (q : SqT K H p xs) (a : atI xs i = some v) (h : Q v H) : rIxT K (.ref p) (.int i) H Q := ⟨p, xs, i, v, rfl, rfl, q, a, h⟩
theorem r_ixL {p : Addr} {xs : List V} {i : Int} (q : SqL K H p xs) (a : atI xs i = some v) (h : Q v H) : rIxL K (.ref p) (.int i) H Q := ⟨p, xs, i, v, rfl, rfl, q, a, h⟩
theorem r_gcd {a b : Int} (h : Q (.int ((Nat.gcd a.natAbs b.natAbs : Nat) : Int)) H) : rGcd [.int a, .int b] H Q := ⟨a, b, rfl, h⟩
end
end My
namespace My
open PySem L2
set_option Elab.async true in
theorem gcd_parts (t b : Int) (hb : b ≠ 0) : ∃ (g : Nat) (t' b' : Int), g = Nat.gcd t.natAbs b.natAbs ∧ 0 < g ∧ t = (g : Int) * t' ∧ b = (g : Int) * b' ∧ Nat.gcd t'.natAbs b'.natAbs = 1 := by
  have h1 : ((Nat.gcd t.natAbs b.natAbs : Nat) : Int) ∣ t := Int.ofNat_dvd_left.2 (Nat.gcd_dvd_left _ _)
  have h2 : ((Nat.gcd t.natAbs b.natAbs : Nat) : Int) ∣ b := Int.ofNat_dvd_left.2 (Nat.gcd_dvd_right _ _)
  have hg : 0 < Nat.gcd t.natAbs b.natAbs := Nat.gcd_pos_of_pos_right _ (by omega)
  obtain ⟨t', e1⟩ := h1
  obtain ⟨b', e2⟩ := h2
  refine ⟨_, t', b', rfl, hg, e1, e2, ?_⟩
  have e3 : t.natAbs = Nat.gcd t.natAbs b.natAbs * t'.natAbs := by
    have := congrArg Int.natAbs e1
    rw [Int.natAbs_mul] at this
    simpa using this
  have e4 : b.natAbs = Nat.gcd t.natAbs b.natAbs * b'.natAbs := by
    have := congrArg Int.natAbs e2
    rw [Int.natAbs_mul] at this
    simpa using this
  have e5 : Nat.gcd t.natAbs b.natAbs = Nat.gcd t.natAbs b.natAbs * Nat.gcd t'.natAbs b'.natAbs := by
    rw [← Nat.gcd_mul_left, ← e3, ← e4]
  generalize Nat.gcd t.natAbs b.natAbs = g at *
  have : g * 1 = g * Nat.gcd t'.natAbs b'.natAbs := by omega
  exact (Nat.eq_of_mul_eq_mul_left hg this).symm
in #guard_msgs in universe u_z
/-- the parts of a reduced fraction -/
structure Red (t b n d : Int) : Prop where
  eq : n * b = t * d
  pos : 0 < d
  cop : Nat.gcd n.natAbs d.natAbs = 1
  ln : n.natAbs ≤ t.natAbs
  ld : d.natAbs ≤ b.natAbs
set_option Elab.async true in
theorem red_of {t b s : Int} (hb : b ≠ 0) (h1 : 0 < b → s = (Nat.gcd t.natAbs b.natAbs : Nat)) (h2 : b < 0 → s = -((Nat.gcd t.natAbs b.natAbs : Nat) : Int)) :
    Red t b (t.fdiv s) (b.fdiv s) := by
  obtain ⟨g, t', b', hg, h0, e1, e2, hc⟩ := gcd_parts t b hb
  rw [← hg] at h1 h2
  have gi : (g : Int) ≠ 0 := by omega
  have hle : ∀ z : Int, z.natAbs ≤ ((g : Int) * z).natAbs := fun z => by
    rw [Int.natAbs_mul]
    exact Nat.le_mul_of_pos_left _ (by simpa using h0)
  rcases Int.lt_or_gt_of_ne hb with hn | hp
  · have es := h2 hn
    have d1 : t.fdiv s = -t' := by
      rw [es, e1, show (g : Int) * t' = (-(g : Int)) * (-t') by rw [Int.neg_mul_neg]]
      exact Int.mul_fdiv_cancel_left _ (by omega)
    have d2 : b.fdiv s = -b' := by
      rw [es, e2, show (g : Int) * b' = (-(g : Int)) * (-b') by rw [Int.neg_mul_neg]]
      exact Int.mul_fdiv_cancel_left _ (by omega)
    rw [d1, d2]
    refine ⟨?_, ?_, by simpa using hc, ?_, ?_⟩
    · rw [e1, e2]; grind
    · have : (g : Int) * b' < 0 := e2 ▸ hn
      have := Int.neg_of_mul_neg_right (a := (g:Int)) (b := b') this (by omega)
      omega
    · rw [e1, Int.natAbs_neg]; exact hle t'
    · rw [e2, Int.natAbs_neg]; exact hle b'
  · have es := h1 hp
    have d1 : t.fdiv s = t' := by
      rw [es, e1]
      exact Int.mul_fdiv_cancel_left _ gi
    have d2 : b.fdiv s = b' := by
      rw [es, e2]
      exact Int.mul_fdiv_cancel_left _ gi
    rw [d1, d2]
    refine ⟨?_, ?_, hc, ?_, ?_⟩
    · rw [e1, e2]; grind
    · have : 0 < (g : Int) * b' := e2 ▸ hp
      exact Int.pos_of_mul_pos_right (a := (g:Int)) this (by omega)
    · rw [e1]; exact hle t'
    · rw [e2]; exact hle b'
in #guard_msgs in universe u_z
theorem dvd_cop {d n m : Int} (c : Nat.gcd d.natAbs n.natAbs = 1) (h : d ∣ n * m) : d ∣ m := by
  have h2 : d.natAbs ∣ n.natAbs * m.natAbs := by
    rw [← Int.natAbs_mul]
    exact Int.natAbs_dvd_natAbs.2 h
  exact Int.natAbs_dvd_natAbs.1 (Nat.Coprime.dvd_of_dvd_mul_left (k := d.natAbs) (m := n.natAbs) c h2)
set_option Elab.async true in
/-- two reduced fractions of one value are one -/
theorem red_uniq {n d n' d' : Int} (p : 0 < d) (p' : 0 < d') (c : Nat.gcd n.natAbs d.natAbs = 1) (c' : Nat.gcd n'.natAbs d'.natAbs = 1) (e : n * d' = n' * d) : n = n' ∧ d = d' := by
  have hd : d ∣ d' := by
    have : d ∣ n * d' := ⟨n', by rw [e, Int.mul_comm]⟩
    exact dvd_cop (by rw [Nat.gcd_comm]; exact c) this
  have hd' : d' ∣ d := by
    have : d' ∣ n' * d := ⟨n, by rw [← e, Int.mul_comm]⟩
    exact dvd_cop (by rw [Nat.gcd_comm]; exact c') this
  have e2 : d = d' := Int.dvd_antisymm (by omega) (by omega) hd hd'
  subst e2
  exact ⟨Int.eq_of_mul_eq_mul_right (by omega) e, rfl⟩
in #guard_msgs in universe u_z
end My
namespace My
open PySem L2
theorem B.redn {t b n d : Int} {k : Nat} (r : Red t b n d) (h : B k t) : B k n := B.of_le r.ln h
theorem B.redd {t b n d : Int} {k : Nat} (r : Red t b n d) (h : B k b) : B k d := B.of_le r.ld h
/-! loops -/
/-- what is left of a for once its walk is known -/
def forT (J : It) (g : TG) (tb : TS) (D : Ends) (σ : L2.St) (H : Hp) : Prop := ∃ W : Nat → Nat → L2.St → Hp → Prop, (∃ m, W 0 m σ H) ∧ ∀ i m σ H, W i m σ H →
  (J.stop i H ∧ D.nx σ H) ∨ (J.go i H ∧ ∃ N : L2.St → Hp → Prop, (∀ σ' H', N σ' H' → ∃ m', m' < m ∧ W (i + 1) m' σ' H') ∧ ∀ x H', J.yld i H x H' → g x σ H' fun σ2 H2 => tb { D with nx := N, ct := N, bk := D.nx } σ2 H2)
section
variable {K : PySem.W.Frag} {σ : L2.St} {H : Hp} {D : Ends} {te ta tb to ti : TE} {tt t2 : TT} {t u w : TS} {Q : VK} {i : Nat} {v x y : V} {r : R2} {g : TG} {wi : TI}
theorem w_seqF (h : wi σ H fun J H1 => forT J g t { D with nx := u D } σ H1) : tSeq (tFor wi g t) u D σ H := h
theorem w_for (h : wi σ H fun J H1 => forT J g t D σ H1) : tFor wi g t D σ H := h
def iL (K : PySem.W.Frag) (x : V) (H : Hp) (R : It → Hp → Prop) : Prop := ∃ a, x = .ref a ∧ (∃ xs, SqL K H a xs) ∧ R (Itl K a) H
def iT (K : PySem.W.Frag) (x : V) (H : Hp) (R : It → Hp → Prop) : Prop := ∃ a, x = .ref a ∧ (∃ xs, SqT K H a xs) ∧ R (Itt K a) H
theorem w_iL {R : It → Hp → Prop} (h : te σ H fun x H1 => iL K x H1 R) : iList K te σ H R := h
theorem w_iT {R : It → Hp → Prop} (h : te σ H fun x H1 => iT K x H1 R) : iTup K te σ H R := h
theorem r_iL {R : It → Hp → Prop} {a : Addr} {xs : List V} (q : SqL K H a xs) (h : R (Itl K a) H) : iL K (.ref a) H R := ⟨a, rfl, ⟨xs, q⟩, h⟩
theorem r_iT {R : It → Hp → Prop} {a : Addr} {xs : List V} (q : SqT K H a xs) (h : R (Itt K a) H) : iT K (.ref a) H R := ⟨a, rfl, ⟨xs, q⟩, h⟩
def iR1 (vs : List V) (H : Hp) (R : It → Hp → Prop) : Prop := ∃ j : Int, vs = [.int j] ∧ -(2 ^ 62) ≤ j ∧ j < 2 ^ 62 ∧ R (Itr 0 j.toNat) H
theorem w_iR1 {R : It → Hp → Prop} {t : TA} (h : t σ H fun vs H1 => iR1 vs H1 R) : iRng1 t σ H R := h
theorem r_iR1 {R : It → Hp → Prop} {j : Int} (h1 : -1000000 ≤ j ∧ j ≤ 1000000) (h : R (Itr 0 j.toNat) H) : iR1 [.int j] H R := ⟨j, rfl, by omega, by omega, h⟩
theorem f_list {a : Addr} {xs : List V} (Pv : Nat → L2.St → Hp → Prop) (h0 : Pv 0 σ H) (hl : ∀ i σ H, i ≤ xs.length → Pv i σ H → SqL K H a xs)
    (hs : ∀ i x σ H, xs[i]? = some x → Pv i σ H → g x σ H fun σ2 H2 => t { D with nx := Pv (i + 1), ct := Pv (i + 1), bk := D.nx } σ2 H2) (hd : ∀ σ H, Pv xs.length σ H → D.nx σ H) : forT (Itl K a) g t D σ H := for_list Pv h0 hl hs hd
theorem f_tup {a : Addr} {xs : List V} (Pv : Nat → L2.St → Hp → Prop) (h0 : Pv 0 σ H) (hl : ∀ i σ H, i ≤ xs.length → Pv i σ H → SqT K H a xs)
    (hs : ∀ i x σ H, xs[i]? = some x → Pv i σ H → g x σ H fun σ2 H2 => t { D with nx := Pv (i + 1), ct := Pv (i + 1), bk := D.nx } σ2 H2) (hd : ∀ σ H, Pv xs.length σ H → D.nx σ H) : forT (Itt K a) g t D σ H := for_tup Pv h0 hl hs hd
theorem f_range {lo : Int} {n : Nat} (Pv : Nat → L2.St → Hp → Prop) (h0 : Pv 0 σ H)
    (hs : ∀ i σ H, i < n → Pv i σ H → g (.int (lo + i)) σ H fun σ2 H2 => t { D with nx := Pv (i + 1), ct := Pv (i + 1), bk := D.nx } σ2 H2) (hd : ∀ σ H, Pv n σ H → D.nx σ H) : forT (Itr lo n) g t D σ H := for_range Pv h0 hs hd
theorem w_gN {Q : L2.St → Hp → Prop} (h : Q (σ.set i (some v)) H) : gName i v σ H Q := h
theorem w_gTup {Q : L2.St → Hp → Prop} {n : Nat} {gs : TGs} {a : Addr} {xs : List V} (q : SqT K H a xs) (hn : xs.length = n) (h : gs xs σ H Q) : gTup K n gs (.ref a) σ H Q := ⟨a, xs, rfl, q, hn, h⟩
theorem w_gCons {Q : L2.St → Hp → Prop} {gs : TGs} {vs : List V} (h : g v σ H fun σ' H' => gs vs σ' H' Q) : gCons g gs (v :: vs) σ H Q := ⟨v, vs, rfl, h⟩
theorem w_gNil {Q : L2.St → Hp → Prop} (h : Q σ H) : gNil [] σ H Q := ⟨rfl, h⟩
def whP (W : Nat → L2.St → Hp → Prop) (m : Nat) (t u : TS) (D : Ends) (σ : L2.St) (b : Bool) (H1 : Hp) : Prop :=
  if b = true then ∃ N : L2.St → Hp → Prop, (∀ σ' H', N σ' H' → ∃ m', m' < m ∧ W m' σ' H') ∧ t { D with nx := N, ct := N, bk := u D } σ H1 else u D σ H1
theorem w_seqW (W : Nat → L2.St → Hp → Prop) (m0 : Nat) (h0 : W m0 σ H) (hs : ∀ m σ H, W m σ H → tt σ H fun b H1 => whP W m t u D σ b H1) : tSeq (tWhile tt t) u D σ H := ⟨W, ⟨m0, h0⟩, hs⟩
theorem r_whP {W : Nat → L2.St → Hp → Prop} {m : Nat} {b : Bool} (h1 : b = true → t { D with nx := fun σ2 H2 => ∃ m', m' < m ∧ W m' σ2 H2, ct := fun σ2 H2 => ∃ m', m' < m ∧ W m' σ2 H2, bk := u D } σ H) (h2 : b = false → u D σ H) : whP W m t u D σ b H := by
  cases b with
  | true => exact ⟨_, fun _ _ z => z, h1 rfl⟩
  | false => exact h2 rfl
/-! comprehensions -/
def lcT (J : It) (g : TG) (tt : TT) (te : TE) (vs : List Nat) (σ : L2.St) (H1 : Hp) (D : Addr) (Qd : Hp → Prop) : Prop := ∃ W : Nat → Nat → Hp → Prop, (∃ m, W 0 m (upd H1 D (.lst []))) ∧ ∀ i m H, W i m H →
  (J.stop i H ∧ Qd H) ∨ (J.go i H ∧ ∃ Nx : Hp → Prop, (∀ H', Nx H' → ∃ m', m' < m ∧ W (i + 1) m' H') ∧ ∀ x H', J.yld i H x H' → g x (wipe σ vs) H' fun σ2 H2 => wipe σ2 vs = wipe σ vs ∧ tt σ2 H2 fun b H3 =>
    if b = true then te σ2 H3 fun y H4 => ∃ acc, H4 D = some (.lst acc) ∧ acc.length < sizeLine ∧ Nx (upd H4 D (.lst (acc ++ [y]))) else Nx H3)
theorem w_lc {vs : List Nat} (h : wi σ H fun J H1 => ∀ D, H1 D = none → lcT J g tt te vs σ H1 D (Q (.ref D))) : tLc wi g tt te vs σ H Q := h
/-- what an item of a comprehension must bring -/
def lcP (Da : Addr) (i : Nat) (I : Nat → List V → Hp → Prop) (y : V) (H : Hp) : Prop :=
  ∃ acc, H Da = some (.lst acc) ∧ acc.length < sizeLine ∧ ∃ acc2, acc2.length = i + 1 ∧ (upd H Da (.lst (acc ++ [y]))) Da = some (.lst acc2) ∧ I (i + 1) acc2 (upd H Da (.lst (acc ++ [y])))
/-! isinstance -/
theorem SqT.tyx {a : Addr} {xs : List V} (h : SqT K H a xs) : TyX K H (.ref a) (.type "tuple") := by
  rcases h with (h | ⟨o, h⟩) | ⟨o, its, n, h1, h2, _⟩
  · exact .base (.tup h)
  · exact .fTuple h
  · exact .kTuple h1 h2
theorem SqL.tyx {a : Addr} {xs : List V} (h : SqL K H a xs) : TyX K H (.ref a) (.type "list") := by
  rcases h with (h | ⟨o, h⟩) | ⟨o, its, n, h1, h2, _⟩
  · exact .base (.lst h)
  · exact .base (.frz h)
  · exact .kList h1 h2
theorem r_isi {x c : V} {t u : Value} {b : Bool} (hc : ClsV c u) (ht : TyX K H x t) (e : PySem.W.kitOne K t u = some b) (h : Q (.bl b) H) : rIsi K [x, c] H Q := ⟨x, c, t, u, b, rfl, hc, ht, e, h⟩
end
end My
namespace My
open PySem L2
section
variable {K : PySem.W.Frag} {σ : L2.St} {H : Hp} {Q : VK} {x y : V}
theorem r_eqD {d e : PyData} (hd : Dp K H x d) (he : Dp K H y e) (sd : SeqAt.shaped d = true) (se : SeqAt.shaped e = true) (h : Q (.bl (PyData.eqv d e)) H) : rEqD K x y H Q := ⟨d, e, hd, he, sd, se, h⟩
theorem r_neD {d e : PyData} (hd : Dp K H x d) (he : Dp K H y e) (sd : SeqAt.shaped d = true) (se : SeqAt.shaped e = true) (h : Q (.bl (!PyData.eqv d e)) H) : rNeD K x y H Q := ⟨d, e, hd, he, sd, se, h⟩
theorem eqv_I (a b : Int) : PyData.eqv (.int a) (.int b) = decide (a = b) := by
  simp only [PyData.eqv]
  rw [Bool.beq_eq_decide_eq]
theorem eqv_T (xs ys : List PyData) : PyData.eqv (.tuple xs) (.tuple ys) = PyData.eqvAll xs ys := by simp only [PyData.eqv]
theorem eqv_C (x y : PyData) (xs ys : List PyData) : PyData.eqvAll (x :: xs) (y :: ys) = (PyData.eqv x y && PyData.eqvAll xs ys) := by rw [PyData.eqvAll]
theorem eqv_N : PyData.eqvAll [] [] = true := by simp only [PyData.eqvAll]
end
end My
theorem My.hu_of64 {A : PySem.Around} {k : Nat} (hr : L2.Room k A) : A.units + 64 < PySem.cLine := by
  have := hr.un
  omega
/-! the rules that hang on the written part, with K told -/
namespace My
open PySem L2
section
variable {X : Cx} {K : PySem.W.Frag} {e o i : Expr} {es : List Expr} {te to ti : TE} {t : TA} {pos p : Pos} {tg : Expr}
theorem kx_tup (h : X.K = K) : IxR X (rIxT K) := h ▸ ix_tup
theorem kx_list (h : X.K = K) : IxR X (rIxL K) := h ▸ ix_list
theorem ko_eqD (h : X.K = K) (hu : X.A.units + 64 < cLine) : OpR X (compareOp .Eq) (rEqD K) := h ▸ op_eqD hu
theorem ko_neD (h : X.K = K) (hu : X.A.units + 64 < cLine) : OpR X (compareOp .NotEq) (rNeD K) := h ▸ op_neD hu
def rLen (K : PySem.W.Frag) : List V → Hp → VK → Prop := fun xs H Q => ∃ p ys, xs = [.ref p] ∧ (SqL K H p ys ∨ SqT K H p ys) ∧ Q (.int ys.length) H
theorem kc_len (h : X.K = K) : CallR X (.builtin "len") (rLen K) := h ▸ call_len_seq
def rLst (K : PySem.W.Frag) : List V → Hp → VK → Prop := fun xs H Q => ∃ p ys, xs = [.ref p] ∧ (SqL K H p ys ∨ SqT K H p ys) ∧ ∀ l, H l = none → Q (.ref l) (upd H l (.lst ys))
theorem kc_list (h : X.K = K) : CallR X (.type "list") (rLst K) := h ▸ call_list_of
def rTpl (K : PySem.W.Frag) : List V → Hp → VK → Prop := fun xs H Q => ∃ p ys, xs = [.ref p] ∧ ((SqL K H p ys ∧ ∀ l, H l = none → Q (.ref l) (upd H l (.tup ys))) ∨ (SqT K H p ys ∧ Q (.ref p) H))
theorem kc_tuple (h : X.K = K) : CallR X (.type "tuple") (rTpl K) := h ▸ call_tuple_of
theorem kc_isi (h : X.K = K) : CallR X (.builtin "isinstance") (rIsi K) := h ▸ call_isi
theorem kp_list (h : X.K = K) (he : PE X e te) : PI X tg e (iList K te) := h ▸ pi_list he
theorem kp_tup (h : X.K = K) (he : PE X e te) : PI X tg e (iTup K te) := h ▸ pi_tup he
theorem kg_tup (h : X.K = K) {k n : Nat} {t : TGs} (hc : X.calm = true) (hp : PGs X es t) (hn : (assignEach es X.env).length = n := by rfl) (hst : (assignEach es X.env).findIdx? (·.1) = none := by rfl) : PG X (.Tuple es k pos) (gTup K n t) := h ▸ pg_tup hc hp hn hst
section
variable {T name id : String} {apos cpos : Pos} {r : V → List V → Hp → VK → Prop}
set_option Elab.async true in
theorem k_bm (h : X.K = K) {T : String} {name : Str} {id : String} (pa : PlainAttrs T) (slot : Slot T name id) (hty : typeOf (.builtin id) = pure (.type "method_descriptor")) (hm : MtR X id r) (ho : PE X o to) (ha : PA X (e :: es) t)
    (hbase : attributeBase o name X.env (eval o X.env) = eval o X.env := by rfl)
    (hfew : ((backTo cpos (starEach (e :: es) X.env)).all (fun x => !x.1) && (backToKw cpos (keywordEach [] X.env)).all (fun x => x.1.isSome)
      && decide ((e :: es).length + ([] : List Keyword).length + (if ([] : List Keyword).isEmpty then 0 else 1) < 30)) = true := by rfl)
    (hline : (apos.endLine == cpos.line) = true := by rfl) (hs : starEach (e :: es) X.env = (false, eval e X.env) :: starEach es X.env := by rfl) (hplain : (backTo cpos (starEach es X.env)).any (·.1) = false := by rfl) :
    PE X (.Call (.Attribute o name apos) (e :: es) [] cpos) (tBM K T r to t) := h ▸ pe_bm pa slot hty hm ho ha hbase hfew hline hs hplain
in #guard_msgs in universe u_z
end
end
section
variable {K : PySem.W.Frag} {σ : L2.St} {H : Hp} {Q : VK} {x y : V}
theorem r_lenT {p : Addr} {xs : List V} (q : SqT K H p xs) (h : Q (.int (xs.length : Int)) H) : rLen K [.ref p] H Q := ⟨p, xs, rfl, .inr q, h⟩
theorem r_lenL' {p : Addr} {xs : List V} (q : SqL K H p xs) (h : Q (.int (xs.length : Int)) H) : rLen K [.ref p] H Q := ⟨p, xs, rfl, .inl q, h⟩
theorem r_lstL {p : Addr} {xs : List V} (q : SqL K H p xs) (h : ∀ (l : Addr) (H1 : Hp), H l = none → Same H H1 → H1 l = some (.lst xs) → Q (.ref l) H1) : rLst K [.ref p] H Q := ⟨p, xs, rfl, .inl q, fun l hl => h l _ hl (Same.new hl) upd_same⟩
theorem r_lstT {p : Addr} {xs : List V} (q : SqT K H p xs) (h : ∀ (l : Addr) (H1 : Hp), H l = none → Same H H1 → H1 l = some (.lst xs) → Q (.ref l) H1) : rLst K [.ref p] H Q := ⟨p, xs, rfl, .inr q, fun l hl => h l _ hl (Same.new hl) upd_same⟩
theorem r_tplL {p : Addr} {xs : List V} (q : SqL K H p xs) (h : ∀ (l : Addr) (H1 : Hp), H l = none → Same H H1 → H1 l = some (.tup xs) → Q (.ref l) H1) : rTpl K [.ref p] H Q := ⟨p, xs, rfl, .inl ⟨q, fun l hl => h l _ hl (Same.new hl) upd_same⟩⟩
end
end My
/-! comprehensions and loops that make values -/
namespace My
open PySem L2
/-- every tuple stays -/
def TK (K : PySem.W.Frag) (H H' : Hp) : Prop := ∀ a xs, SqT K H a xs → SqT K H' a xs
theorem TK.refl (K : PySem.W.Frag) (H : Hp) : TK K H H := fun _ _ h => h
theorem TK.trans {K : PySem.W.Frag} {H H1 H2 : Hp} (a : TK K H H1) (b : TK K H1 H2) : TK K H H2 := fun p xs h => b p xs (a p xs h)
theorem TK.same {K : PySem.W.Frag} {H H' : Hp} (e : Same H H') : TK K H H' := fun _ _ h => Same.tup e h
theorem TK.upd {K : PySem.W.Frag} {H : Hp} {l : Addr} {xs : List V} {o : HO} (h : H l = some (.lst xs)) : TK K H (upd H l o) := fun a ys t => by
  rcases t with (t | ⟨z, t⟩) | t
  · refine .inl (.inl ((upd_ne fun q => ?_).trans t))
    rw [q, h] at t
    cases t
  · refine .inl (.inr ⟨z, (upd_ne fun q => ?_).trans t⟩)
    rw [q, h] at t
    cases t
  · exact .inr t
theorem TK.fr {K : PySem.W.Frag} {H H' : Hp} {s : Addr} (e : Fr s H H') (st : St K H s) : TK K H H' := fun _ _ h => Fr.tup e st h
section
variable {K : PySem.W.Frag} {σ : L2.St} {H : Hp} {te : TE}
/-- the state of a comprehension that makes the list at Da: G is what stays, J what is told of the items -/
def lcPv (Da : Addr) (G : Hp → Prop) (J : Nat → List V → Hp → Prop) (i : Nat) (H1 : Hp) : Prop := ∃ acc, acc.length = i ∧ H1 Da = some (.lst acc) ∧ G H1 ∧ J i acc H1
def lcQ (Da : Addr) (G : Hp → Prop) (J : Nat → List V → Hp → Prop) (i : Nat) (y : V) (H2 : Hp) : Prop := ∃ acc, H2 Da = some (.lst acc) ∧ acc.length < sizeLine ∧ lcPv Da G J (i + 1) (upd H2 Da (.lst (acc ++ [y])))
structure LcG (K : PySem.W.Frag) (Da : Addr) (G : Hp → Prop) (J : Nat → List V → Hp → Prop) : Prop where
  g : ∀ H1 acc o, H1 Da = some (.lst acc) → G H1 → G (upd H1 Da o)
  j : ∀ i acc H1 H2, TK K H1 H2 → J i acc H1 → J i acc H2
theorem r_lcQ {Da : Addr} {G : Hp → Prop} {J : Nat → List V → Hp → Prop} {i : Nat} {y : V} {H2 : Hp} {acc : List V} (L : LcG K Da G J) (hi : i < 100000) (ha : acc.length = i) (hDa : H2 Da = some (.lst acc)) (g : G H2) (q : J (i + 1) (acc ++ [y]) H2) : lcQ Da G J i y H2 :=
  ⟨acc, hDa, Nat.lt_of_lt_of_le (m := 100000) (by omega) (by decide), acc ++ [y], by simp [ha], upd_same, L.g _ _ _ hDa g, L.j _ _ _ _ (TK.upd hDa) q⟩
set_option Elab.async true in
theorem lc_rngG {lo : Int} {n : Nat} {j : Nat} {vs : List Nat} {Da : Addr} {Qd : Hp → Prop} {G : Hp → Prop} {J : Nat → List V → Hp → Prop} (L : LcG K Da G J) (h0 : G (upd H Da (.lst []))) (hj : J 0 [] (upd H Da (.lst [])))
    (hw : ∀ x, wipe ((wipe σ vs).set j (some x)) vs = wipe σ vs)
    (hs : ∀ i acc H1, i < n → acc.length = i → H1 Da = some (.lst acc) → G H1 → J i acc H1 → te ((wipe σ vs).set j (some (.int (lo + i)))) H1 fun y H2 => lcQ Da G J i y H2)
    (hd : ∀ acc H1, acc.length = n → H1 Da = some (.lst acc) → G H1 → J n acc H1 → Qd H1) : lcT (Itr lo n) (gName j) tYes te vs σ H Da Qd := by
  have z := lc_range (lo := lo) (n := n) (g := gName j) (tt := tYes) (te := te) (vs := vs) (σ := σ) (H1 := H) (D := Da) (Qd := Qd) (lcPv Da G J)
    ⟨[], rfl, upd_same, h0, hj⟩ (by
    rintro i H1 hi ⟨acc, ha, hDa, s1, p⟩
    exact ⟨hw _, hs i acc H1 hi ha hDa s1 p⟩) (by
    rintro H1 ⟨acc, ha, hDa, s1, p⟩
    exact hd acc H1 ha hDa s1 p)
  exact z
in #guard_msgs in universe u_z
set_option Elab.async true in
theorem lc_lstG {a : Addr} {xs : List V} {j : Nat} {vs : List Nat} {Da : Addr} {Qd : Hp → Prop} {G : Hp → Prop} {J : Nat → List V → Hp → Prop} (L : LcG K Da G J) (h0 : G (upd H Da (.lst []))) (hj : J 0 [] (upd H Da (.lst [])))
    (hl : ∀ H1 acc, H1 Da = some (.lst acc) → G H1 → SqL K H1 a xs) (hw : ∀ x, wipe ((wipe σ vs).set j (some x)) vs = wipe σ vs)
    (hs : ∀ i x acc H1, xs[i]? = some x → acc.length = i → H1 Da = some (.lst acc) → G H1 → J i acc H1 → te ((wipe σ vs).set j (some x)) H1 fun y H2 => lcQ Da G J i y H2)
    (hd : ∀ acc H1, acc.length = xs.length → H1 Da = some (.lst acc) → G H1 → J xs.length acc H1 → Qd H1) : lcT (Itl K a) (gName j) tYes te vs σ H Da Qd := by
  have z := lc_list (K := K) (a := a) (xs := xs) (g := gName j) (tt := tYes) (te := te) (vs := vs) (σ := σ) (H1 := H) (D := Da) (Qd := Qd) (lcPv Da G J)
    ⟨[], rfl, upd_same, h0, hj⟩ (by
    rintro i H1 hi ⟨acc, ha, hDa, s1, p⟩
    exact hl H1 acc hDa s1) (by
    rintro i x H1 hi ⟨acc, ha, hDa, s1, p⟩
    exact ⟨hw _, hs i x acc H1 hi ha hDa s1 p⟩) (by
    rintro H1 ⟨acc, ha, hDa, s1, p⟩
    exact hd acc H1 ha hDa s1 p)
  exact z
in #guard_msgs in universe u_z
/-- G of a pure comprehension, of one that draws -/
theorem lcG_same {Da : Addr} {J : Nat → List V → Hp → Prop} (hD : H Da = none) (j : ∀ i acc H1 H2, TK K H1 H2 → J i acc H1 → J i acc H2) : LcG K Da (Same H) J := ⟨fun _ _ _ _ g => Same.mut g hD, j⟩
def Go (K : PySem.W.Frag) (s : Addr) (H H1 : Hp) : Prop := Fr s H H1 ∧ St K H1 s
theorem lcG_go {Da s : Addr} {J : Nat → List V → Hp → Prop} (hD : H Da = none) (st : St K H s) (j : ∀ i acc H1 H2, TK K H1 H2 → J i acc H1 → J i acc H2) : LcG K Da (Go K s H) J :=
  ⟨fun _ _ _ _ g => ⟨Fr.mut g.1 hD st.some, St.mut st g.1 g.2 hD⟩, j⟩
theorem go_new {Da s : Addr} {o : HO} (hD : H Da = none) (st : St K H s) : Go K s H (upd H Da o) := ⟨Fr.new hD, St.same (Same.new hD) st⟩
end
end My
namespace My
open PySem L2
section
variable {X : Cx}
def rInt1 : List V → Hp → VK → Prop := fun xs H Q => (∃ i, xs = [.int i] ∧ Q (.int i) H) ∨ ∃ k, xs = [.bl k] ∧ Q (.int (if k then 1 else 0)) H
theorem kc_int : CallR X (.type "int") rInt1 := call_int1
def rAbs1 : List V → Hp → VK → Prop := fun xs H Q => ∃ i : Int, xs = [.int i] ∧ Q (.int (i.natAbs : Int)) H
theorem kc_abs : CallR X (.builtin "abs") rAbs1 := by
  intro pins s σ H xs us Q I r h
  obtain ⟨i, e, q⟩ := h
  refine call_abs pins s σ H xs us Q I r ⟨i, e, ?_⟩
  have e2 : (if i < 0 then -i else i) = (i.natAbs : Int) := by split <;> omega
  rw [e2]
  exact q
def rMax2 : List V → Hp → VK → Prop := fun xs H Q => ∃ i j : Int, xs = [.int i, .int j] ∧ Q (.int (max i j)) H
theorem kc_max (hc : X.calm = true) : CallR X (.builtin "max") rMax2 := by
  intro pins s σ H xs us Q I r h
  obtain ⟨i, j, e, q⟩ := h
  refine call_max2 hc pins s σ H xs us Q I r ⟨i, j, e, ?_⟩
  have e2 : (if j > i then j else i) = max i j := by split <;> omega
  rw [e2]
  exact q
def rMin2 : List V → Hp → VK → Prop := fun xs H Q => ∃ i j : Int, xs = [.int i, .int j] ∧ Q (.int (min i j)) H
end
section
variable {K : PySem.W.Frag} {σ : L2.St} {H : Hp} {Q : VK} {x y v : V}
theorem r_int1 {i : Int} (h : Q (.int i) H) : rInt1 [.int i] H Q := .inl ⟨i, rfl, h⟩
theorem r_int1b {k : Bool} (h : Q (.int (if k then 1 else 0)) H) : rInt1 [.bl k] H Q := .inr ⟨k, rfl, h⟩
theorem r_abs1 {i : Int} (h : Q (.int (i.natAbs : Int)) H) : rAbs1 [.int i] H Q := ⟨i, rfl, h⟩
theorem r_max2 {i j : Int} (h : Q (.int (max i j)) H) : rMax2 [.int i, .int j] H Q := ⟨i, j, rfl, h⟩
theorem w_gSub {Q : L2.St → Hp → Prop} {to ti : TE} {t : TSet} (h : to σ H fun o H1 => ti σ H1 fun i H2 => t o i v H2 fun H3 => Q σ H3) : gSub to ti t v σ H Q := h
theorem r_setL {Q : Hp → Prop} {p : Addr} {xs ys : List V} {k : Int} {j : Nat} (h : H p = some (.lst xs)) (e : ixN xs.length k = some j) (ey : xs.set j v = ys) (q : Q (upd H p (.lst ys))) : rSetL (.ref p) (.int k) v H Q := ⟨p, xs, k, j, rfl, rfl, h, e, ey ▸ q⟩
variable {s l : Addr} {ns : List Int} {i1 i2 i3 i4 i5 i6 j1 j2 j3 j4 j5 j6 : Int}
theorem StD.st (h : StD K H s l ns i1 i2 i3 i4 i5 i6) : St K H s := ⟨l, ns, i1, i2, i3, i4, i5, i6, h⟩
theorem r_setS {Q : Hp → Prop} {k : Int} {j : Nat} (h : StD K H s l ns i1 i2 i3 i4 i5 i6) (e : ixN 7 k = some j) (ey : ([.ref l, .int i1, .int i2, .int i3, .int i4, .int i5, .int i6] : List V).set j v = [.ref l, .int j1, .int j2, .int j3, .int j4, .int j5, .int j6]) (hj : 0 ≤ j1)
    (q : ∀ H1, Fr s H H1 → 0 ≤ j1 → StD K H1 s l ns j1 j2 j3 j4 j5 j6 → Q H1) : rSetL (.ref s) (.int k) v H Q :=
  r_setL h.at_ e ey (q _ (Fr.upd h.at_ rfl) hj ⟨upd_same, h.ne, (upd_ne h.ne).trans h.lst, hj⟩)
theorem r_ixS {i : Int} (h : StD K H s l ns i1 i2 i3 i4 i5 i6) (e : atI ([.ref l, .int i1, .int i2, .int i3, .int i4, .int i5, .int i6] : List V) i = some v) (q : Q v H) : rIxL K (.ref s) (.int i) H Q := r_ixL (SqL.of h.at_) e q
theorem atI_in {α : Type} {xs : List α} {i : Int} (h0 : 0 ≤ i) (h1 : i < (xs.length : Int)) : ∃ v, atI xs i = some v ∧ v ∈ xs ∧ xs[i.toNat]? = some v := by
  obtain ⟨n, rfl⟩ := Int.eq_ofNat_of_zero_le h0
  have hn : n < xs.length := by omega
  exact ⟨xs[n], atI_nat (List.getElem?_eq_getElem hn), List.getElem_mem hn, by simp [hn]⟩
theorem r_ixC (h : StD K H s l ns i1 i2 i3 i4 i5 i6) (hl : i1 < ((ns.map V.int).length : Int)) (q : ∀ z, Q (.int z) H) : rIxL K (.ref l) (.int i1) H Q := by
  obtain ⟨v, e, hv, _⟩ := atI_in (xs := ns.map V.int) h.nn hl
  obtain ⟨z, _, rfl⟩ := List.mem_map.mp hv
  exact r_ixL (SqL.of h.lst) e (q z)
end
end My
theorem My.w_cut {t u : L2.TS} {D : L2.Ends} {σ : L2.St} {H : L2.Hp} (M : L2.St → L2.Hp → Prop) (h : t { D with nx := M } σ H) (k : ∀ σ' H', M σ' H' → u D σ' H') : Evl.tCut t u D σ H := ⟨M, h, k⟩
theorem My.StD.same {K : PySem.W.Frag} {H H' : L2.Hp} {s l : PySem.Addr} {ns : List Int} {i1 i2 i3 i4 i5 i6 : Int} (e : L2.Same H H') (h : My.StD K H s l ns i1 i2 i3 i4 i5 i6) : My.StD K H' s l ns i1 i2 i3 i4 i5 i6 := ⟨e _ _ h.at_, h.ne, e _ _ h.lst, h.nn⟩
namespace My
open PySem L2
section
variable {X : Cx}
def rIsNo : R2 := fun x y H Q => y = .non ∧ Q (.bl (decide (x = .non))) H
def rNotNo : R2 := fun x y H Q => y = .non ∧ Q (.bl (!decide (x = .non))) H
theorem ko_isN : OpR X (compareOp .Is) rIsNo := op_isN
section
variable {H : Hp} {Q : VK}
theorem r_isN0 (h : Q (.bl true) H) : rIsNo .non .non H Q := ⟨rfl, h⟩
theorem r_isNr {a : Addr} (h : Q (.bl false) H) : rIsNo (.ref a) .non H Q := ⟨rfl, h⟩
end
/-! unpacking a list -/
def gUnL (K : PySem.W.Frag) (n : Nat) (t : TGs) : TG := fun v σ H Q => ∃ a xs, v = .ref a ∧ SqL K H a xs ∧ xs.length = n ∧ t xs σ H Q
theorem kg_lst {K : PySem.W.Frag} (hK : X.K = K) {es : List Expr} {k n : Nat} {t : TGs} {pos : Pos} (hc : X.calm = true) (h : PGs X es t)
    (hn : (assignEach es X.env).length = n := by rfl) (hst : (assignEach es X.env).findIdx? (·.1) = none := by rfl) : PG X (.Tuple es k pos) (gUnL K n t) := hK ▸ pg_lst hc h hn hst
/-! calls by keywords -/
def pkV (idx : List Nat) (dvs vs zs : List V) : List V := idx.map fun i => (vs ++ zs ++ dvs).getD i .non
def pkU (idx : List Nat) (ds us ws : List Value) : List Value := idx.map fun i => (us ++ ws ++ ds).getD i .none
theorem vals_getD {xs : List V} {us : List Value} (r : Vals xs us) (i : Nat) : RelV (xs.getD i .non) (us.getD i .none) := by
  rw [List.getD_eq_getElem?_getD, List.getD_eq_getElem?_getD]
  cases h : xs[i]? with
  | none =>
    rw [Vals.none_of r h]
    rfl
  | some x =>
    obtain ⟨u, h1, h2⟩ := Vals.get r h
    rw [h1]
    exact h2
theorem pk_rel {dvs vs zs : List V} {ds us ws : List Value} (rd : Vals dvs ds) (r1 : Vals vs us) (r2 : Vals zs ws) : ∀ idx, Vals (pkV idx dvs vs zs) (pkU idx ds us ws)
  | [] => .nil
  | i :: r => .cons (vals_getD (Vals.append (Vals.append r1 r2) rd) i) (pk_rel rd r1 r2 r)
structure KCal (P : Program) (w : World) (K : PySem.W.Frag) (mg : Str → Option Value) (base : Heap) (x : Str) (k : Nat) (ps : List Str) (sp : Sp) (n : Nat) (ks : List Str) (gV : List V → List V → List V) : Prop where
  ex : ∃ (f : Addr) (fd : FuncData), FnOk P w K mg base CX0 k f fd ps sp ∧ mg x = some (.ref f) ∧ PySem.W.keepIn K (.ref f) = true ∧ ∃ g, KBn K fd ps n ks g gV
variable {x : Str} {p pos : Pos} {e : Expr} {es : List Expr} {t tk : TA} {k n : Nat} {ps ks : List Str} {sp : Sp} {kws : List Keyword} {gV : List V → List V → List V}
set_option Elab.async true in
theorem pcK (C : KCal X.prog X.w X.K X.mg X.base x k ps sp n ks gV) (hr : Room k X.A) (hg : Gl X x) (ha : PA X (e :: es) t) (hkw : PK X kws tk) (hall : (backToKw pos (keywordEach kws X.env)).all (·.1.isSome) = true := by rfl) (hks : (backToKw pos (keywordEach kws X.env)).filterMap (·.1) = ks := by rfl)
    (hdb : (x == ("__debug__" : Str)) = false := by decide) (he : starEach (e :: es) X.env = (false, eval e X.env) :: starEach es X.env := by rfl)
    (hpl : ((backTo pos (starEach (e :: es) X.env)).any (·.1) || (backToKw pos (keywordEach kws X.env)).any (·.1.isNone)) = false := by rfl) :
    PE X (.Call (.Name x p) (e :: es) kws pos) (tCallN n ks.length sp gV E0 t tk) := by
  obtain ⟨f, fd, F, hm, hk, g, hb⟩ := C.ex
  exact pe_callN F hr hg hm hk hb pass0 ha hkw hall hks hdb he hpl
in #guard_msgs in universe u_z
def cN (n m : Nat) (sp : Sp) (gV : List V → List V → List V) (vs zs : List V) (H : Hp) (Q : VK) : Prop := vs.length = n ∧ zs.length = m ∧ sp (gV vs zs) H Q E0
theorem w_callN {m : Nat} {σ : L2.St} {H : Hp} {Q : VK} (h : t σ H fun vs H1 => tk σ H1 fun zs H2 => cN n m sp gV vs zs H2 Q) : tCallN n m sp gV E0 t tk σ H Q := h
theorem r_cN {m : Nat} {vs zs us : List V} {H : Hp} {Q : VK} (l1 : vs.length = n) (l2 : zs.length = m) (e : gV vs zs = us) (h : sp us H Q E0) : cN n m sp gV vs zs H Q := ⟨l1, l2, e ▸ h⟩
end
/-- rational numbers in lowest terms, of k bits -/
structure Rt (k : Nat) (n d : Int) : Prop where
  pos : 0 < d
  cop : Nat.gcd n.natAbs d.natAbs = 1
  bn : B k n
  bd : B k d
theorem map_get {ns : List Int} {i : Nat} {x : V} (h : (ns.map V.int)[i]? = some x) : ∃ z, x = .int z ∧ ns[i]? = some z := by
  rw [List.getElem?_map] at h
  cases e : ns[i]? with
  | none =>
    rw [e] at h
    cases h
  | some u =>
    rw [e] at h
    exact ⟨u, (Option.some.inj h).symm, rfl⟩
end My
theorem My.p10 {i n : Nat} (h : i ≤ n) : (10 : Int) ^ i ≤ 10 ^ n := by
  have q := Nat.pow_le_pow_right (n := 10) (by decide) h
  exact_mod_cast q
namespace My
open PySem L2
section
variable {A B : Prop} {a b : Int}
theorem if_nT (h : B) : if (!true) = true then A else B := h
theorem if_nF (h : A) : if (!false) = true then A else B := h
theorem if_eqT (e : (a == b) = true) (h : A) : if decide (V.int a = V.int b) = true then A else B := if_eqI (fun _ => h) (fun q => absurd (by simpa using e) q)
theorem if_eqF (e : (a == b) = false) (h : B) : if decide (V.int a = V.int b) = true then A else B := if_eqI (fun q => absurd q (by simpa using e)) (fun _ => h)
theorem if_decT {p : Prop} [Decidable p] (e : p) (h : A) : if decide p = true then A else B := if_dec (fun _ => h) (fun q => absurd e q)
theorem if_decF {p : Prop} [Decidable p] (e : ¬ p) (h : B) : if decide p = true then A else B := if_dec (fun q => absurd q e) (fun _ => h)
variable {K : PySem.W.Frag} {H : Hp} {Q : VK} {p : Addr} {x y z u : V}
end
end My
namespace My
open PySem L2
/-- four numbers are those of a plane times s -/
structure Scl (a b c d p0 p1 p2 p3 s : Int) : Prop where
  e0 : a = p0 * s
  e1 : b = p1 * s
  e2 : c = p2 * s
  e3 : d = p3 * s
  nz : s ≠ 0
end My
namespace My
open PySem L2
theorem Fr.seq {K : PySem.W.Frag} {H H' : Hp} {s a : Addr} {xs : List V} (e : Fr s H H') (st : St K H s) (h : SqL K H a xs) (hx : (xs.length == 7) = false) : SqL K H' a xs := by
  obtain ⟨l, ns, i1, i2, i3, i4, i5, i6, st⟩ := st
  rcases h with (h | ⟨o, h⟩) | h
  · refine .inl (.inl (e.keep _ _ (fun q => ?_) h))
    rw [q, st.at_] at h
    cases h
    cases hx
  · refine .inl (.inr ⟨o, e.keep _ _ (fun q => ?_) h⟩)
    rw [q, st.at_] at h
    cases h
  · exact .inr h
end My
namespace My
open PySem L2
end My
namespace My
open PySem L2
section
variable {K : PySem.W.Frag} {σ : L2.St} {H : Hp} {Q : VK} {to : TE} {t : TA}
def bmP (K : PySem.W.Frag) (T : String) (x : V) (H : Hp) (P : Prop) : Prop := tyV K T x H ∧ P
theorem w_bm {T : String} {r : V → List V → Hp → VK → Prop} (h : to σ H fun x H1 => bmP K T x H1 (t σ H1 fun xs H2 => r x xs H2 Q)) : tBM K T r to t σ H Q := h
theorem r_bmL {l : Addr} {xs : List V} {P : Prop} (h : SqL K H l xs) (p : P) : bmP K "list" (.ref l) H P := ⟨.inl ⟨rfl, _, h⟩, p⟩
theorem r_app {l : Addr} {xs : List V} {y : V} (h : H l = some (.lst xs)) (hz : xs.length < 100000) (q : Q .non (upd H l (.lst (xs ++ [y])))) : rAppend (.ref l) [y] H Q := ⟨l, xs, y, rfl, rfl, h, Nat.lt_of_lt_of_le hz (by decide), q⟩
end
end My
namespace My
end My
namespace My
open PySem L2
theorem Fr.lst {K : PySem.W.Frag} {H H' : Hp} {s a : Addr} {xs : List V} (e : Fr s H H') (st : St K H s) (h : H a = some (.lst xs)) (hx : (xs.length == 7) = false) : H' a = some (.lst xs) := by
  obtain ⟨l, ns, i1, i2, i3, i4, i5, i6, st⟩ := st
  refine e.keep _ _ (fun q => ?_) h
  rw [q, st.at_] at h
  cases h
  cases hx
theorem Same.lst {H H' : Hp} {a : Addr} {xs : List V} (e : Same H H') (h : H a = some (.lst xs)) : H' a = some (.lst xs) := e _ _ h
section
variable {K : PySem.W.Frag} {H H0 : Hp} {s l : Addr} {xs ys : List V} {y v : V}
end
end My
namespace My
open PySem L2
/-- a plane's tuple; one whose value is zero at a point -/
def PlV (K : PySem.W.Frag) (H : Hp) (x : V) : Prop := ∃ a p0 p1 p2 p3, x = .ref a ∧ SqT K H a [.int p0, .int p1, .int p2, .int p3] ∧ B 1300 p0 ∧ B 1300 p1 ∧ B 1300 p2 ∧ B 1300 p3
def PlZ (K : PySem.W.Frag) (n0 d0 n1 d1 n2 d2 : Int) (H : Hp) (x : V) : Prop := ∃ a p0 p1 p2 p3, x = .ref a ∧ SqT K H a [.int p0, .int p1, .int p2, .int p3] ∧ B 1300 p0 ∧ B 1300 p1 ∧ B 1300 p2 ∧ B 1300 p3 ∧
  p0 * n0 * d1 * d2 + p1 * n1 * d0 * d2 + p2 * n2 * d0 * d1 + p3 * (d0 * d1 * d2) = 0
/-- all items of a list -/
def AllV (P : Hp → V → Prop) (acc : List V) (H : Hp) : Prop := ∀ x ∈ acc, P H x
end My
namespace My
end My
namespace My
open PySem L2
mutual
theorem Dp.same {K : PySem.W.Frag} {H H' : Hp} (e : Same H H') : ∀ {v : V} {d : PyData}, Dp K H v d → Dp K H' v d
  | _, _, .non => .non
  | _, _, .bl b => .bl b
  | _, _, .int i => .int i
  | _, _, .str x => .str x
  | _, _, .lst h a => .lst (e.seq h) (DpAll.same e a)
  | _, _, .tup h a => .tup (Same.tup e h) (DpAll.same e a)
theorem DpAll.same {K : PySem.W.Frag} {H H' : Hp} (e : Same H H') : ∀ {vs : List V} {ds : List PyData}, DpAll K H vs ds → DpAll K H' vs ds
  | _, _, .nil => .nil
  | _, _, .cons h a => .cons (Dp.same e h) (DpAll.same e a)
end
/-- a value that is None, or a point on three planes -/
def PvP (K : PySem.W.Frag) (H : Hp) (xv : V) (a0 a1 a2 a3 b0 b1 b2 b3 c0 c1 c2 c3 : Int) : Prop := xv = .non ∨ ∃ v v0 v1 v2 m0 e0 m1 e1 m2 e2, xv = .ref v ∧ SqT K H v [.ref v0, .ref v1, .ref v2] ∧ SqT K H v0 [.int m0, .int e0] ∧ SqT K H v1 [.int m1, .int e1] ∧ SqT K H v2 [.int m2, .int e2] ∧ Rt 6 m0 e0 ∧ Rt 6 m1 e1 ∧ Rt 6 m2 e2 ∧ a0 * m0 * e1 * e2 + a1 * m1 * e0 * e2 + a2 * m2 * e0 * e1 + a3 * (e0 * e1 * e2) = 0 ∧ b0 * m0 * e1 * e2 + b1 * m1 * e0 * e2 + b2 * m2 * e0 * e1 + b3 * (e0 * e1 * e2) = 0 ∧ c0 * m0 * e1 * e2 + c1 * m1 * e0 * e2 + c2 * m2 * e0 * e1 + c3 * (e0 * e1 * e2) = 0
/-- the first answer, as data -/
def FstD (D T0 T1 T2 : Int) (d : PyData) : Prop := (D = 0 ∧ d = .none) ∨ (D ≠ 0 ∧ ∃ k0 e0 k1 e1 k2 e2, d = .tuple [.tuple [.int k0, .int e0], .tuple [.int k1, .int e1], .tuple [.int k2, .int e2]] ∧ Red T0 D k0 e0 ∧ Red T1 D k1 e1 ∧ Red T2 D k2 e2)
end My
theorem My.B.nat {n k : Nat} (h : decide (n < 2 ^ k) = true) : My.B k (@OfNat.ofNat Int n _) := ⟨of_decide_eq_true (p := n < 2 ^ k) h⟩
namespace My
open PySem L2
/-- a def of the text as it stands behind the top, with or without defaults -/
structure FunA (K : PySem.W.Frag) (x qual : Str) (st : Stmt) (f : Addr) (fd : FuncData) : Prop where
  ex : ∃ (oc : Value) (od : Option Addr) (dV kV doc pm : Value) (an : Option Addr) (cdv ct : Value) (osl : Array (Option Value)),
    fd = PySem.W.fnOf x qual (defArgs st) (defBody st) (defScope st) dV kV doc pm an cdv ct ∧ K.lookup f = some ⟨oc, od, .func fd, osl⟩ ∧ PySem.W.codeIn K cdv qual = true
section
variable {P : Program} {w : World} {K : PySem.W.Frag} {mg : Str → Option Value} {base : Heap}
set_option Elab.async true in
theorem FunA.ok {x qual : Str} {st : Stmt} {f : Addr} {fd : FuncData} {N ps : List Str} {k : Nat} {sp : Sp} (F : FunA K x qual st f fd) (S : FnScope N ps (defScope st)) (len : ∀ vs H Q E, sp vs H Q E → vs.length = ps.length)
    (hbody : ∀ (cdv : Value) (A : Around) (outer : List Env) (s : Shared) (H : Hp) (vs : List V) (Q : VK) (E : XK), Room k (A.deeper (PyProof.Rows.envOfC qual (defScope st) s.heap.objs.size f cdv)) → sp vs H Q E →
      ∃ t, PSs (cxOf CX0 P w K mg base N qual (defScope st) f cdv A outer s H E).nox (defBody st) t ∧ t { nx := fun _ H' => Q .non H', rt := Q } (L2.start N vs) H) : FnOk P w K mg base CX0 (k + 1) f fd ps sp := by
  obtain ⟨oc, od, dV, kV, doc, pm, an, cdv, ct, osl, rfl, lk, hcd⟩ := F.ex
  refine fn_of lk hcd S len fun A outer s H vs Q E hr hsp => ?_
  obtain ⟨t, h, q⟩ := hbody cdv A outer s H vs Q E hr hsp
  exact ⟨t, h.nox, q⟩
in #guard_msgs in universe u_z
theorem funA_mk {x qual : Str} {st : Stmt} {f : Addr} {oc : Value} {od an : Option Addr} {osl : Array (Option Value)} {dV kV doc pm cdv ct : Value} (l : K.lookup f = some ⟨oc, od, .func (PySem.W.fnOf x qual (defArgs st) (defBody st) (defScope st) dV kV doc pm an cdv ct), osl⟩)
    (c : PySem.W.codeIn K cdv qual = true) : FunA K x qual st f (PySem.W.fnOf x qual (defArgs st) (defBody st) (defScope st) dV kV doc pm an cdv ct) := ⟨⟨oc, od, dV, kV, doc, pm, an, cdv, ct, osl, rfl, l, c⟩⟩
end
end My
theorem My.Rt.le {a b : Nat} {n d : Int} (h : My.Rt a n d) (ab : a ≤ b) : My.Rt b n d := ⟨h.pos, h.cop, h.bn.le ab, h.bd.le ab⟩
namespace My
open PySem L2
/-! ratios as rational numbers -/
theorem ndd (q : Rat) : (q.num : Rat) / ((q.den : Int) : Rat) = q := by
  have h := Rat.num_divInt_den q
  rw [Rat.divInt_eq_div] at h
  exact h
theorem icz {d : Int} (h : d ≠ 0) : (d : Rat) ≠ 0 := fun q => h (by exact_mod_cast q)
theorem denI (q : Rat) : (q.den : Int) ≠ 0 := by
  have := q.den_pos
  omega
theorem denP (q : Rat) : 0 < (q.den : Int) := by
  have := q.den_pos
  omega
theorem num_of {n d : Int} {q : Rat} (hd : 0 < d) (c : Nat.gcd n.natAbs d.natAbs = 1) (e : (n : Rat) / (d : Rat) = q) : n = q.num ∧ d = (q.den : Int) := by
  have h1 := ndd q
  have h3 := icz (denI q)
  have h4 : (d : Rat) ≠ 0 := icz (by omega)
  refine red_uniq hd (denP q) c q.reduced ?_
  generalize (q.den : Int) = dd at *
  have h5 : (n : Rat) * (dd : Rat) = (q.num : Rat) * (d : Rat) := by grind
  exact_mod_cast h5
theorem red_q {t b n d : Int} (hb : b ≠ 0) (r : Red t b n d) : n = ((t : Rat) / b).num ∧ d = (((t : Rat) / b).den : Int) := by
  refine num_of r.pos r.cop ?_
  have h1 := icz hb
  have h2 := icz (Int.ne_of_gt r.pos)
  have h3 : (n : Rat) * (b : Rat) = (t : Rat) * d := by exact_mod_cast r.eq
  grind
theorem add_g {a b c d : Int} (hb : b ≠ 0) (hd : d ≠ 0) : ((a * d + c * b : Int) : Rat) / ((b * d : Int) : Rat) = (a : Rat) / b + (c : Rat) / d := by
  have h1 := icz hb
  have h2 := icz hd
  rw [Rat.intCast_add, Rat.intCast_mul, Rat.intCast_mul, Rat.intCast_mul]
  grind
theorem sub_g {a b c d : Int} (hb : b ≠ 0) (hd : d ≠ 0) : ((a * d - c * b : Int) : Rat) / ((b * d : Int) : Rat) = (a : Rat) / b - (c : Rat) / d := by
  have h1 := icz hb
  have h2 := icz hd
  rw [Rat.intCast_sub, Rat.intCast_mul, Rat.intCast_mul, Rat.intCast_mul]
  grind
theorem mul_g {a b c d : Int} (hb : b ≠ 0) (hd : d ≠ 0) : ((a * c : Int) : Rat) / ((b * d : Int) : Rat) = (a : Rat) / b * ((c : Rat) / d) := by
  have h1 := icz hb
  have h2 := icz hd
  rw [Rat.intCast_mul, Rat.intCast_mul]
  grind
theorem div_g {a b c d : Int} (hb : b ≠ 0) (hc : c ≠ 0) (hd : d ≠ 0) : ((a * d : Int) : Rat) / ((b * c : Int) : Rat) = (a : Rat) / b / ((c : Rat) / d) := by
  have h1 := icz hb
  have h2 := icz hd
  have h3 := icz hc
  rw [Rat.intCast_mul, Rat.intCast_mul]
  grind
theorem add_q (p q : Rat) : ((p.num * (q.den : Int) + q.num * (p.den : Int) : Int) : Rat) / (((p.den : Int) * (q.den : Int) : Int) : Rat) = p + q := by
  rw [add_g (denI p) (denI q), ndd, ndd]
theorem sub_q (p q : Rat) : ((p.num * (q.den : Int) - q.num * (p.den : Int) : Int) : Rat) / (((p.den : Int) * (q.den : Int) : Int) : Rat) = p - q := by
  rw [sub_g (denI p) (denI q), ndd, ndd]
theorem mul_q (p q : Rat) : ((p.num * q.num : Int) : Rat) / (((p.den : Int) * (q.den : Int) : Int) : Rat) = p * q := by
  rw [mul_g (denI p) (denI q), ndd, ndd]
theorem numz {q : Rat} (h : q ≠ 0) : q.num ≠ 0 := fun e => h (Rat.num_eq_zero.1 e)
theorem div_q (p q : Rat) (h : q ≠ 0) : ((p.num * (q.den : Int) : Int) : Rat) / (((p.den : Int) * q.num : Int) : Rat) = p / q := by
  rw [div_g (denI p) (numz h) (denI q), ndd, ndd]
/-- both parts of k bits -/
structure BQ (k : Nat) (q : Rat) : Prop where
  n : B k q.num
  d : B k (q.den : Int)
theorem BQ.le {a b : Nat} {q : Rat} (h : BQ a q) (ab : a ≤ b) : BQ b q := ⟨h.n.le ab, h.d.le ab⟩
theorem BQ.dv {k : Nat} {t b : Int} (hb : b ≠ 0) (h1 : B k t) (h2 : B k b) : BQ k ((t : Rat) / b) := by
  have r : ∃ n d, Red t b n d := by
    rcases Int.lt_or_gt_of_ne hb with h | h
    · exact ⟨_, _, red_of hb (fun q => absurd q (by omega)) (fun _ => rfl)⟩
    · exact ⟨_, _, red_of hb (fun _ => rfl) (fun q => absurd q (by omega))⟩
  obtain ⟨n, d, r⟩ := r
  obtain ⟨e1, e2⟩ := red_q hb r
  refine ⟨?_, ?_⟩
  · rw [← e1]; exact B.redn r h1
  · rw [← e2]; exact B.redd r h2
theorem mul0 {a b : Int} (ha : a ≠ 0) (hb : b ≠ 0) : a * b ≠ 0 := fun h => by
  rcases Int.mul_eq_zero.1 h with q | q
  · exact ha q
  · exact hb q
theorem BQ.sub {a b : Nat} {p q : Rat} (hp : BQ a p) (hq : BQ b q) : BQ (a + b + 1) (p - q) := by
  rw [← sub_q p q]
  exact BQ.dv (mul0 (denI p) (denI q)) ((B.sub (B.mul hp.n hq.d) (B.mul hq.n hp.d)).le (by omega)) ((B.mul hp.d hq.d).le (by omega))
theorem BQ.neg {a : Nat} {p : Rat} (hp : BQ a p) : BQ a (-p) := by
  refine ⟨?_, ?_⟩
  · rw [Rat.neg_num]; exact hp.n.neg
  · rw [Rat.neg_den]; exact hp.d
theorem num_inj {p q : Rat} (h1 : p.num = q.num) (h2 : (p.den : Int) = (q.den : Int)) : p = q := by
  have e1 := ndd p
  have e2 := ndd q
  rw [← e1, ← e2, h1, h2]
theorem num_neg {q : Rat} : q.num < 0 ↔ q < 0 := by
  have h1 := @Rat.num_nonneg q
  have h2 := @Rat.num_eq_zero q
  grind
theorem eqv_Q (p q : Rat) : PyData.eqv (.tuple [.int p.num, .int (p.den : Int)]) (.tuple [.int q.num, .int (q.den : Int)]) = decide (p = q) := by
  rw [eqv_T, eqv_C, eqv_C, eqv_N, eqv_I, eqv_I]
  by_cases h : p = q
  · subst h
    simp
  · rw [decide_eq_false h]
    rw [Bool.eq_false_iff]
    intro z
    simp at z
    exact h (num_inj z.1 (by have := z.2; omega))
end My
namespace My
open PySem L2
theorem numI (z : Int) : (z : Rat).num = z := by simp
theorem denII (z : Int) : (((z : Rat).den : Nat) : Int) = 1 := by simp
theorem SqT.ofInt {K : PySem.W.Frag} {H : Hp} {p : Addr} {z : Int} (h : SqT K H p [.int z, .int 1]) : SqT K H p [.int (z : Rat).num, .int ((z : Rat).den : Int)] := by
  rw [numI, denII]
  exact h
theorem BQ.ofInt {k : Nat} {z : Int} (h : B k z) (hk : 1 ≤ k) : BQ k (z : Rat) := ⟨by rw [numI]; exact h, by rw [denII]; exact (B.lit (k := 1) (by decide)).le hk⟩
theorem gcdQ (q : Rat) : Nat.gcd q.num.natAbs (q.den : Int).natAbs = 1 := q.reduced
end My
namespace My
open PySem L2
end My
namespace My
/-- r lies strictly between p and q -/
def SB (p0 p1 p2 q0 q1 q2 r0 r1 r2 : Rat) : Prop := ¬ (q0 - p0 = 0 ∧ q1 - p1 = 0 ∧ q2 - p2 = 0) ∧ ∃ t : Rat, 0 < t ∧ t < 1 ∧ r0 = p0 + t * (q0 - p0) ∧ r1 = p1 + t * (q1 - p1) ∧ r2 = p2 + t * (q2 - p2)
end My
namespace My
open PySem L2
set_option Elab.async true in
theorem SB.i0 {p0 p1 p2 q0 q1 q2 r0 r1 r2 : Rat} (h : q0 - p0 ≠ 0) : SB p0 p1 p2 q0 q1 q2 r0 r1 r2 ↔ (0 < (r0 - p0) / (q0 - p0) ∧ (r0 - p0) / (q0 - p0) < 1 ∧ (p0 + (r0 - p0) / (q0 - p0) * (q0 - p0) = r0 ∧ p1 + (r0 - p0) / (q0 - p0) * (q1 - p1) = r1 ∧ p2 + (r0 - p0) / (q0 - p0) * (q2 - p2) = r2)) := by
  constructor
  · rintro ⟨_, t, h0, h1, e0, e1, e2⟩
    have et : (r0 - p0) / (q0 - p0) = t := by grind
    rw [et]
    exact ⟨h0, h1, e0.symm, e1.symm, e2.symm⟩
  · rintro ⟨h0, h1, e0, e1, e2⟩
    exact ⟨fun z => h z.1, _, h0, h1, e0.symm, e1.symm, e2.symm⟩
in #guard_msgs in universe u_z
set_option Elab.async true in
theorem SB.i1 {p0 p1 p2 q0 q1 q2 r0 r1 r2 : Rat} (h : q1 - p1 ≠ 0) : SB p0 p1 p2 q0 q1 q2 r0 r1 r2 ↔ (0 < (r1 - p1) / (q1 - p1) ∧ (r1 - p1) / (q1 - p1) < 1 ∧ (p0 + (r1 - p1) / (q1 - p1) * (q0 - p0) = r0 ∧ p1 + (r1 - p1) / (q1 - p1) * (q1 - p1) = r1 ∧ p2 + (r1 - p1) / (q1 - p1) * (q2 - p2) = r2)) := by
  constructor
  · rintro ⟨_, t, h0, h1, e0, e1, e2⟩
    have et : (r1 - p1) / (q1 - p1) = t := by grind
    rw [et]
    exact ⟨h0, h1, e0.symm, e1.symm, e2.symm⟩
  · rintro ⟨h0, h1, e0, e1, e2⟩
    exact ⟨fun z => h z.2.1, _, h0, h1, e0.symm, e1.symm, e2.symm⟩
in #guard_msgs in universe u_z
set_option Elab.async true in
theorem SB.i2 {p0 p1 p2 q0 q1 q2 r0 r1 r2 : Rat} (h : q2 - p2 ≠ 0) : SB p0 p1 p2 q0 q1 q2 r0 r1 r2 ↔ (0 < (r2 - p2) / (q2 - p2) ∧ (r2 - p2) / (q2 - p2) < 1 ∧ (p0 + (r2 - p2) / (q2 - p2) * (q0 - p0) = r0 ∧ p1 + (r2 - p2) / (q2 - p2) * (q1 - p1) = r1 ∧ p2 + (r2 - p2) / (q2 - p2) * (q2 - p2) = r2)) := by
  constructor
  · rintro ⟨_, t, h0, h1, e0, e1, e2⟩
    have et : (r2 - p2) / (q2 - p2) = t := by grind
    rw [et]
    exact ⟨h0, h1, e0.symm, e1.symm, e2.symm⟩
  · rintro ⟨h0, h1, e0, e1, e2⟩
    exact ⟨fun z => h z.2.2, _, h0, h1, e0.symm, e1.symm, e2.symm⟩
in #guard_msgs in universe u_z
theorem eqv_V (a b c x y z : Rat) : PyData.eqv (.tuple [.tuple [.int a.num, .int (a.den : Int)], .tuple [.int b.num, .int (b.den : Int)], .tuple [.int c.num, .int (c.den : Int)]]) (.tuple [.tuple [.int x.num, .int (x.den : Int)], .tuple [.int y.num, .int (y.den : Int)], .tuple [.int z.num, .int (z.den : Int)]]) = decide (a = x ∧ b = y ∧ c = z) := by
  rw [eqv_T, eqv_C, eqv_C, eqv_C, eqv_N, eqv_Q, eqv_Q, eqv_Q]
  simp [Bool.decide_and]
end My
namespace My
open PySem L2
section
variable {K : PySem.W.Frag} {σ : L2.St} {H : Hp} {te : TE}
theorem r_lcQ2 {Da : Addr} {G : Hp → Prop} {J : Nat → List V → Hp → Prop} {i : Nat} {y : V} {H2 : Hp} {acc : List V} (hi : i < 100000) (ha : acc.length = i) (hDa : H2 Da = some (.lst acc)) (g : G (upd H2 Da (.lst (acc ++ [y])))) (q : J (i + 1) (acc ++ [y]) (upd H2 Da (.lst (acc ++ [y])))) : lcQ Da G J i y H2 :=
  ⟨acc, hDa, Nat.lt_of_lt_of_le (m := 100000) (by omega) (by decide), acc ++ [y], by simp [ha], upd_same, g, q⟩
/-- lists that stand apart from the one that is made -/
def LsA (Da : Addr) (rows : List (List V)) (acc : List V) (H : Hp) : Prop := ∃ ls : List Addr, acc = ls.map V.ref ∧ Paired (fun l row => l ≠ Da ∧ H l = some (.lst row)) ls rows
end
set_option Elab.async true in
/-- the line of three points: by four determinants, by three products -/
theorem line_iff {p0 p1 p2 q0 q1 q2 r0 r1 r2 : Rat} :
    (p0 * (q1 * r2 - q2 * r1) + p1 * (q2 * r0 - q0 * r2) + p2 * (q0 * r1 - q1 * r0) = 0 ∧ p0 * (q1 - r1) + p1 * (r0 - q0) + (q0 * r1 - q1 * r0) = 0 ∧ p0 * (q2 - r2) + p2 * (r0 - q0) + (q0 * r2 - q2 * r0) = 0 ∧ p1 * (q2 - r2) + p2 * (r1 - q1) + (q1 * r2 - q2 * r1) = 0) ↔
    ((q1 - p1) * (r2 - p2) - (q2 - p2) * (r1 - p1) = 0 ∧ (q2 - p2) * (r0 - p0) - (q0 - p0) * (r2 - p2) = 0 ∧ (q0 - p0) * (r1 - p1) - (q1 - p1) * (r0 - p0) = 0) := by
  constructor
  · rintro ⟨h0, h1, h2, h3⟩
    refine ⟨by grind, by grind, by grind⟩
  · rintro ⟨h0, h1, h2⟩
    refine ⟨by grind, by grind, by grind, by grind⟩
in #guard_msgs in universe u_z
end My
namespace My
open PySem L2
theorem numq (q : Rat) : (q.num : Rat) = q * ((q.den : Int) : Rat) := by
  have h := ndd q
  have h2 := icz (denI q)
  generalize (q.den : Int) = d at *
  grind
end My
namespace My
open PySem L2
/-- r lies between p and q on one axis, or all three are equal there -/
def Ag (p r q : Rat) : Prop := (p < r ∧ r < q) ∨ (r < p ∧ q < r) ∨ (p = r ∧ r = q)
end My
namespace My
open PySem L2
section
variable {K : PySem.W.Frag} {H H0 : Hp} {s l : Addr} {xs ys : List V} {y v : V}
set_option Elab.async true in
/-- as r_setM, with what was there just ahead of the change -/
theorem r_setK {Q : Hp → Prop} {k : Int} {j : Nat} (nl : H0 l = none) (st0 : St K H0 s) (e : Fr s H0 H) (st : St K H s) (h : H l = some (.lst xs)) (ix : ixN xs.length k = some j) (ey : xs.set j v = ys)
    (q : ∀ H1, Fr s H0 H1 → St K H1 s → H1 l = some (.lst ys) → (∀ a zs, SqT K H a zs → SqT K H1 a zs) → Q H1) : rSetL (.ref l) (.int k) v H Q :=
  r_setL h ix ey (q _ (Fr.mut e nl st0.some) (St.mut st0 e st nl) upd_same (fun a zs ha => by
    have up : ∀ o : HO, H a = some o → o ≠ .lst xs → (L2.upd H l (.lst ys)) a = some o := fun o ho n => by
      have hn : a ≠ l := fun q => by
        rw [q, h] at ho
        cases ho
        exact n rfl
      simp [L2.upd, hn, ho]
    rcases ha with (ha | ⟨o, ha⟩) | ha
    · exact .inl (.inl (up _ ha (by simp)))
    · exact .inl (.inr ⟨o, up _ ha (by simp)⟩)
    · exact .inr ha))
in #guard_msgs in universe u_z
end
end My
namespace My
end My
namespace My
open PySem L2
section
variable {X : Cx} {K : PySem.W.Frag} {σ : L2.St} {H : Hp} {Q : VK} {te : TE}
def rMaxL (K : PySem.W.Frag) : List V → Hp → VK → Prop := fun vs H Q => ∃ (a : Addr) (ns : List Int), vs = [V.ref a] ∧ SqL K H a (ns.map V.int) ∧ 0 < ns.length ∧ ∀ m, m ∈ ns → (∀ y, y ∈ ns → y ≤ m) → Q (.int m) H
theorem qt {c : Addr} {a b : Int} {q : Rat} (h : SqT K H c [.int a, .int b]) (e1 : q.num = a) (e2 : (q.den : Int) = b) : SqT K H c [.int q.num, .int (q.den : Int)] := by
  rw [e1, e2]
  exact h
set_option Elab.async true in
theorem lc_tupH {a : Addr} {xs : List V} {j : Nat} {vs : List Nat} {Da : Addr} {Qd : Hp → Prop} (G : Hp → Prop) (J : Nat → List V → Hp → Prop) (h0 : G (upd H Da (.lst []))) (hj : J 0 [] (upd H Da (.lst [])))
    (hl : ∀ H1 acc, H1 Da = some (.lst acc) → G H1 → SqT K H1 a xs) (hw : ∀ x, wipe ((wipe σ vs).set j (some x)) vs = wipe σ vs)
    (hs : ∀ i x acc H1, xs[i]? = some x → acc.length = i → H1 Da = some (.lst acc) → G H1 → J i acc H1 → te ((wipe σ vs).set j (some x)) H1 fun y H2 => lcQ Da G J i y H2)
    (hd : ∀ acc H1, acc.length = xs.length → H1 Da = some (.lst acc) → G H1 → J xs.length acc H1 → Qd H1) : lcT (Itt K a) (gName j) tYes te vs σ H Da Qd := by
  have z := lc_tup (K := K) (a := a) (xs := xs) (g := gName j) (tt := tYes) (te := te) (vs := vs) (σ := σ) (H1 := H) (D := Da) (Qd := Qd) (lcPv Da G J)
    ⟨[], rfl, upd_same, h0, hj⟩ (by
    rintro i H1 hi ⟨acc, ha, hDa, s1, p⟩
    exact hl H1 acc hDa s1) (by
    rintro i x H1 hi ⟨acc, ha, hDa, s1, p⟩
    exact ⟨hw _, hs i x acc H1 hi ha hDa s1 p⟩) (by
    rintro H1 ⟨acc, ha, hDa, s1, p⟩
    exact hd acc H1 ha hDa s1 p)
  exact z
in #guard_msgs in universe u_z
end
end My
namespace My
open PySem L2
/-! vectors and moves over rational numbers -/
structure V3 where
  x : Rat
  y : Rat
  z : Rat
structure M3 where
  a : V3
  b : V3
  c : V3
  s : V3
def dt (p q : V3) : Rat := p.x * q.x + p.y * q.y + p.z * q.z
def va (p q : V3) : V3 := ⟨p.x + q.x, p.y + q.y, p.z + q.z⟩
def sc (t : Rat) (p : V3) : V3 := ⟨t * p.x, t * p.y, t * p.z⟩
def cr (p q : V3) : V3 := ⟨p.y * q.z - p.z * q.y, p.z * q.x - p.x * q.z, p.x * q.y - p.y * q.x⟩
def mvec (A : M3) (p : V3) : V3 := ⟨dt A.a p, dt A.b p, dt A.c p⟩
def app (A : M3) (p : V3) : V3 := va (mvec A p) A.s
def rowx (r : V3) (A : M3) : V3 := va (va (sc r.x A.a) (sc r.y A.b)) (sc r.z A.c)
/-- A first, then B -/
def comb (A B : M3) : M3 := ⟨rowx B.a A, rowx B.b A, rowx B.c A, app B A.s⟩
def det3 (A : M3) : Rat := dt A.a (cr A.b A.c)
def e0 : V3 := ⟨1, 0, 0⟩
def e1 : V3 := ⟨0, 1, 0⟩
def e2 : V3 := ⟨0, 0, 1⟩
def o3 : V3 := ⟨0, 0, 0⟩
def still : M3 := ⟨e0, e1, e2, o3⟩
/-- the inverse: cofactors over the determinant -/
def minv (A : M3) : M3 :=
  ⟨⟨(cr A.b A.c).x / det3 A, (cr A.c A.a).x / det3 A, (cr A.a A.b).x / det3 A⟩,
   ⟨(cr A.b A.c).y / det3 A, (cr A.c A.a).y / det3 A, (cr A.a A.b).y / det3 A⟩,
   ⟨(cr A.b A.c).z / det3 A, (cr A.c A.a).z / det3 A, (cr A.a A.b).z / det3 A⟩,
   ⟨-((cr A.b A.c).x * A.s.x + (cr A.c A.a).x * A.s.y + (cr A.a A.b).x * A.s.z) / det3 A,
    -((cr A.b A.c).y * A.s.x + (cr A.c A.a).y * A.s.y + (cr A.a A.b).y * A.s.z) / det3 A,
    -((cr A.b A.c).z * A.s.x + (cr A.c A.a).z * A.s.y + (cr A.a A.b).z * A.s.z) / det3 A⟩⟩
theorem V3.ext' {p q : V3} (h1 : p.x = q.x) (h2 : p.y = q.y) (h3 : p.z = q.z) : p = q := by
  cases p
  cases q
  simp only at h1 h2 h3
  rw [h1, h2, h3]
theorem M3.ext' {A B : M3} (h1 : A.a = B.a) (h2 : A.b = B.b) (h3 : A.c = B.c) (h4 : A.s = B.s) : A = B := by
  cases A
  cases B
  simp only at h1 h2 h3 h4
  rw [h1, h2, h3, h4]
theorem rowx_rowx (r : V3) (A B : M3) : rowx (rowx r B) A = rowx r (comb A B) := by
  apply V3.ext' <;> simp only [rowx, comb, va, sc, app, mvec, dt] <;> grind
theorem mvec_comb (A B : M3) (p : V3) : mvec (comb A B) p = mvec B (mvec A p) := by
  apply V3.ext' <;> simp only [mvec, comb, rowx, va, sc, dt] <;> grind
theorem mvec_va (A : M3) (p q : V3) : mvec A (va p q) = va (mvec A p) (mvec A q) := by
  apply V3.ext' <;> simp only [mvec, va, dt] <;> grind
theorem va_assoc (p q r : V3) : va (va p q) r = va p (va q r) := by
  apply V3.ext' <;> simp only [va] <;> grind
theorem app_comb (A B : M3) (p : V3) : app (comb A B) p = app B (app A p) := by
  show va (mvec (comb A B) p) (app B A.s) = va (mvec B (va (mvec A p) A.s)) B.s
  rw [mvec_comb, mvec_va, va_assoc]
  rfl
theorem comb_assoc (A B C : M3) : comb (comb A B) C = comb A (comb B C) := by
  refine M3.ext' ?_ ?_ ?_ ?_
  · exact (rowx_rowx C.a A B).symm
  · exact (rowx_rowx C.b A B).symm
  · exact (rowx_rowx C.c A B).symm
  · exact (app_comb B C A.s).symm
theorem comb_still (A : M3) : comb A still = A := by
  refine M3.ext' ?_ ?_ ?_ ?_ <;> apply V3.ext' <;> simp only [comb, still, rowx, va, sc, app, mvec, dt, e0, e1, e2, o3] <;> grind
theorem still_comb (A : M3) : comb still A = A := by
  refine M3.ext' ?_ ?_ ?_ ?_ <;> apply V3.ext' <;> simp only [comb, still, rowx, va, sc, app, mvec, dt, e0, e1, e2, o3] <;> grind
theorem app_still (p : V3) : app still p = p := by
  apply V3.ext' <;> simp only [still, app, mvec, va, dt, e0, e1, e2, o3] <;> grind
theorem comb_minv {A : M3} (h : det3 A ≠ 0) : comb A (minv A) = still := by
  have hd : det3 A = dt A.a (cr A.b A.c) := rfl
  refine M3.ext' ?_ ?_ ?_ ?_ <;> apply V3.ext' <;> simp only [comb, minv, still, rowx, va, sc, app, mvec, dt, e0, e1, e2, o3] <;> generalize det3 A = D at * <;> simp only [dt, cr] at * <;> grind
theorem minv_comb {A : M3} (h : det3 A ≠ 0) : comb (minv A) A = still := by
  have hd : det3 A = dt A.a (cr A.b A.c) := rfl
  refine M3.ext' ?_ ?_ ?_ ?_ <;> apply V3.ext' <;> simp only [comb, minv, still, rowx, va, sc, app, mvec, dt, e0, e1, e2, o3] <;> generalize det3 A = D at * <;> simp only [dt, cr] at * <;> grind
theorem det_comb (A B : M3) : det3 (comb A B) = det3 A * det3 B := by
  simp only [det3, comb, rowx, va, sc, dt, cr]
  grind
theorem det_still : det3 still = 1 := by
  simp only [det3, still, dt, cr, e0, e1, e2]
  grind
end My
namespace My
open PySem L2
/-! bits of the two parts apart -/
structure BN (n d : Nat) (q : Rat) : Prop where
  n : B n q.num
  d : B d (q.den : Int)
theorem BN.le {n d n' d' : Nat} {q : Rat} (h : BN n d q) (h1 : n ≤ n') (h2 : d ≤ d') : BN n' d' q := ⟨h.n.le h1, h.d.le h2⟩
theorem BN.bq {k : Nat} {q : Rat} (h : BQ k q) : BN k k q := ⟨h.n, h.d⟩
theorem BN.dv {n d : Nat} {t b : Int} (hb : b ≠ 0) (h1 : B n t) (h2 : B d b) : BN n d ((t : Rat) / b) := by
  have r : ∃ n d, Red t b n d := by
    rcases Int.lt_or_gt_of_ne hb with h | h
    · exact ⟨_, _, red_of hb (fun q => absurd q (by omega)) (fun _ => rfl)⟩
    · exact ⟨_, _, red_of hb (fun _ => rfl) (fun q => absurd q (by omega))⟩
  obtain ⟨n, d, r⟩ := r
  obtain ⟨e1, e2⟩ := red_q hb r
  refine ⟨?_, ?_⟩
  · rw [← e1]; exact B.redn r h1
  · rw [← e2]; exact B.redd r h2
theorem BN.add {n d n' d' : Nat} {p q : Rat} (hp : BN n d p) (hq : BN n' d' q) : BN (n + n' + d + d' + 1) (d + d') (p + q) := by
  rw [← add_q p q]
  exact BN.dv (mul0 (denI p) (denI q)) ((B.add (B.mul hp.n hq.d) (B.mul hq.n hp.d)).le (by omega)) ((B.mul hp.d hq.d).le (by omega))
theorem BN.sub {n d n' d' : Nat} {p q : Rat} (hp : BN n d p) (hq : BN n' d' q) : BN (n + n' + d + d' + 1) (d + d') (p - q) := by
  rw [← sub_q p q]
  exact BN.dv (mul0 (denI p) (denI q)) ((B.sub (B.mul hp.n hq.d) (B.mul hq.n hp.d)).le (by omega)) ((B.mul hp.d hq.d).le (by omega))
theorem BN.mul {n d n' d' : Nat} {p q : Rat} (hp : BN n d p) (hq : BN n' d' q) : BN (n + n') (d + d') (p * q) := by
  rw [← mul_q p q]
  exact BN.dv (mul0 (denI p) (denI q)) (B.mul hp.n hq.n) (B.mul hp.d hq.d)
theorem BN.neg {n d : Nat} {p : Rat} (hp : BN n d p) : BN n d (-p) := by
  refine ⟨?_, ?_⟩
  · rw [Rat.neg_num]; exact hp.n.neg
  · rw [Rat.neg_den]; exact hp.d
theorem BN.int {n : Nat} {z : Int} (h : B n z) : BN n 1 (z : Rat) := ⟨by rw [numI]; exact h, by rw [denII]; exact B.lit (k := 1) (by decide)⟩
structure VN (n d : Nat) (p : V3) : Prop where
  x : BN n d p.x
  y : BN n d p.y
  z : BN n d p.z
theorem VN.le {n d n' d' : Nat} {p : V3} (h : VN n d p) (h1 : n ≤ n') (h2 : d ≤ d') : VN n' d' p := ⟨h.x.le h1 h2, h.y.le h1 h2, h.z.le h1 h2⟩
structure MN (n d : Nat) (A : M3) : Prop where
  a : VN n d A.a
  b : VN n d A.b
  c : VN n d A.c
  s : VN n d A.s
theorem MN.le {n d n' d' : Nat} {A : M3} (h : MN n d A) (h1 : n ≤ n') (h2 : d ≤ d') : MN n' d' A := ⟨h.a.le h1 h2, h.b.le h1 h2, h.c.le h1 h2, h.s.le h1 h2⟩
theorem BN.dt {n d n' d' : Nat} {p q : V3} (hp : VN n d p) (hq : VN n' d' q) : BN (3 * (n + n') + 5 * (d + d') + 2) (3 * (d + d')) (dt p q) :=
  (BN.add (BN.add (BN.mul hp.x hq.x) (BN.mul hp.y hq.y)) (BN.mul hp.z hq.z)).le (by omega) (by omega)
theorem VN.va {n d n' d' : Nat} {p q : V3} (hp : VN n d p) (hq : VN n' d' q) : VN (n + n' + d + d' + 1) (d + d') (va p q) := ⟨hp.x.add hq.x, hp.y.add hq.y, hp.z.add hq.z⟩
theorem VN.sc {n d n' d' : Nat} {t : Rat} {q : V3} (ht : BN n d t) (hq : VN n' d' q) : VN (n + n') (d + d') (sc t q) := ⟨ht.mul hq.x, ht.mul hq.y, ht.mul hq.z⟩
theorem VN.cr {n d n' d' : Nat} {p q : V3} (hp : VN n d p) (hq : VN n' d' q) : VN (2 * (n + n') + 2 * (d + d') + 1) (2 * (d + d')) (cr p q) :=
  ⟨(BN.sub (BN.mul hp.y hq.z) (BN.mul hp.z hq.y)).le (by omega) (by omega), (BN.sub (BN.mul hp.z hq.x) (BN.mul hp.x hq.z)).le (by omega) (by omega), (BN.sub (BN.mul hp.x hq.y) (BN.mul hp.y hq.x)).le (by omega) (by omega)⟩
theorem VN.mvec {n d n' d' : Nat} {A : M3} {p : V3} (hA : MN n d A) (hp : VN n' d' p) : VN (3 * (n + n') + 5 * (d + d') + 2) (3 * (d + d')) (mvec A p) := ⟨BN.dt hA.a hp, BN.dt hA.b hp, BN.dt hA.c hp⟩
theorem VN.app {n d n' d' : Nat} {A : M3} {p : V3} (hA : MN n d A) (hp : VN n' d' p) : VN (4 * n + 3 * n' + 9 * d + 8 * d' + 3) (4 * d + 3 * d') (app A p) := (VN.va (VN.mvec hA hp) hA.s).le (by omega) (by omega)
theorem VN.rowx {n d n' d' : Nat} {r : V3} {A : M3} (hr : VN n' d' r) (hA : MN n d A) : VN (3 * (n + n') + 5 * (d + d') + 2) (3 * (d + d')) (rowx r A) :=
  (VN.va (VN.va (VN.sc hr.x hA.a) (VN.sc hr.y hA.b)) (VN.sc hr.z hA.c)).le (by omega) (by omega)
theorem MN.comb {n d n' d' : Nat} {A C : M3} (hA : MN n d A) (hC : MN n' d' C) : MN (3 * n + 4 * n' + 8 * d + 9 * d' + 3) (3 * d + 4 * d') (comb A C) :=
  ⟨(VN.rowx hC.a hA).le (by omega) (by omega), (VN.rowx hC.b hA).le (by omega) (by omega), (VN.rowx hC.c hA).le (by omega) (by omega), (VN.app hC hA.s).le (by omega) (by omega)⟩
/-! where they stand -/
section
variable {K : PySem.W.Frag} {H H' : Hp}
def Qt (K : PySem.W.Frag) (H : Hp) (a : Addr) (q : Rat) : Prop := SqT K H a [.int q.num, .int (q.den : Int)]
def Vc (K : PySem.W.Frag) (H : Hp) (v : Addr) (p : V3) : Prop := ∃ a b c : Addr, SqT K H v [.ref a, .ref b, .ref c] ∧ SqT K H a [.int p.x.num, .int (p.x.den : Int)] ∧ SqT K H b [.int p.y.num, .int (p.y.den : Int)] ∧ SqT K H c [.int p.z.num, .int (p.z.den : Int)]
def Rw (K : PySem.W.Frag) (H : Hp) (r : Addr) (p q s : V3) : Prop := ∃ a b c : Addr, SqT K H r [.ref a, .ref b, .ref c] ∧ Vc K H a p ∧ Vc K H b q ∧ Vc K H c s
def Mv (K : PySem.W.Frag) (H : Hp) (m : Addr) (A : M3) : Prop := ∃ r s : Addr, SqT K H m [.ref r, .ref s] ∧ Rw K H r A.a A.b A.c ∧ Vc K H s A.s
theorem Vc.tk {v : Addr} {p : V3} (t : TK K H H') (h : Vc K H v p) : Vc K H' v p := by
  obtain ⟨a, b, c, h1, h2, h3, h4⟩ := h
  exact ⟨a, b, c, t _ _ h1, t _ _ h2, t _ _ h3, t _ _ h4⟩
theorem Rw.tk {v : Addr} {p q s : V3} (t : TK K H H') (h : Rw K H v p q s) : Rw K H' v p q s := by
  obtain ⟨a, b, c, h1, h2, h3, h4⟩ := h
  exact ⟨a, b, c, t _ _ h1, h2.tk t, h3.tk t, h4.tk t⟩
theorem Mv.tk {v : Addr} {A : M3} (t : TK K H H') (h : Mv K H v A) : Mv K H' v A := by
  obtain ⟨a, b, h1, h2, h3⟩ := h
  exact ⟨a, b, t _ _ h1, h2.tk t, h3.tk t⟩
/-! as data -/
def qD (q : Rat) : PyData := .tuple [.int q.num, .int (q.den : Int)]
def vD (p : V3) : PyData := .tuple [qD p.x, qD p.y, qD p.z]
def mD (A : M3) : PyData := .tuple [.tuple [vD A.a, vD A.b, vD A.c], vD A.s]
theorem qt_dp {a : Addr} {q : Rat} (h : SqT K H a [.int q.num, .int (q.den : Int)]) : Dp K H (.ref a) (qD q) := .tup h (.cons (.int _) (.cons (.int _) .nil))
theorem Vc.dp {v : Addr} {p : V3} (h : Vc K H v p) : Dp K H (.ref v) (vD p) := by
  obtain ⟨a, b, c, h1, h2, h3, h4⟩ := h
  exact .tup h1 (.cons (qt_dp h2) (.cons (qt_dp h3) (.cons (qt_dp h4) .nil)))
theorem Mv.dp {v : Addr} {A : M3} (h : Mv K H v A) : Dp K H (.ref v) (mD A) := by
  obtain ⟨r, s, h1, ⟨a, b, c, h2, h3, h4, h5⟩, h6⟩ := h
  exact .tup h1 (.cons (.tup h2 (.cons h3.dp (.cons h4.dp (.cons h5.dp .nil)))) (.cons h6.dp .nil))
end
/-- ints and tuples alone, no deeper than n -/
def TI : Nat → PyData → Prop
  | 0, _ => False
  | n + 1, .int _ => True
  | n + 1, .tuple ds => ds.length ≤ 1000 ∧ ∀ d, d ∈ ds → TI n d
  | n + 1, .list ds => ds.length ≤ 1000 ∧ ∀ d, d ∈ ds → TI n d
  | _ + 1, _ => False
section
variable {K : PySem.W.Frag} {H : Hp} {Q : VK}
theorem DpAll.len {xs : List V} {ds : List PyData} (h : DpAll K H xs ds) : xs.length = ds.length := by
  match xs, ds, h with
  | [], [], _ => rfl
  | _ :: _, _ :: _, .cons _ t => exact congrArg (· + 1) (DpAll.len t)
theorem DpAll.get {xs : List V} {ds : List PyData} (h : DpAll K H xs ds) {i : Nat} {d : PyData} (e : ds[i]? = some d) : ∃ x, xs[i]? = some x ∧ Dp K H x d := by
  match xs, ds, h, i with
  | [], [], _, _ => simp at e
  | x :: _, _ :: _, .cons a t, 0 =>
    cases e
    exact ⟨x, rfl, a⟩
  | _ :: _, _ :: _, .cons _ t, i + 1 => exact DpAll.get t e
theorem atI_k {α : Type} {xs : List α} {i : Nat} {x : α} (h : xs[i]? = some x) : atI xs (0 + (i : Int)) = some x := by
  rw [Int.zero_add]
  exact atI_nat h
end
end My
namespace My
open PySem L2 PySem.Calls PyProof.Rows
/-! x is True, x is False -/
section
variable {M : Model} {A : Around} {E : Value → Shared → Prop} {s : Shared} {Q : Value → Shared → Prop}
theorem is_bool_gen {v : Value} {b : Bool} (hn : ∀ id, v ≠ .builtin id) (h : Q (.bool (v == .bool b)) s) : wpAny M A (compareOp .Is v (.bool b)) Q E s := by
  cases v <;> first | exact wpAny_pure h | exact absurd rfl (hn _)
end
def rIsB : R2 := fun x y H Q => ∃ b, y = .bl b ∧ Q (.bl (decide (x = .bl b))) H
theorem op_isB {X : Cx} : OpR X (compareOp .Is) rIsB := by
  intro pins s σ H x y v u Q I rx ry h
  obtain ⟨b, rfl, q⟩ := h
  cases ry
  refine is_bool_gen (fun id e => ?_) (fin_bl I q ?_)
  · subst e
    cases x <;> first
      | (cases rx; done)
      | (obtain ⟨t, z⟩ := rx; cases z; done)
  · cases x <;> first
      | (cases rx; rfl)
      | (cases rx; cases b <;> rename_i z <;> cases z <;> rfl)
      | (obtain ⟨t, rfl⟩ := rx; rfl)
/-! lcm of four -/
theorem l1 (m : Nat) : Nat.lcm 1 m = m := by simp [Nat.lcm]
def rLcm4 : List V → Hp → VK → Prop := fun xs H Q => ∃ (a b c d : Int) (k : Nat), xs = [.int a, .int b, .int c, .int d] ∧ 0 < a ∧ 0 < b ∧ 0 < c ∧ 0 < d ∧ B k a ∧ B k b ∧ B k c ∧ B k d ∧ k ≤ 3000 ∧
  ∀ L : Int, 0 < L → a ∣ L → b ∣ L → c ∣ L → d ∣ L → (∀ D : Int, a ∣ D → b ∣ D → c ∣ D → d ∣ D → L ∣ D) → Q (.int L) H
/-! chains of what stays -/
section
variable {K : PySem.W.Frag} {H H' H0 : Hp} {s l : Addr} {xs : List V} {y : V}
theorem tkap {a : Addr} {ys : List V} (t : TK K H H') (h : SqT K H a ys) : SqT K H' a ys := t _ _ h
theorem Vc.same {v : Addr} {p : V3} (e : Same H H') (h : Vc K H v p) : Vc K H' v p := h.tk (TK.same e)
theorem Vc.fr {v : Addr} {p : V3} (e : Fr s H H') (st : St K H s) (h : Vc K H v p) : Vc K H' v p := h.tk (TK.fr e st)
theorem Mv.same {v : Addr} {p : M3} (e : Same H H') (h : Mv K H v p) : Mv K H' v p := h.tk (TK.same e)
theorem Mv.fr {v : Addr} {p : M3} (e : Fr s H H') (st : St K H s) (h : Mv K H v p) : Mv K H' v p := h.tk (TK.fr e st)
theorem Rw.fr {v : Addr} {p q r : V3} (e : Fr s H H') (st : St K H s) (h : Rw K H v p q r) : Rw K H' v p q r := h.tk (TK.fr e st)
/-- an own list grows, what is younger stays too -/
theorem r_appK {Q : VK} (nl : H0 l = none) (e : Same H0 H) (h : H l = some (.lst xs)) (hz : xs.length < 100000)
    (q : ∀ H1, Same H0 H1 → TK K H H1 → H1 l = some (.lst (xs ++ [y])) → Q .non H1) : rAppend (.ref l) [y] H Q := r_app h hz (q _ (Same.mut e nl) (TK.upd h) upd_same)
end
end My
namespace My
open PySem L2
theorem Vc.mk {K : PySem.W.Frag} {H : Hp} {v a b c : Addr} {x y z : Rat} (h : SqT K H v [.ref a, .ref b, .ref c]) (h1 : SqT K H a [.int x.num, .int (x.den : Int)]) (h2 : SqT K H b [.int y.num, .int (y.den : Int)]) (h3 : SqT K H c [.int z.num, .int (z.den : Int)]) : Vc K H v ⟨x, y, z⟩ := ⟨a, b, c, h, h1, h2, h3⟩
theorem Rw.mk {K : PySem.W.Frag} {H : Hp} {v a b c : Addr} {x y z : V3} (h : SqT K H v [.ref a, .ref b, .ref c]) (h1 : Vc K H a x) (h2 : Vc K H b y) (h3 : Vc K H c z) : Rw K H v x y z := ⟨a, b, c, h, h1, h2, h3⟩
end My
namespace My
open PySem L2
section
variable {K : PySem.W.Frag} {H : Hp} {Q : VK}
theorem r_isNi {i : Int} (h : Q (.bl false) H) : rIsNo (.int i) .non H Q := ⟨rfl, h⟩
theorem r_isBi {i : Int} {b : Bool} (h : Q (.bl false) H) : rIsB (.int i) (.bl b) H Q := ⟨b, rfl, h⟩
theorem r_isBr {a : Addr} {b : Bool} (h : Q (.bl false) H) : rIsB (.ref a) (.bl b) H Q := ⟨b, rfl, h⟩
theorem r_lnT {a : Addr} {xs : List V} (h : SqT K H a xs) (q : Q (.int xs.length) H) : rLen K [.ref a] H Q := ⟨a, xs, rfl, .inr h, q⟩
end
end My
namespace My
open PySem L2
/-! an index into a tuple or a list; name op= e; range of two -/
section
variable {X : Cx} {K : PySem.W.Frag} {σ : L2.St} {H : Hp} {D : Ends} {te : TE} {u : TS} {Q : VK} {i : Nat} {x v : V} {ti : TIp}
def rIxA (K : PySem.W.Frag) : R2 := fun x y H Q => rIxT K x y H Q ∨ rIxL K x y H Q
theorem kx_any (h : X.K = K) : IxR X (rIxA K) := h ▸ IxR.or ix_tup ix_list
theorem r_ixAT {p : Addr} {xs : List V} {i : Int} (q : SqT K H p xs) (a : atI xs i = some v) (h : Q v H) : rIxA K (.ref p) (.int i) H Q := .inl (r_ixT q a h)
theorem r_ixAL {p : Addr} {xs : List V} {i : Int} (q : SqL K H p xs) (a : atI xs i = some v) (h : Q v H) : rIxA K (.ref p) (.int i) H Q := .inr (r_ixL q a h)
def iR2 (vs : List V) (H : Hp) (R : It → Hp → Prop) : Prop := ∃ i j : Int, vs = [.int i, .int j] ∧ (-(2 ^ 62) ≤ i ∧ i < 2 ^ 62 ∧ -(2 ^ 62) ≤ j ∧ j < 2 ^ 62) ∧ R (Itr i (j - i).toNat) H
end
/-- not the shape of a store -/
def notS : List V → Bool
  | [.ref _, .int _, .int _, .int _, .int _, .int _, .int _] => false
  | _ => true
theorem st_ne {K : PySem.W.Frag} {H : Hp} {s l : Addr} {xs : List V} (st : St K H s) (h : H l = some (.lst xs)) (hx : notS xs = true) : l ≠ s := by
  rintro rfl
  obtain ⟨l', ns, i1, i2, i3, i4, i5, i6, st⟩ := st
  rw [st.at_] at h
  cases h
  cases hx
theorem Fr.seqN {K : PySem.W.Frag} {H H' : Hp} {s a : Addr} {xs : List V} (e : Fr s H H') (st : St K H s) (h : SqL K H a xs) (hx : notS xs = true) : SqL K H' a xs := by
  obtain ⟨l, ns, i1, i2, i3, i4, i5, i6, st⟩ := st
  rcases h with (h | ⟨o, h⟩) | h
  · refine .inl (.inl (e.keep _ _ (fun q => ?_) h))
    rw [q, st.at_] at h
    cases h
    cases hx
  · refine .inl (.inr ⟨o, e.keep _ _ (fun q => ?_) h⟩)
    rw [q, st.at_] at h
    cases h
  · exact .inr h
theorem Fr.lstN {K : PySem.W.Frag} {H H' : Hp} {s a : Addr} {xs : List V} (e : Fr s H H') (st : St K H s) (h : H a = some (.lst xs)) (hx : notS xs = true) : H' a = some (.lst xs) := e.keep _ _ (st_ne st h hx) h
theorem notS_len {xs : List V} (h : (xs.length == 7) = false) : notS xs = true := by
  unfold notS
  split
  · cases h
  · rfl
/-! levels of light -/
structure Lv (u b : Rat) (z r : Int) : Prop where
  lo : 0 ≤ r
  hi : r ≤ z
  le : ((r * r : Int) : Rat) * u ≤ b
  gt : ∀ k : Int, r < k → k ≤ z → b < ((k * k : Int) : Rat) * u
def LvV (p q : V3) (z r : Int) : Prop := Lv (dt p p * dt q q) (((z * z : Int) : Rat) * (dt p q * dt p q)) z r
theorem dt_comm (p q : V3) : dt p q = dt q p := by
  simp only [dt]
  grind
theorem LvV.neg {p q : V3} {z r : Int} (h : LvV (sc ((-1 : Int) : Rat) p) q z r) : LvV p q z r := by
  unfold LvV at *
  rw [show ((-1 : Int) : Rat) = -1 by simp] at h
  have e1 : dt (sc (-1) p) (sc (-1) p) = dt p p := by
    simp only [dt, sc]
    grind
  have e2 : dt (sc (-1) p) q * dt (sc (-1) p) q = dt p q * dt p q := by
    simp only [dt, sc]
    grind
  rw [e1, e2] at h
  exact h
end My
namespace My
open PySem L2
section
variable {K : PySem.W.Frag} {σ : L2.St} {H H' : Hp} {te : TE}
/-- new tuples -/
def TsA (K : PySem.W.Frag) (rows : List (List V)) (acc : List V) (H : Hp) : Prop := Paired (fun v row => ∃ a, v = V.ref a ∧ SqT K H a row) acc rows
end
end My
namespace My
theorem rat_tri (a b : Rat) : a < b ∨ a = b ∨ b < a := by grind
end My
namespace My
/-! area vectors: sums of cross products along a closed walk -/
def vsb (p q : V3) : V3 := ⟨p.x - q.x, p.y - q.y, p.z - q.z⟩
def vneg (p : V3) : V3 := sc (-1) p
theorem va_comm (p q : V3) : va p q = va q p := by
  apply V3.ext' <;> simp only [va] <;> grind
theorem va_o (p : V3) : va p o3 = p := by
  apply V3.ext' <;> simp only [va, o3] <;> grind
theorem o_va (p : V3) : va o3 p = p := by
  apply V3.ext' <;> simp only [va, o3] <;> grind
theorem cr_self (p : V3) : cr p p = o3 := by
  apply V3.ext' <;> simp only [cr, o3] <;> grind
theorem cr_anti (p q : V3) : cr p q = sc (-1) (cr q p) := by
  apply V3.ext' <;> simp only [cr, sc] <;> grind
theorem sc_va (t : Rat) (p q : V3) : sc t (va p q) = va (sc t p) (sc t q) := by
  apply V3.ext' <;> simp only [va, sc] <;> grind
theorem sc_o (t : Rat) : sc t o3 = o3 := by
  apply V3.ext' <;> simp only [sc, o3] <;> grind
theorem va_neg (p : V3) : va p (sc (-1) p) = o3 := by
  apply V3.ext' <;> simp only [va, sc, o3] <;> grind
/-- the walk from a along the list -/
def path : V3 → List V3 → V3
  | _, [] => o3
  | a, b :: r => va (cr a b) (path b r)
def cyc : List V3 → V3
  | [] => o3
  | a :: r => path a (r ++ [a])
theorem path_mid (a b : V3) (xs ys : List V3) : path a (xs ++ b :: ys) = va (path a (xs ++ [b])) (path b ys) := by
  induction xs generalizing a with
  | nil =>
    show va (cr a b) (path b ys) = va (va (cr a b) o3) (path b ys)
    rw [va_o]
  | cons c r ih =>
    show va (cr a c) (path c (r ++ b :: ys)) = va (va (cr a c) (path c (r ++ [b]))) (path b ys)
    rw [ih, va_assoc]
theorem cyc_rot (xs ys : List V3) : cyc (ys ++ xs) = cyc (xs ++ ys) := by
  cases xs with
  | nil => simp
  | cons a r =>
    cases ys with
    | nil => simp
    | cons b q =>
      show path b ((q ++ a :: r) ++ [b]) = path a ((r ++ b :: q) ++ [a])
      rw [List.append_assoc, List.append_assoc, List.cons_append, List.cons_append, path_mid b a q (r ++ [b]), path_mid a b r (q ++ [a]), va_comm]
theorem path_rev (a b : V3) (xs : List V3) : path b (xs.reverse ++ [a]) = sc (-1) (path a (xs ++ [b])) := by
  induction xs generalizing a with
  | nil =>
    show va (cr b a) o3 = sc (-1) (va (cr a b) o3)
    rw [va_o, va_o, cr_anti]
  | cons c r ih =>
    rw [List.reverse_cons, List.append_assoc]
    show path b (r.reverse ++ c :: [a]) = sc (-1) (va (cr a c) (path c (r ++ [b])))
    rw [path_mid, ih, sc_va]
    show va _ (va (cr c a) o3) = _
    rw [va_o, cr_anti c a, va_comm]
theorem cyc_rev (xs : List V3) : cyc xs.reverse = sc (-1) (cyc xs) := by
  cases xs with
  | nil => exact (sc_o _).symm
  | cons a r =>
    rw [List.reverse_cons, cyc_rot]
    exact path_rev a a r
set_option Elab.async true in
theorem path_tr (a b v : V3) (xs : List V3) : path (va a v) (xs.map (va · v) ++ [va b v]) = va (path a (xs ++ [b])) (cr v (vsb b a)) := by
  induction xs generalizing a with
  | nil =>
    show va (cr (va a v) (va b v)) o3 = va (va (cr a b) o3) (cr v (vsb b a))
    apply V3.ext' <;> simp only [va, cr, o3, vsb] <;> grind
  | cons c r ih =>
    show va (cr (va a v) (va c v)) (path (va c v) (r.map (va · v) ++ [va b v])) = va (va (cr a c) (path c (r ++ [b]))) (cr v (vsb b a))
    rw [ih]
    generalize path c (r ++ [b]) = w
    apply V3.ext' <;> simp only [va, cr, vsb] <;> grind
in #guard_msgs in universe u_z
theorem cyc_tr (v : V3) (xs : List V3) : cyc (xs.map (va · v)) = cyc xs := by
  cases xs with
  | nil => rfl
  | cons a r =>
    show path (va a v) (r.map (va · v) ++ [va a v]) = path a (r ++ [a])
    rw [path_tr]
    generalize path a (r ++ [a]) = w
    apply V3.ext' <;> simp only [va, cr, vsb] <;> grind
set_option Elab.async true in
theorem cyc_rep (xs : List V3) (n : Nat) : cyc (List.replicate n xs).flatten = sc (n : Rat) (cyc xs) := by
  cases xs with
  | nil =>
    have e : (List.replicate n ([] : List V3)).flatten = [] := by induction n with
      | zero => rfl
      | succ n ih => rw [List.replicate_succ, List.flatten_cons, ih]; rfl
    rw [e]
    exact (sc_o _).symm
  | cons a r =>
    cases n with
    | zero =>
      show o3 = _
      apply V3.ext' <;> simp only [sc, o3] <;> grind
    | succ n =>
      rw [List.replicate_succ, List.flatten_cons]
      show path a ((r ++ (List.replicate n (a :: r)).flatten) ++ [a]) = sc _ (path a (r ++ [a]))
      induction n with
      | zero =>
        show path a ((r ++ []) ++ [a]) = sc ((0 + 1 : Nat) : Rat) (path a (r ++ [a]))
        rw [List.append_nil]
        apply V3.ext' <;> simp only [sc] <;> grind
      | succ n ih =>
        rw [List.replicate_succ, List.flatten_cons, List.cons_append, List.append_assoc, List.cons_append, path_mid]
        rw [ih]
        generalize path a (r ++ [a]) = w
        apply V3.ext' <;> simp only [sc, va] <;> (rw [Rat.natCast_add (n + 1) 1]; grind)
in #guard_msgs in universe u_z
/-- pair by pair -/
def zsum : List V3 → List V3 → V3
  | a :: as, b :: bs => va (cr a b) (zsum as bs)
  | _, _ => o3
/-- as a fan from the first corner -/
def fan (o : V3) : List V3 → V3
  | a :: b :: r => va (cr (vsb a o) (vsb b o)) (fan o (b :: r))
  | _ => o3
theorem fan_path (o a : V3) (r : List V3) : fan o (a :: r) = path (vsb a o) (r.map (vsb · o)) := by
  induction r generalizing a with
  | nil => rfl
  | cons b r ih =>
    show va (cr (vsb a o) (vsb b o)) (fan o (b :: r)) = va (cr (vsb a o) (vsb b o)) (path (vsb b o) (r.map (vsb · o)))
    rw [ih]
theorem path_o (a : V3) (r : List V3) : path a (r ++ [o3]) = path a r := by
  induction r generalizing a with
  | nil =>
    show va (cr a o3) o3 = o3
    apply V3.ext' <;> simp only [va, cr, o3] <;> grind
  | cons b r ih =>
    show va (cr a b) (path b (r ++ [o3])) = va (cr a b) (path b r)
    rw [ih]
/-- the area vector -/
def avec (ps : List V3) : V3 := sc (((1 : Int) : Rat) / ((2 : Int) : Rat)) (cyc ps)
end My
namespace My
open PySem L2 PyProof.Rows
/-! lists of vectors -/
section
variable {X : Cx} {K : PySem.W.Frag} {σ : L2.St} {H H' H0 : Hp} {D : Ends} {te ta tb : TE} {Q : VK} {acc acc2 : List V} {ps qs : List V3} {s l a b : Addr}
def VcL (K : PySem.W.Frag) (H : Hp) (acc : List V) (ps : List V3) : Prop := Paired (fun v p => ∃ a : Addr, v = V.ref a ∧ Vc K H a p) acc ps
theorem VcL.nil : VcL K H [] [] := Paired.nil
theorem VcL.tk (e : TK K H H') (h : VcL K H acc ps) : VcL K H' acc ps := Paired.mapP h fun v p ⟨a, e1, e2⟩ => ⟨a, e1, e2.tk e⟩
theorem VcL.len (h : VcL K H acc ps) : acc.length = ps.length := Paired.length h
theorem VcL.append (h : VcL K H acc ps) (h2 : VcL K H acc2 qs) : VcL K H (acc ++ acc2) (ps ++ qs) := by
  unfold VcL at *
  induction h with
  | nil => exact h2
  | cons r _ ih => exact .cons r ih
theorem VcL.one {p : V3} (h : Vc K H a p) : VcL K H [.ref a] [p] := .cons ⟨a, rfl, h⟩ .nil
theorem VcL.snoc {p : V3} (h : VcL K H acc ps) (q : Vc K H a p) : VcL K H (acc ++ [.ref a]) (ps ++ [p]) := h.append (VcL.one q)
theorem VcL.reverse (h : VcL K H acc ps) : VcL K H acc.reverse ps.reverse := by
  unfold VcL at *
  induction h with
  | nil => exact .nil
  | cons r _ ih =>
    rw [List.reverse_cons, List.reverse_cons]
    exact VcL.append ih (.cons r .nil)
def VL (K : PySem.W.Frag) (H : Hp) (l : Addr) (ps : List V3) : Prop := ∃ acc, H l = some (.lst acc) ∧ VcL K H acc ps
theorem VL.same (e : Same H H') (h : VL K H l ps) : VL K H' l ps := by
  obtain ⟨acc, h1, h2⟩ := h
  exact ⟨acc, e _ _ h1, h2.tk (TK.same e)⟩
/-! slices -/
def ptP (x : V) (H : Hp) (Q : Option Int → Hp → Prop) : Prop := ∃ i, x = .int i ∧ Q (some i) H
theorem w_np {Q : Option Int → Hp → Prop} (h : Q none H) : tNoPart σ H Q := h
theorem w_pt {Q : Option Int → Hp → Prop} (h : te σ H fun x H1 => ptP x H1 Q) : tPart te σ H Q := h
theorem r_ptP {Q : Option Int → Hp → Prop} {i : Int} (h : Q (some i) H) : ptP (.int i) H Q := ⟨i, rfl, h⟩
theorem w_sl {r : V → Option Int → Option Int → Hp → VK → Prop} {tl th : TO} (h : te σ H fun x H1 => tl σ H1 fun l H2 => th σ H2 fun u H3 => r x l u H3 Q) : tSl r te tl th σ H Q := h
def cutP (ps : List V3) (lo hi : Option Int) : List V3 := (ps.drop (HT.sIx ps.length 0 lo)).take (HT.sIx ps.length ps.length hi - HT.sIx ps.length 0 lo)
/-! xs[::-1] -/
def rRev (K : PySem.W.Frag) : V → Option Int → Hp → VK → Prop := fun x o H Q => o = some (-1) ∧ ∃ a xs, x = .ref a ∧ SqL K H a xs ∧ ∀ p, H p = none → Q (.ref p) (upd H p (.lst xs.reverse))
def tRev (K : PySem.W.Frag) (te : TE) (th : TO) : TE := fun σ H Q => te σ H fun x H1 => th σ H1 fun o H2 => rRev K x o H2 Q
/-! a + b, a * k, list(a), append, truth -/
/-- an own list grows -/
theorem r_appV {p : V3} (nl : H0 l = none) (e : Same H0 H) (q : VL K H l ps) (hv : Vc K H b p) (hz : ps.length < 100000)
    (h : ∀ H1, Same H0 H1 → TK K H H1 → VL K H1 l (ps ++ [p]) → Q .non H1) : rAppend (.ref l) [.ref b] H Q := by
  obtain ⟨acc, h1, h2⟩ := q
  have hl := h2.len
  exact r_app h1 (by omega) (h _ (Same.mut e nl) (TK.upd h1) ⟨_, upd_same, (h2.snoc hv).tk (TK.upd h1)⟩)
def truP (K : PySem.W.Frag) (x : V) (H : Hp) (Q : Bool → Hp → Prop) : Prop := ∃ k, TruV K x H k ∧ Q k H
def tTru (K : PySem.W.Frag) (ta : TE) : TT := fun σ H Q => ta σ H fun x H' => truP K x H' Q
/-! zip of two lists of vectors -/
def zipP (K : PySem.W.Frag) (vs : List V) (H1 : Hp) (R : It → Hp → Prop) : Prop := ∃ a b xs ys, vs = [.ref a, .ref b] ∧ ((SqL K H1 a xs ∧ SqL K H1 b ys ∧ R (Itz K a b) H1) ∨ (SqT K H1 a xs ∧ SqT K H1 b ys ∧ R (RZ.ItzT K a b) H1))
end
end My

namespace My
open PySem L2
end My

namespace My
open PySem L2
theorem VN.vs {n d n' d' : Nat} {p q : V3} (hp : VN n d p) (hq : VN n' d' q) : VN (n + n' + d + d' + 1) (d + d') (vsb p q) := ⟨hp.x.sub hq.x, hp.y.sub hq.y, hp.z.sub hq.z⟩
theorem fan_self (a : V3) (r : List V3) : fan a (a :: r) = fan a r := by
  cases r with
  | nil => rfl
  | cons b q =>
    show va (cr (vsb a a) (vsb b a)) (fan a (b :: q)) = _
    rw [show cr (vsb a a) (vsb b a) = o3 by apply V3.ext' <;> simp only [vsb, cr, o3] <;> grind, o_va]
end My
namespace My
theorem VN.o3 : VN 1 1 o3 := ⟨⟨B.lit (by decide +kernel), B.lit (by decide +kernel)⟩, ⟨B.lit (by decide +kernel), B.lit (by decide +kernel)⟩, ⟨B.lit (by decide +kernel), B.lit (by decide +kernel)⟩⟩
end My
namespace My
open PySem L2
theorem r_bmV {K : PySem.W.Frag} {H : Hp} {l : Addr} {ps : List V3} {P : Prop} (h : VL K H l ps) (p : P) : bmP K "list" (.ref l) H P := by
  obtain ⟨acc, h1, _⟩ := h
  exact r_bmL (SqL.of h1) p
end My
namespace My
theorem BN.m1 {n d : Nat} {q : Rat} (h : BN n d q) : BN n d (((-1 : Int) : Rat) * q) := by
  rw [show ((-1 : Int) : Rat) * q = -q by rw [show ((-1 : Int) : Rat) = -1 by simp]; grind]
  exact h.neg
theorem VN.m1 {n d : Nat} {p : V3} (h : VN n d p) : VN n d (My.sc ((-1 : Int) : Rat) p) := ⟨h.x.m1, h.y.m1, h.z.m1⟩
theorem sc_sc (s t : Rat) (p : V3) : sc s (sc t p) = sc (s * t) p := by
  apply V3.ext' <;> simp only [sc] <;> grind
end My
namespace My
open PySem L2 PyProof.Rows
/-! zip of a tuple and a list -/
def ItzM (K : PySem.W.Frag) (a b : Addr) : It where
  go := fun n H => ∃ (xs ys : List V) (x y : V), SqT K H a xs ∧ SqL K H b ys ∧ xs[n]? = some x ∧ ys[n]? = some y
  yld := fun n H v H' => ∃ T x y, v = .ref T ∧ H T = none ∧ H' = upd H T (.tup [x, y]) ∧ (∀ xs, SqT K H a xs → xs[n]? = some x) ∧ ∀ ys, SqL K H b ys → ys[n]? = some y
  stop := fun n H => ∃ xs ys : List V, SqT K H a xs ∧ SqL K H b ys ∧ (xs.length ≤ n ∨ ys.length ≤ n) ∧ n ≤ xs.length ∧ n ≤ ys.length
structure ZpM (a b z TI TO i1 i2 : Addr) (n : Nat) (h : Heap) : Prop where
  zp : IsZip h z TI TO .none
  pi : IsTupOf2 h TI (.ref i1) (.ref i2)
  po : ∃ x y, IsTupOf2 h TO x y
  t1 : h.IsTupleIter i1 a n
  t2 : h.IsListIter i2 b n
end My
namespace My
open PySem L2 PyProof.Rows
section
variable {X : Cx} {K : PySem.W.Frag} {σ : L2.St} {H : Hp} {D : Ends} {te : TE} {ta : TA} {a b : Addr} {xs ys : List V}
def zmP (K : PySem.W.Frag) (vs : List V) (H1 : Hp) (R : It → Hp → Prop) : Prop := ∃ a b xs ys, vs = [.ref a, .ref b] ∧ SqT K H1 a xs ∧ SqL K H1 b ys ∧ R (ItzM K a b) H1
def iZm (K : PySem.W.Frag) (ta : TA) : L2.TI := fun σ H R => ta σ H fun vs H1 => zmP K vs H1 R
end
end My

namespace My
open PySem L2
/-! over a common denominator -/
theorem den_dvd {q : Rat} {D N : Int} (h : q * (D : Rat) = (N : Rat)) : (q.den : Int) ∣ D := by
  have e := numq q
  have e2 : (q.num : Rat) * (D : Rat) = (N : Rat) * ((q.den : Int) : Rat) := by
    rw [e, ← h]
    grind
  have e3 : q.num * D = N * (q.den : Int) := by exact_mod_cast e2
  refine dvd_cop (n := q.num) ?_ ⟨N, by rw [e3, Int.mul_comm]⟩
  rw [Nat.gcd_comm]
  exact gcdQ q
set_option Elab.async true in
theorem num_le {q : Rat} {D N : Int} (hD : 0 < D) (h : q * (D : Rat) = (N : Rat)) : q.num.natAbs ≤ N.natAbs := by
  obtain ⟨k, hk⟩ := den_dvd h
  have e := numq q
  have hd := denP q
  have kp : 0 < k := by
    rw [hk] at hD
    exact Int.pos_of_mul_pos_right hD (by omega)
  have e2 : (N : Rat) = ((q.num * k : Int) : Rat) := by
    rw [← h, hk, Rat.intCast_mul, Rat.intCast_mul, e]
    grind
  have e3 : N = q.num * k := by exact_mod_cast e2
  rw [e3, Int.natAbs_mul]
  exact Nat.le_mul_of_pos_right _ (by omega)
in #guard_msgs in universe u_z
theorem BN.ofD {e f : Nat} {q : Rat} {D N : Int} (hD : 0 < D) (bf : B f D) (be : B e N) (h : q * (D : Rat) = (N : Rat)) : BN e f q := by
  refine ⟨B.of_le (num_le hD h) be, B.of_le ?_ bf⟩
  have := Int.le_of_dvd hD (den_dvd h)
  have := denP q
  omega
/-- a row and its step over one denominator -/
structure RD (e f : Nat) (p : V3) (t : Rat) : Prop where
  ex : ∃ D N0 N1 N2 N3 : Int, 0 < D ∧ B f D ∧ B e N0 ∧ B e N1 ∧ B e N2 ∧ B e N3 ∧ p.x * (D : Rat) = N0 ∧ p.y * (D : Rat) = N1 ∧ p.z * (D : Rat) = N2 ∧ t * (D : Rat) = N3
theorem numc (q : Rat) : q * ((q.den : Int) : Rat) = (q.num : Rat) := (numq q).symm
set_option Elab.async true in
theorem RD.of {n d : Nat} {p : V3} {t : Rat} (h : VN n d p) (ht : BN n d t) : RD (n + 3 * d) (4 * d) p t := by
  refine ⟨(p.x.den : Int) * (p.y.den : Int) * (p.z.den : Int) * (t.den : Int), p.x.num * ((p.y.den : Int) * (p.z.den : Int) * (t.den : Int)), p.y.num * ((p.x.den : Int) * (p.z.den : Int) * (t.den : Int)), p.z.num * ((p.x.den : Int) * (p.y.den : Int) * (t.den : Int)), t.num * ((p.x.den : Int) * (p.y.den : Int) * (p.z.den : Int)),
    Int.mul_pos (Int.mul_pos (Int.mul_pos (denP _) (denP _)) (denP _)) (denP _), (B.mul (B.mul (B.mul h.x.d h.y.d) h.z.d) ht.d).le (by omega), (B.mul h.x.n (B.mul (B.mul h.y.d h.z.d) ht.d)).le (by omega), (B.mul h.y.n (B.mul (B.mul h.x.d h.z.d) ht.d)).le (by omega), (B.mul h.z.n (B.mul (B.mul h.x.d h.y.d) ht.d)).le (by omega), (B.mul ht.n (B.mul (B.mul h.x.d h.y.d) h.z.d)).le (by omega), ?_, ?_, ?_, ?_⟩
  all_goals
    have e0 := numc p.x
    have e1 := numc p.y
    have e2 := numc p.z
    have e3 := numc t
    simp only [Rat.intCast_mul]
    grind
in #guard_msgs in universe u_z
/-- what whole rows are -/
structure WR (e f : Nat) (p : V3) (t : Rat) (n0 n1 n2 n3 n4 : Int) : Prop where
  pos : 0 < n4
  b0 : B e n0
  b1 : B e n1
  b2 : B e n2
  b3 : B e n3
  b4 : B f n4
  e0 : p.x * (n4 : Rat) = n0
  e1 : p.y * (n4 : Rat) = n1
  e2 : p.z * (n4 : Rat) = n2
  e3 : t * (n4 : Rat) = n3
end My
namespace My
open PySem L2 PyProof.Rows
section
variable {X : Cx} {K : PySem.W.Frag} {σ : L2.St} {H : Hp} {D : Ends} {te : TE} {a b : Addr} {xs ys : List V} {Q : VK}
/-- where a comprehension's scope stands -/
def lcSc : Expr → Scope
  | .ListComp _ _ sc _ => sc
  | _ => { kind := .function, names := [], isGenerator := false, isCoroutine := false }
def stE : Stmt → Expr
  | .Assign _ e _ => e
  | _ => .Constant .none 0 ⟨0, 0, 0, 0⟩
def rSumK (K : PySem.W.Frag) : List V → Hp → VK → Prop := fun vs H Q => ∃ (a : Addr) (ns : List Int), vs = [V.ref a] ∧ SqL K H a (ns.map V.int) ∧ Q (.int ns.sum) H
set_option Elab.async true in
/-- a comprehension over a tuple, any target -/
theorem lc_tupA {g : TG} {vs : List Nat} {Da : Addr} {Qd : Hp → Prop} (G : Hp → Prop) (J : Nat → List V → Hp → Prop) (h0 : G (upd H Da (.lst []))) (hj : J 0 [] (upd H Da (.lst [])))
    (hq : ∀ H1 acc, H1 Da = some (.lst acc) → G H1 → SqT K H1 a xs)
    (hs : ∀ i x acc H1, xs[i]? = some x → acc.length = i → H1 Da = some (.lst acc) → G H1 → J i acc H1 → g x (wipe σ vs) H1 fun σ2 H2 => wipe σ2 vs = wipe σ vs ∧ te σ2 H2 fun y H3 => lcQ Da G J i y H3)
    (hd : ∀ acc H1, acc.length = xs.length → H1 Da = some (.lst acc) → G H1 → J xs.length acc H1 → Qd H1) : lcT (Itt K a) g tYes te vs σ H Da Qd := by
  have z := L2.lc_tup (K := K) (a := a) (xs := xs) (g := g) (tt := tYes) (te := te) (vs := vs) (σ := σ) (H1 := H) (D := Da) (Qd := Qd) (lcPv Da G J)
    ⟨[], rfl, upd_same, h0, hj⟩ (fun i H1 _ ⟨acc, _, hD, hG, _⟩ => hq H1 acc hD hG) (fun i x H1 hi ⟨acc, ha, hD, hG, hJ⟩ => hs i x acc H1 hi ha hD hG hJ) (fun H1 ⟨acc, ha, hD, hG, hJ⟩ => hd acc H1 ha hD hG hJ)
  exact z
in #guard_msgs in universe u_z
end
end My
namespace My
open PySem L2
theorem r_catL {H : Hp} {a b : Addr} {xs ys : List V} {Q : VK} (h1 : H a = some (.lst xs)) (h2 : H b = some (.lst ys)) (hn : decide (xs.length + ys.length ≤ 100000) = true) (h : ∀ p H1, H p = none → Same H H1 → H1 p = some (.lst (xs ++ ys)) → Q (.ref p) H1) : rCat (.ref a) (.ref b) H Q :=
  ⟨a, b, xs, ys, rfl, rfl, h1, h2, Nat.le_trans (of_decide_eq_true hn) (by decide), fun p np => h p _ np (Same.new np) upd_same⟩
end My
namespace My
open PySem L2
/-- the inverse by integers -/
structure MW (A : M3) (Dt : Int) (u v w : Int × Int × Int) (a3 a4 b3 b4 c3 c4 : Int) : Prop where
  nz : Dt ≠ 0
  xa : ((u.1 * a4 : Int) : Rat) / (Dt : Rat) = (minv A).a.x
  ya : ((v.1 * b4 : Int) : Rat) / (Dt : Rat) = (minv A).a.y
  za : ((w.1 * c4 : Int) : Rat) / (Dt : Rat) = (minv A).a.z
  xb : ((u.2.1 * a4 : Int) : Rat) / (Dt : Rat) = (minv A).b.x
  yb : ((v.2.1 * b4 : Int) : Rat) / (Dt : Rat) = (minv A).b.y
  zb : ((w.2.1 * c4 : Int) : Rat) / (Dt : Rat) = (minv A).b.z
  xc : ((u.2.2 * a4 : Int) : Rat) / (Dt : Rat) = (minv A).c.x
  yc : ((v.2.2 * b4 : Int) : Rat) / (Dt : Rat) = (minv A).c.y
  zc : ((w.2.2 * c4 : Int) : Rat) / (Dt : Rat) = (minv A).c.z
  sx : ((-(u.1 * a3 + (v.1 * b3 + (w.1 * c3 + 0))) : Int) : Rat) / (Dt : Rat) = (minv A).s.x
  sy : ((-(u.2.1 * a3 + (v.2.1 * b3 + (w.2.1 * c3 + 0))) : Int) : Rat) / (Dt : Rat) = (minv A).s.y
  sz : ((-(u.2.2 * a3 + (v.2.2 * b3 + (w.2.2 * c3 + 0))) : Int) : Rat) / (Dt : Rat) = (minv A).s.z
end My
namespace My
open PySem L2
theorem VcL.three' {K : PySem.W.Frag} {H : Hp} {acc : List V} {p q r : V3} (h : VcL K H acc ([p, q, r].take 3)) : ∃ a b c : Addr, acc = [.ref a, .ref b, .ref c] ∧ Vc K H a p ∧ Vc K H b q ∧ Vc K H c r := by
  unfold VcL at h
  cases h with
  | cons r1 h =>
    cases h with
    | cons r2 h =>
      cases h with
      | cons r3 h =>
        cases h
        obtain ⟨a, rfl, ha⟩ := r1
        obtain ⟨b, rfl, hb⟩ := r2
        obtain ⟨c, rfl, hc⟩ := r3
        exact ⟨a, b, c, rfl, ha, hb, hc⟩
end My
namespace My
open PySem L2
section
variable {X : Cx} {K : PySem.W.Frag} {H : Hp} {Q : VK} {a b : Addr} {xs ys zs : List V}
theorem ko_catA (h : X.K = K) : OpR X (binaryOp .Add) (rCatA K) := h ▸ op_catA
set_option Elab.async true in
theorem r_catA (ha : SqT K H a xs) (hb : SqT K H b ys) (hz : xs ++ ys = zs) (hn : decide (xs.length + ys.length ≤ 100000) = true) (h : ∀ p H1, Same H H1 → SqT K H1 p zs → Q (.ref p) H1) : rCatA K (.ref a) (.ref b) H Q := by
  refine ⟨a, b, xs, ys, rfl, rfl, ha, hb, Nat.le_trans (of_decide_eq_true hn) (by decide), fun e => h b H (Same.refl _) ?_, fun _ e => h a H (Same.refl _) ?_, fun _ _ p np => h p _ (Same.new np) (SqT.of ?_)⟩
  · rw [e] at hz
    rw [← hz]
    exact hb
  · rw [e, List.append_nil] at hz
    rw [← hz]
    exact ha
  · rw [← hz]
    exact upd_same
in #guard_msgs in universe u_z
end
/-- a row whose doubles are small integers -/
def HalfRow (p : V3) : Prop := ∃ N0 N1 N2 : Int, B 6 N0 ∧ B 6 N1 ∧ B 6 N2 ∧ p.x * 2 = (N0 : Rat) ∧ p.y * 2 = (N1 : Rat) ∧ p.z * 2 = (N2 : Rat)
theorem half_int {a b c : Int} (ha : -32 < a ∧ a < 32) (hb : -32 < b ∧ b < 32) (hc : -32 < c ∧ c < 32) : HalfRow ⟨(a : Rat), (b : Rat), (c : Rat)⟩ := by
  refine ⟨a * 2, b * 2, c * 2, B.rng (by omega) (by omega), B.rng (by omega) (by omega), B.rng (by omega) (by omega), ?_, ?_, ?_⟩ <;> (rw [Rat.intCast_mul]; rfl)
theorem HalfRow.vn {p : V3} (h : HalfRow p) : VN 6 2 p := by
  obtain ⟨N0, N1, N2, b0, b1, b2, e0, e1, e2⟩ := h
  have d2 : B 2 (2 : Int) := B.lit (by decide)
  exact ⟨BN.ofD (by decide) d2 b0 e0, BN.ofD (by decide) d2 b1 e1, BN.ofD (by decide) d2 b2 e2⟩
/-- a side of a stretching matrix -/
def Sd (q : Rat) : Prop := q ≠ 0 ∧ ∃ N : Int, B 6 N ∧ q * 2 = (N : Rat)
theorem sd_mk (q : Rat) (N : Int) (h1 : decide (q = 0) = false) (h2 : decide (N.natAbs < 2 ^ 6) = true) (h3 : decide (q * 2 = (N : Rat)) = true) : Sd q := ⟨of_decide_eq_false h1, N, B.lit h2, of_decide_eq_true h3⟩
theorem b60 : B 6 (0 : Int) := B.lit (by decide)
theorem half_x {q : Rat} (h : Sd q) : HalfRow ⟨q, ((0 : Int) : Rat), ((0 : Int) : Rat)⟩ := by
  obtain ⟨_, N, b, e⟩ := h
  exact ⟨N, 0, 0, b, b60, b60, e, by simp, by simp⟩
theorem half_y {q : Rat} (h : Sd q) : HalfRow ⟨((0 : Int) : Rat), q, ((0 : Int) : Rat)⟩ := by
  obtain ⟨_, N, b, e⟩ := h
  exact ⟨0, N, 0, b60, b, b60, by simp, e, by simp⟩
theorem half_z {q : Rat} (h : Sd q) : HalfRow ⟨((0 : Int) : Rat), ((0 : Int) : Rat), q⟩ := by
  obtain ⟨_, N, b, e⟩ := h
  exact ⟨0, 0, N, b60, b60, b, by simp, by simp, e⟩
theorem det_diag {p q r : Rat} (hp : p ≠ 0) (hq : q ≠ 0) (hr : r ≠ 0) : dt ⟨p, ((0 : Int) : Rat), ((0 : Int) : Rat)⟩ (cr ⟨((0 : Int) : Rat), q, ((0 : Int) : Rat)⟩ ⟨((0 : Int) : Rat), ((0 : Int) : Rat), r⟩) ≠ 0 := by
  simp only [dt, cr, Rat.intCast_zero]
  intro h
  have h2 : p * q * r = 0 := by grind
  grind
theorem det_ints {a0 a1 a2 b0 b1 b2 c0 c1 c2 : Int} (h : a0 * (b1 * c2 - b2 * c1) + a1 * (b2 * c0 - b0 * c2) + a2 * (b0 * c1 - b1 * c0) ≠ 0) : dt ⟨(a0 : Rat), (a1 : Rat), (a2 : Rat)⟩ (cr ⟨(b0 : Rat), (b1 : Rat), (b2 : Rat)⟩ ⟨(c0 : Rat), (c1 : Rat), (c2 : Rat)⟩) ≠ 0 := fun e => h (by
  simp only [dt, cr] at e
  exact_mod_cast e)
/-- three vectors in a tuple -/
theorem Rw.same' {K : PySem.W.Frag} {H H' : Hp} {r : Addr} {p q s : V3} (e : Same H H') (h : Rw K H r p q s) : Rw K H' r p q s := h.tk (TK.same e)
structure SmM (A : M3) : Prop where
  ha : HalfRow A.a
  hb : HalfRow A.b
  hc : HalfRow A.c
  hs : VN 6 6 A.s
  nz : det3 A ≠ 0
theorem SmM.mn {A : M3} (h : SmM A) : MN 6 6 A := ⟨h.ha.vn.le (by decide) (by decide), h.hb.vn.le (by decide) (by decide), h.hc.vn.le (by decide) (by decide), h.hs⟩
theorem VN.int3 {a b c : Int} {n : Nat} (ha : B n a) (hb : B n b) (hc : B n c) : VN n 1 ⟨(a : Rat), (b : Rat), (c : Rat)⟩ := ⟨BN.int ha, BN.int hb, BN.int hc⟩
end My
namespace My
open PySem L2
theorem at_sgn {v : V} {i : Nat} (h : ([.int 1, .int (-1), .int 2] : List V)[i]? = some v) : ∃ u : Int, v = .int u ∧ (u = 1 ∨ u = -1 ∨ u = 2) := by
  rcases i with _ | _ | _ | i
  · cases h
    exact ⟨_, rfl, .inl rfl⟩
  · cases h
    exact ⟨_, rfl, .inr (.inl rfl)⟩
  · cases h
    exact ⟨_, rfl, .inr (.inr rfl)⟩
  · simp at h
/-- the tops of three ratios over one bottom -/
def TpA (K : PySem.W.Frag) (b : Int) (i : Nat) (acc : List V) (H : Hp) : Prop := ∃ ns : List Int, TsA K (ns.map fun (t : Int) => [.int ((t : Rat) / (b : Rat)).num, .int (((t : Rat) / (b : Rat)).den : Int)]) acc H ∧ ns.length = i ∧ ∀ t, t ∈ ns → B 134 t
end My

namespace My
open PySem L2
theorem r_tplV {K : PySem.W.Frag} {H : Hp} {Q : VK} {a : Addr} {p q r : V3} (h : VL K H a [p, q, r]) (k : ∀ (x y z t : Addr) (H1 : Hp), H t = none → Same H H1 → H1 t = some (.tup [.ref x, .ref y, .ref z]) → Vc K H1 x p → Vc K H1 y q → Vc K H1 z r → Q (.ref t) H1) : rTpl K [.ref a] H Q := by
  obtain ⟨acc, h1, h2⟩ := h
  obtain ⟨x, y, z, rfl, g0, g1, g2⟩ := VcL.three' h2
  exact r_tplL (SqL.of h1) fun t H1 n s ht => k x y z t H1 n s ht (g0.same s) (g1.same s) (g2.same s)
end My
namespace My
open PySem L2
/-- a vector over one denominator, all of g bits -/
structure RowG (g : Nat) (p : V3) : Prop where
  ex : ∃ D N0 N1 N2 : Int, 0 < D ∧ B g D ∧ B g N0 ∧ B g N1 ∧ B g N2 ∧ p.x * (D : Rat) = N0 ∧ p.y * (D : Rat) = N1 ∧ p.z * (D : Rat) = N2
theorem RowG.le {g g' : Nat} {p : V3} (h : RowG g p) (e : g ≤ g') : RowG g' p := by
  obtain ⟨D, N0, N1, N2, h0, h1, h2, h3, h4, r⟩ := h.ex
  exact ⟨D, N0, N1, N2, h0, h1.le e, h2.le e, h3.le e, h4.le e, r⟩
theorem RowG.half {p : V3} (h : HalfRow p) : RowG 6 p := by
  obtain ⟨N0, N1, N2, h0, h1, h2, e⟩ := h
  exact ⟨2, N0, N1, N2, by decide, B.lit (by decide), h0, h1, h2, e⟩
set_option Elab.async true in
theorem RowG.of {n d : Nat} {p : V3} (h : VN n d p) : RowG (n + 3 * d) p := by
  refine ⟨(p.x.den : Int) * (p.y.den : Int) * (p.z.den : Int), p.x.num * ((p.y.den : Int) * (p.z.den : Int)), p.y.num * ((p.x.den : Int) * (p.z.den : Int)), p.z.num * ((p.x.den : Int) * (p.y.den : Int)),
    Int.mul_pos (Int.mul_pos (denP _) (denP _)) (denP _), (B.mul (B.mul h.x.d h.y.d) h.z.d).le (by omega), (B.mul h.x.n (B.mul h.y.d h.z.d)).le (by omega), (B.mul h.y.n (B.mul h.x.d h.z.d)).le (by omega), (B.mul h.z.n (B.mul h.x.d h.y.d)).le (by omega), ?_, ?_, ?_⟩
  all_goals
    have e0 := numc p.x
    have e1 := numc p.y
    have e2 := numc p.z
    simp only [Rat.intCast_mul]
    grind
in #guard_msgs in universe u_z
structure GD (A : M3) : Prop where
  ex : ∃ g0 g1 g2 : Nat, RowG g0 A.a ∧ RowG g1 A.b ∧ RowG g2 A.c ∧ RowG 134 A.s ∧ g0 + g1 + g2 ≤ 146 ∧ g0 ≤ 134 ∧ g1 ≤ 134 ∧ g2 ≤ 134
theorem SmM.gd {A : M3} (h : SmM A) : GD A := ⟨6, 6, 6, RowG.half h.ha, RowG.half h.hb, RowG.half h.hc, (RowG.of h.hs).le (by decide), by decide, by decide, by decide, by decide⟩
set_option Elab.async true in
theorem dotD {c0 c1 c2 a0 a1 a2 : Rat} {Dc D0 D1 D2 M0 M1 M2 N0 N1 N2 : Int} (m0 : c0 * (Dc : Rat) = M0) (m1 : c1 * (Dc : Rat) = M1) (m2 : c2 * (Dc : Rat) = M2) (n0 : a0 * (D0 : Rat) = N0) (n1 : a1 * (D1 : Rat) = N1) (n2 : a2 * (D2 : Rat) = N2) :
    (c0 * a0 + c1 * a1 + c2 * a2) * ((Dc * (D0 * D1 * D2) : Int) : Rat) = ((M0 * (N0 * (D1 * D2)) + M1 * (N1 * (D0 * D2)) + M2 * (N2 * (D0 * D1)) : Int) : Rat) := by
  simp only [Rat.intCast_mul, Rat.intCast_add]
  rw [← m0, ← m1, ← m2, ← n0, ← n1, ← n2]
  grind
in #guard_msgs in universe u_z
theorem dotB {g g0 g1 g2 : Nat} {c0 c1 c2 a0 a1 a2 : Rat} {Dc D0 D1 D2 M0 M1 M2 N0 N1 N2 : Int} (hg : g ≤ 134) (hs : g0 + g1 + g2 ≤ 146) (pc : 0 < Dc) (p0 : 0 < D0) (p1 : 0 < D1) (p2 : 0 < D2) (bc : B g Dc) (b0 : B g0 D0) (b1 : B g1 D1) (b2 : B g2 D2)
    (bm0 : B g M0) (bm1 : B g M1) (bm2 : B g M2) (bn0 : B g0 N0) (bn1 : B g1 N1) (bn2 : B g2 N2) (m0 : c0 * (Dc : Rat) = M0) (m1 : c1 * (Dc : Rat) = M1) (m2 : c2 * (Dc : Rat) = M2) (n0 : a0 * (D0 : Rat) = N0) (n1 : a1 * (D1 : Rat) = N1) (n2 : a2 * (D2 : Rat) = N2) : BN 410 402 (c0 * a0 + c1 * a1 + c2 * a2) :=
  BN.ofD (Int.mul_pos pc (Int.mul_pos (Int.mul_pos p0 p1) p2)) ((B.mul bc (B.mul (B.mul b0 b1) b2)).le (by omega))
    ((B.add (B.add (B.mul bm0 (B.mul bn0 (B.mul b1 b2))) (B.mul bm1 (B.mul bn1 (B.mul b0 b2)))) (B.mul bm2 (B.mul bn2 (B.mul b0 b1)))).le (by omega)) (dotD m0 m1 m2 n0 n1 n2)
set_option Elab.async true in
theorem shiftB {c0 c1 c2 s0 s1 s2 t : Rat} {Dc S U M0 M1 M2 T0 T1 T2 W : Int} (pc : 0 < Dc) (ps : 0 < S) (pu : 0 < U) (bc : B 134 Dc) (bs : B 134 S) (bu : B 134 U) (bm0 : B 134 M0) (bm1 : B 134 M1) (bm2 : B 134 M2) (bt0 : B 134 T0) (bt1 : B 134 T1) (bt2 : B 134 T2) (bw : B 134 W)
    (m0 : c0 * (Dc : Rat) = M0) (m1 : c1 * (Dc : Rat) = M1) (m2 : c2 * (Dc : Rat) = M2) (n0 : s0 * (S : Rat) = T0) (n1 : s1 * (S : Rat) = T1) (n2 : s2 * (S : Rat) = T2) (n3 : t * (U : Rat) = W) : BN 410 402 (c0 * s0 + c1 * s1 + c2 * s2 + t) := by
  refine BN.ofD (D := Dc * (S * U)) (N := M0 * (T0 * U) + M1 * (T1 * U) + M2 * (T2 * U) + W * (Dc * S)) (Int.mul_pos pc (Int.mul_pos ps pu)) ((B.mul bc (B.mul bs bu)).le (by omega)) ((B.add (B.add (B.add (B.mul bm0 (B.mul bt0 bu)) (B.mul bm1 (B.mul bt1 bu))) (B.mul bm2 (B.mul bt2 bu))) (B.mul bw (B.mul bc bs))).le (by omega)) ?_
  simp only [Rat.intCast_mul, Rat.intCast_add]
  rw [← m0, ← m1, ← m2, ← n0, ← n1, ← n2, ← n3]
  grind
in #guard_msgs in universe u_z
set_option Elab.async true in
theorem GD.comb {A C : M3} (hA : GD A) (hC : GD C) : MN 410 402 (My.comb A C) := by
  obtain ⟨g0, g1, g2, h0, h1, h2, h3, hs, l0, l1, l2⟩ := hA.ex
  obtain ⟨k0, k1, k2, i0, i1, i2, i3, _, j0, j1, j2⟩ := hC.ex
  obtain ⟨D0, a0, a1, a2, p0, b0, x0, x1, x2, y0, y1, y2⟩ := h0.ex
  obtain ⟨D1, b0', b1, b2, p1, c0, z0, z1, z2, w0, w1, w2⟩ := h1.ex
  obtain ⟨D2, c0', c1, c2, p2, d0, u0, u1, u2, v0, v1, v2⟩ := h2.ex
  obtain ⟨S, T0, T1, T2, ps, bs, t0, t1, t2, q0, q1, q2⟩ := h3.ex
  obtain ⟨U, W0, W1, W2, pu, bu, m0, m1, m2, n0, n1, n2⟩ := i3.ex
  have go : ∀ {k : Nat} {r : V3}, k ≤ 134 → RowG k r → VN 410 402 (rowx r A) := fun hk hr => by
    obtain ⟨E, M0, M1, M2, pe, be, e0, e1, e2, f0, f1, f2⟩ := hr.ex
    exact ⟨dotB hk hs pe p0 p1 p2 be b0 c0 d0 e0 e1 e2 x0 z0 u0 f0 f1 f2 y0 w0 v0, dotB hk hs pe p0 p1 p2 be b0 c0 d0 e0 e1 e2 x1 z1 u1 f0 f1 f2 y1 w1 v1, dotB hk hs pe p0 p1 p2 be b0 c0 d0 e0 e1 e2 x2 z2 u2 f0 f1 f2 y2 w2 v2⟩
  have gs : ∀ {k : Nat} {r : V3} {t : Rat} {W : Int}, k ≤ 134 → RowG k r → B 134 W → t * (U : Rat) = W → BN 410 402 (dt r A.s + t) := fun hk hr hW ht => by
    obtain ⟨E, M0, M1, M2, pe, be, e0, e1, e2, f0, f1, f2⟩ := hr.ex
    exact shiftB pe ps pu (be.le hk) bs bu (e0.le hk) (e1.le hk) (e2.le hk) t0 t1 t2 hW f0 f1 f2 q0 q1 q2 ht
  exact ⟨go j0 i0, go j1 i1, go j2 i2, ⟨gs j0 i0 m0 n0, gs j1 i1 m1 n1, gs j2 i2 m2 n2⟩⟩
in #guard_msgs in universe u_z
end My
namespace My
open PySem L2
end My
namespace My
open PySem L2
end My
namespace My
open PySem L2 PySem.Calls PyProof.Rows
/-- the gcd of a list -/
def gl (xs : List Int) : Nat := xs.foldl (fun g x => Nat.gcd g x.natAbs) 0
def rGcd4 : List V → Hp → VK → Prop := fun xs H Q => ∃ a b c d : Int, xs = [.int a, .int b, .int c, .int d] ∧ Q (.int ((gl [a, b, c, d] : Nat) : Int)) H
theorem gl4 (a b c d : Int) : gl [a, b, c, d] = Nat.gcd (Nat.gcd (Nat.gcd (a.natAbs) b.natAbs) c.natAbs) d.natAbs := by simp [gl]
theorem gl_neg (a b c d : Int) : gl [-a, -b, -c, -d] = gl [a, b, c, d] := by simp only [gl4, Int.natAbs_neg]
/-- the first of three is positive, zeros left out -/
def Fst (a b c : Int) : Prop := 0 < a ∨ (a = 0 ∧ (0 < b ∨ (b = 0 ∧ 0 < c)))
structure PlF (a b c d : Int) : Prop where
  g : gl [a, b, c, d] = 1
  f : Fst a b c
/-- a half in lowest form of four integers -/
structure HF (a b c d p0 p1 p2 p3 sd g : Int) : Prop where
  pos : 0 < g
  s : sd = 1 ∨ sd = -1
  e0 : a = p0 * (sd * g)
  e1 : b = p1 * (sd * g)
  e2 : c = p2 * (sd * g)
  e3 : d = p3 * (sd * g)
  p : PlF p0 p1 p2 p3
theorem Fst.neg {a b c : Int} (h : Fst a b c) (h2 : Fst (-a) (-b) (-c)) : False := by
  simp only [Fst] at h h2
  omega
end My
namespace My
open PySem L2 PySem.Calls PyProof.Rows
section
variable {X : Cx} {K : PySem.W.Frag} {a b : Expr} {ta tb : TE} {rst : List Expr} {pos : Pos} {σ : L2.St} {H : Hp} {Q : VK}
end
end My
namespace My
open PySem L2 PySem.Calls PyProof.Rows
section
variable {X : Cx} {K : PySem.W.Frag} {H H' : Hp} {Q : VK}
theorem PG.or {e : Expr} {t1 t2 : TG} (h1 : PG X e t1) (h2 : PG X e t2) : PG X e (fun v σ H Q => t1 v σ H Q ∨ t2 v σ H Q) := ⟨fun pins s σ H v u Q I r hw => hw.elim (h1.run pins s σ H v u Q I r) (h2.run pins s σ H v u Q I r)⟩
def gAny (K : PySem.W.Frag) (n : Nat) (t : TGs) : TG := fun v σ H Q => gTup K n t v σ H Q ∨ gUnL K n t v σ H Q
theorem kg_any (hK : X.K = K) {es : List Expr} {k n : Nat} {t : TGs} {pos : Pos} (hc : X.calm = true) (h : PGs X es t)
    (hn : (assignEach es X.env).length = n := by rfl) (hst : (assignEach es X.env).findIdx? (·.1) = none := by rfl) : PG X (.Tuple es k pos) (gAny K n t) := PG.or (kg_tup hK hc h hn hst) (kg_lst hK hc h hn hst)
/-- a tuple or a list -/
def SqA (K : PySem.W.Frag) (H : Hp) (a : Addr) (xs : List V) : Prop := SqT K H a xs ∨ SqL K H a xs
theorem SqA.t {a : Addr} {xs : List V} (h : SqT K H a xs) : SqA K H a xs := .inl h
theorem SqA.l {a : Addr} {xs : List V} (h : SqL K H a xs) : SqA K H a xs := .inr h
theorem w_gAny {σ : L2.St} {Q : L2.St → Hp → Prop} {n : Nat} {gs : TGs} {a : Addr} {xs : List V} (q : SqA K H a xs) (hn : xs.length = n) (h : gs xs σ H Q) : gAny K n gs (.ref a) σ H Q := q.imp (fun q => ⟨a, xs, rfl, q, hn, h⟩) (fun q => ⟨a, xs, rfl, q, hn, h⟩)
theorem r_ixSA {p : Addr} {xs : List V} {i : Int} {v : V} (q : SqA K H p xs) (a : atI xs i = some v) (h : Q v H) : rIxA K (.ref p) (.int i) H Q := q.elim (fun q => r_ixAT q a h) (fun q => r_ixAL q a h)
/-- a point in a tuple or a list -/
def VcA (K : PySem.W.Frag) (H : Hp) (v : Addr) (p : V3) : Prop := ∃ x y z : Addr, SqA K H v [.ref x, .ref y, .ref z] ∧ SqT K H x [.int p.x.num, .int (p.x.den : Int)] ∧ SqT K H y [.int p.y.num, .int (p.y.den : Int)] ∧ SqT K H z [.int p.z.num, .int (p.z.den : Int)]
end
/-- the sign of a ratio -/
def sg (q : Rat) : Int := if 0 < q then 1 else if q < 0 then -1 else 0
/-- the value of a plane at a point -/
def pval (a b c d : Int) (p : V3) : Rat := (a : Rat) * p.x + (b : Rat) * p.y + (c : Rat) * p.z + (d : Rat)
end My
namespace My
open PySem L2
theorem VcA.of {K : PySem.W.Frag} {H : Hp} {v : Addr} {p : V3} (h : Vc K H v p) : VcA K H v p := by
  obtain ⟨x, y, z, h1, h2, h3, h4⟩ := h
  exact ⟨x, y, z, .inl h1, h2, h3, h4⟩
end My
namespace My
open PySem L2
end My
namespace My
open PySem L2
/-- what is known of a, b, c after i steps of a search, at t -/
def PI3 (a b c : Int) (i : Nat) (t : Int) : Prop := (t = 0 ∧ a ≠ 0) ∨ (t = 1 ∧ b ≠ 0) ∨ (t = 2 ∧ c ≠ 0) ∨ i = 0 ∨ (i ≤ 1 ∧ ((t = 0 ∧ c = 0) ∨ (t = 1 ∧ a = 0) ∨ (t = 2 ∧ b = 0))) ∨ (i ≤ 2 ∧ ((t = 0 ∧ b = 0 ∧ c = 0) ∨ (t = 1 ∧ c = 0 ∧ a = 0) ∨ (t = 2 ∧ a = 0 ∧ b = 0)))
theorem PI3.k0 {a b c : Int} {i : Nat} (e : a ≠ 0) : PI3 a b c (i + 1) 0 := .inl ⟨rfl, e⟩
theorem PI3.k1 {a b c : Int} {i : Nat} (e : b ≠ 0) : PI3 a b c (i + 1) 1 := .inr (.inl ⟨rfl, e⟩)
theorem PI3.k2 {a b c : Int} {i : Nat} (e : c ≠ 0) : PI3 a b c (i + 1) 2 := .inr (.inr (.inl ⟨rfl, e⟩))
end My
namespace My
open PySem L2
end My

set_option Elab.async false
set_option maxRecDepth 100000
set_option linter.all false
namespace My
open PySem L2
/-! moved halves -/
/-- the half that the move A makes of the half a b c d, s -/
structure MH (A : M3) (a b c d s q0 q1 q2 q3 t : Int) : Prop where
  p : PlF q0 q1 q2 q3
  ts : t = 1 ∨ t = -1
  ex : ∃ l : Rat, 0 < l ∧ ∀ v : V3, (t : Rat) * pval q0 q1 q2 q3 (app A v) = l * ((s : Rat) * pval a b c d v)
theorem app_inv {A : M3} (h : det3 A ≠ 0) (v : V3) : app A (app (minv A) v) = v := by
  rw [← app_comb, minv_comb h, app_still]
theorem pval_o {a b c d : Int} : pval a b c d o3 = (d : Rat) := by simp only [pval, o3]; grind
theorem pval_e0 {a b c d : Int} : pval a b c d e0 = (a : Rat) + (d : Rat) := by simp only [pval, e0]; grind
theorem pval_e1 {a b c d : Int} : pval a b c d e1 = (b : Rat) + (d : Rat) := by simp only [pval, e1]; grind
theorem pval_e2 {a b c d : Int} : pval a b c d e2 = (c : Rat) + (d : Rat) := by simp only [pval, e2]; grind
theorem MH.comb {A C : M3} {a b c d s q0 q1 q2 q3 t r0 r1 r2 r3 u : Int} (h : MH A a b c d s q0 q1 q2 q3 t) (h' : MH C q0 q1 q2 q3 t r0 r1 r2 r3 u) : MH (comb A C) a b c d s r0 r1 r2 r3 u := by
  obtain ⟨l, hl, e⟩ := h.ex
  obtain ⟨m, hm, f⟩ := h'.ex
  refine ⟨h'.p, h'.ts, m * l, Rat.mul_pos hm hl, fun v => ?_⟩
  rw [app_comb, f, e]
  grind
theorem MH.neg {A : M3} {a b c d s q0 q1 q2 q3 t : Int} (h : MH A a b c d s q0 q1 q2 q3 t) : MH A a b c d (-s) q0 q1 q2 q3 (-t) := by
  obtain ⟨l, hl, e⟩ := h.ex
  refine ⟨h.p, by rcases h.ts with h | h <;> omega, l, hl, fun v => ?_⟩
  have := e v
  rw [Rat.intCast_neg, Rat.intCast_neg]
  grind
theorem MH.still {a b c d s : Int} (p : PlF a b c d) (hs : s = 1 ∨ s = -1) : MH still a b c d s a b c d s :=
  ⟨p, hs, 1, by decide, fun v => by rw [app_still]; grind⟩
theorem sg_pos {x : Rat} (h : 0 < x) : sg x = 1 := by simp only [sg, if_pos h]
theorem sg_neg {x : Rat} (h : x < 0) : sg x = -1 := by
  have : ¬ 0 < x := by grind
  simp only [sg, if_neg this, if_pos h]
theorem sg_0 : sg 0 = 0 := by decide
theorem sg_mul {l x : Rat} (h : 0 < l) : sg (l * x) = sg x := by
  rcases rat_tri 0 x with e | e | e
  · rw [sg_pos e, sg_pos (Rat.mul_pos h e)]
  · rw [← e, Rat.mul_zero]
  · have : 0 < l * (-x) := Rat.mul_pos h (by grind)
    rw [sg_neg e, sg_neg (by grind)]
theorem sg_opp {x : Rat} : sg (-x) = - sg x := by
  rcases rat_tri 0 x with e | e | e
  · rw [sg_pos e, sg_neg (by grind)]
  · rw [← e, sg_0]; decide
  · rw [sg_neg e, sg_pos (by grind)]; decide
theorem sg_s {s : Int} {x : Rat} (h : s = 1 ∨ s = -1) : sg ((s : Rat) * x) = s * sg x := by
  rcases h with rfl | rfl
  · rw [show ((1 : Int) : Rat) * x = x by grind]; omega
  · rw [show ((-1 : Int) : Rat) * x = -x by grind, sg_opp]; omega
set_option Elab.async true in
theorem MH.sg {A : M3} {a b c d s q0 q1 q2 q3 t : Int} (h : MH A a b c d s q0 q1 q2 q3 t) (hs : s = 1 ∨ s = -1) (v : V3) : My.sg (pval q0 q1 q2 q3 (app A v)) = My.sg (pval a b c d v) * s * t := by
  obtain ⟨l, hl, e⟩ := h.ex
  have e1 := congrArg My.sg (e v)
  rw [sg_mul hl, sg_s hs, sg_s h.ts] at e1
  have ht := h.ts
  have : t * t = 1 := by rcases ht with rfl | rfl <;> rfl
  have e2 : t * (t * My.sg (pval q0 q1 q2 q3 (app A v))) = t * (s * My.sg (pval a b c d v)) := by rw [e1]
  rw [← Int.mul_assoc, this, Int.one_mul] at e2
  rw [e2]
  grind
in #guard_msgs in universe u_z
theorem sg_val {x : Rat} : sg x = 1 ∨ sg x = 0 ∨ sg x = -1 := by
  rcases rat_tri 0 x with e | e | e
  · exact .inl (sg_pos e)
  · rw [← e]; exact .inr (.inl sg_0)
  · exact .inr (.inr (sg_neg e))
set_option Elab.async true in
theorem MH.of {A : M3} {a b c d s n0 n1 n2 n3 q0 q1 q2 q3 t g : Int} (h : HF n0 n1 n2 n3 q0 q1 q2 q3 t g) (e : ∃ l : Rat, 0 < l ∧ ∀ v : V3, pval n0 n1 n2 n3 (app A v) = l * ((s : Rat) * pval a b c d v)) : MH A a b c d s q0 q1 q2 q3 t := by
  obtain ⟨l, hl, e⟩ := e
  have gp : (0 : Rat) < (g : Rat) := by exact_mod_cast h.pos
  have gz : (g : Rat) ≠ 0 := by grind
  refine ⟨h.p, h.s, l / (g : Rat), (by rw [Rat.lt_div_iff gp]; grind), fun v => ?_⟩
  have e1 := e v
  rw [h.e0, h.e1, h.e2, h.e3] at e1
  have tt : (t : Rat) * (t : Rat) = 1 := by rcases h.s with rfl | rfl <;> simp <;> grind
  have e2 : pval (q0 * (t * g)) (q1 * (t * g)) (q2 * (t * g)) (q3 * (t * g)) (app A v) = (g : Rat) * ((t : Rat) * pval q0 q1 q2 q3 (app A v)) := by
    simp only [pval, Rat.intCast_mul]
    grind
  rw [e2] at e1
  generalize (t : Rat) * pval q0 q1 q2 q3 (app A v) = L at *
  generalize (s : Rat) * pval a b c d v = R at *
  have : L = (g : Rat) * L / (g : Rat) := by grind
  rw [this, e1]
  grind
in #guard_msgs in universe u_z
end My
namespace My
open PySem L2
section
variable {X : Cx} {K : PySem.W.Frag} {σ : L2.St} {H : Hp} {D : Ends} {te : TE} {ta : TA} {a b : Addr} {xs ys : List V}
end
end My
namespace My
open PySem L2
end My
namespace My
open PySem L2
theorem B.sg {x : Rat} : B 1 (sg x) := by
  rcases sg_val (x := x) with h | h | h <;> rw [h] <;> exact B.lit (by decide)
/-- a ratio that need not be in lowest terms -/
def QU (K : PySem.W.Frag) (H : Hp) (y : Addr) (q : Rat) (n d : Nat) : Prop := ∃ t b : Int, SqT K H y [.int t, .int b] ∧ b ≠ 0 ∧ (t : Rat) / (b : Rat) = q ∧ B n t ∧ B d b
theorem QU.of {K : PySem.W.Frag} {H : Hp} {y : Addr} {q : Rat} {n d : Nat} (h : SqT K H y [.int q.num, .int (q.den : Int)]) (b : BN n d q) : QU K H y q n d := ⟨_, _, h, denI q, ndd q, b.n, b.d⟩
/-- moves one behind another -/
def apps (ms : List M3) (p : V3) : V3 := ms.foldl (fun p A => app A p) p
def MvL (K : PySem.W.Frag) (H : Hp) (acc : List V) (ms : List M3) : Prop := Paired (fun v A => ∃ a : Addr, v = V.ref a ∧ Mv K H a A) acc ms
end My

namespace My
open PySem L2
section
variable {X : Cx} {K : PySem.W.Frag} {H : Hp} {Q : VK}
def rInsert : V → List V → Hp → VK → Prop := fun x vs H Q => ∃ (l : Addr) (xs : List V) (i : Int) (y : V), x = .ref l ∧ vs = [.int i, y] ∧ H l = some (.lst xs) ∧ xs.length < sizeLine ∧ 0 ≤ i ∧ i < 2 ^ 63 ∧ Q .non (upd H l (.lst (xs.take i.toNat ++ [y] ++ xs.drop i.toNat)))
end
/-- four quarter turns move nothing -/
def tw4 (p q r : V3) : Prop := comb (comb ⟨p, q, r, o3⟩ ⟨p, q, r, o3⟩) (comb ⟨p, q, r, o3⟩ ⟨p, q, r, o3⟩) = still
def tw2 (p q r : V3) : Prop := comb ⟨p, q, r, o3⟩ ⟨p, q, r, o3⟩ = still
def hD (a b c d s : Int) : PyData := .tuple [.tuple [.int a, .int b, .int c, .int d], .int s]
theorem PlF.nz {a b c d : Int} (h : PlF a b c d) : ¬ (a = 0 ∧ b = 0 ∧ c = 0) := by
  have := h.f
  simp only [Fst] at this
  omega
end My
namespace My
open PySem L2
/-- sums and products of ratios -/
def sm : List Rat → Rat
  | [] => 0
  | a :: r => a + sm r
def pm : List Rat → Rat
  | [] => 1
  | a :: r => a * pm r
theorem sm_app (xs ys : List Rat) : sm (xs ++ ys) = sm xs + sm ys := by
  induction xs with
  | nil => show sm ys = 0 + sm ys; grind
  | cons a r ih => show a + sm (r ++ ys) = a + sm r + sm ys; rw [ih]; grind
theorem pm_app (xs ys : List Rat) : pm (xs ++ ys) = pm xs * pm ys := by
  induction xs with
  | nil => show pm ys = 1 * pm ys; grind
  | cons a r ih => show a * pm (r ++ ys) = a * pm r * pm ys; rw [ih]; grind
/-- lists of ratios -/
def QtL (K : PySem.W.Frag) (H : Hp) (acc : List V) (qs : List Rat) : Prop := Paired (fun v q => ∃ a : Addr, v = V.ref a ∧ SqT K H a [.int q.num, .int (q.den : Int)]) acc qs
section
variable {K : PySem.W.Frag} {H H' : Hp} {acc : List V} {qs : List Rat}
theorem QtL.tk (e : TK K H H') (h : QtL K H acc qs) : QtL K H' acc qs := Paired.mapP h fun v p ⟨a, e1, e2⟩ => ⟨a, e1, e _ _ e2⟩
theorem QtL.len (h : QtL K H acc qs) : acc.length = qs.length := Paired.length h
theorem QtL.snoc {a : Addr} {q : Rat} (h : QtL K H acc qs) (r : SqT K H a [.int q.num, .int (q.den : Int)]) : QtL K H (acc ++ [.ref a]) (qs ++ [q]) := by
  unfold QtL at *
  induction h with
  | nil => exact .cons ⟨a, rfl, r⟩ .nil
  | cons r _ ih => exact .cons r ih
end
end My
namespace My
open PySem L2
def QL (K : PySem.W.Frag) (H : Hp) (l : Addr) (qs : List Rat) : Prop := ∃ acc, H l = some (.lst acc) ∧ QtL K H acc qs
theorem QtL.notS {K : PySem.W.Frag} {H : Hp} {acc : List V} {qs : List Rat} (h : QtL K H acc qs) : notS acc = true := by
  unfold QtL at h
  cases h with
  | nil => rfl
  | cons r t =>
    obtain ⟨a, rfl, _⟩ := r
    cases t with
    | nil => rfl
    | cons r2 t =>
      obtain ⟨a2, rfl, _⟩ := r2
      rfl
end My
namespace My
open PySem L2
end My

set_option Elab.async false
set_option maxRecDepth 100000
set_option linter.all false
/-! errors: raised without words, caught, told apart, handed to another def while they are handled -/
namespace My
open PySem L2 L2H PyProof.Rows PySem.Spec
section
variable {X : Cx} {C D : Addr} {bmB : List Value} {B newId initId : String}
set_option Elab.async true in
/-- X() of an own class without own __init__ -/
theorem pmk0 {x : Str} {p pos : Pos} (F : ExcBaseFacts B newId initId bmB) (q : PySem.W.excIn X.K C bmB newId = true) (gC : X.mg x = some (.ref C)) (kC : PySem.W.keepIn X.K (.ref C) = true)
    (r : Raises X (.ref C)) (hg : Gl X x) (hdb : (x == ("__debug__" : Str)) = false := by decide) : L2N.PMk X (.Call (.Name x p) [] [] pos) (fun _ H Q => Q (.ref C) none H) := fun pins s σ H Q I h => by
  refine wpAny_Call_Name_kw (ld_glob I hg gC (PySem.W.callWith_K0 I.kIn kC ?_) hdb)
  obtain ⟨bm, N, nm, qn, bs, hdct, sn, sub, ab, col, dd, k0, k1, k2, k3, k5, mN, c1, c2, c3, T⟩ := exc_obj I.kIn q
  exact wpAny_call_exc_subT F T c1 c2 c3 (fun h' e made => L2N.mk_of I made r h (I.hok.gone made.new)) (Nat.zero_le _)
in #guard_msgs in universe u_z
set_option Elab.async true in
/-- isinstance(e, c) of the exception that is pinned -/
theorem call_isP {p : Addr × Obj} (hp : p ∈ X.pn) (hx : ExcC X.K D) (hc : p.2.cls = .ref D) (hd : p.2.dict = none) (hf : ∃ vs, p.2.data = .fields vs) : CallR X (.builtin "isinstance") (rIsE X.K D p.1) := fun pins s σ H xs us Q I r h => by
  obtain ⟨c, cv, b, rfl, hcv, e, q⟩ := h
  obtain ⟨u1, u2, rfl, r1, r2⟩ := vals2 r
  cases r1
  have e2 := hcv _ r2
  subst e2
  have g := (I.pin p (List.mem_append_left _ hp)).1
  have at_ : PySem.W.InstAt s.heap p.1 p.2 D none := by
    obtain ⟨vs, hv⟩ := hf
    obtain ⟨a, oc, od, oda, osl⟩ := p
    simp only at hc hd hv
    subst hc hd hv
    exact ⟨g, rfl, rfl, trivial⟩
  exact PySem.W.kia_one (PySem.W.handS_kitx_exc hx.hg hx.hk hx.hs hx.hd hx.ha hx.hn hx.ht hx.hm) I.kIn at_ e (fun z => nomatch z) (fun tk => ⟨.bl b, H, I.tok tk, rfl, q⟩)
in #guard_msgs in universe u_z
end
/-- the block of a comprehension while an exception is handled: it stays pinned -/
abbrev hblk (X : Cx) (p : Addr × Obj) (s : Shared) (H : Hp) (scope : Scope) (ce : Env) (fp : List Addr) : Cx := { X.blk s H scope ce fp with pn := [p] }
section
variable {X : Cx} {p : Addr × Obj} {s s' : Shared} {H H' : Hp} {scope : Scope} {ce : Env} {fp : List Addr} {pins : List (Addr × Obj)} {σ : L2.St}
end
end My
namespace My
open PySem L2 L2H PyProof.Rows PySem.Spec
end My
namespace My
open PySem L2 L2H PyProof.Rows PySem.Spec
/-- a def that is handed the exception that is handled, one of the class D -/
structure FnE (P : Program) (w : World) (K : PySem.W.Frag) (mg : Str → Option Value) (base : Heap) (CX : CXT) (k : Nat) (D f : Addr) (fd : FuncData) (ps : List Str) (sp : Sp) : Prop where
  one : ps.length = 1
  run : ∀ (A : Around) (outer : List Env) (s : Shared) (H : Hp) (args : Args) (us : List Value) (Q : VK) (E : XK) (p : Addr × Obj), RoomH k A → Hot1 A p → (p.2.cls = .ref D ∧ p.2.dict = none) → PinOk outer H s p → Env0 P w K mg base A outer s H →
    BindsTo s fd args (ps.zip us) → Vals [V.ref p.1] us → sp [.ref p.1] H Q E → codeAny (model P w) A (.call (.ref f) args) (CR CX outer P w H s Q E) s
set_option Elab.async true in
theorem fn_ofE {CX : CXT} {P : Program} {w : World} {K : PySem.W.Frag} {mg : Str → Option Value} {base : Heap} {k : Nat} {D f : Addr} {name qual : Str} {params : Arguments} {body : List Stmt} {scope : Scope} {dV kV doc pm cdv ct oc : Value} {an od : Option Addr}
    {osl : Array (Option Value)} {N ps : List Str} {sp : Sp} (lk : K.lookup f = some ⟨oc, od, .func (PySem.W.fnOf name qual params body scope dV kV doc pm an cdv ct), osl⟩) (hcd : PySem.W.codeIn K cdv qual = true) (S : FnScope N ps scope) (one : ps.length = 1)
    (hbody : ∀ (A : Around) (outer : List Env) (s : Shared) (H : Hp) (Q : VK) (E : XK) (p : Addr × Obj), Hot1 A p → (p.2.cls = .ref D ∧ p.2.dict = none) → RoomH k (A.deeper (envOfC qual scope s.heap.objs.size f cdv)) → sp [.ref p.1] H Q E →
      ∃ t, PSs (cxH CX P w K mg base N qual scope f cdv A outer s H E p) body t ∧ t { nx := fun _ H' => Q .non H', rt := Q } (L2.start N [.ref p.1]) H) :
    FnE P w K mg base CX (k + 1) D f (PySem.W.fnOf name qual params body scope dV kV doc pm an cdv ct) ps sp where
  one := one
  run := fun A outer s H args us Q E p room hot cls pin e0 hb r h => by
    have stays : ∀ b o, base.get? b = some o → s.heap.get? b = some o := fun b o e => (e0.bs b o e).1
    have KX : K.In s.heap := e0.mod.kin.keeps stays
    have names : ∀ y ∈ ps.zip us, scope.names.lookup y.1 = some .local ∨ (scope.names.lookup y.1 = some .cell ∧ ((cellsFrom (s.heap.objs.size + 1) scope.names []).lookup y.1).isSome = true) := fun y hy =>
      (S.par y.1 (List.of_mem_zip hy).1).imp id (fun q => ⟨q, PySem.W.cellsFrom_some _ _ _ (.inl q)⟩)
    refine codeAny_call_function room.depth (KX _ _ lk) rfl S.co S.gen rfl (PySem.W.codeRec_of KX hcd) (hb _ _ _ _ (wpAny_newFunctionEnv_cells S.kind names (fun env he s1 x => ?_)))
    subst he
    refine ⟨(e0.mod.nolimit.keeps stays).keeps x.toInCall.keep, codeAny_func ?_⟩
    obtain ⟨t, ht, hq⟩ := hbody A outer s H Q E p hot cls (room.deeper _) h
    have I := inv_startH (CX := CX) (E := E) S pin e0 (show [V.ref p.1].length = ps.length from one.symm) r x
    refine wpAny_mono (ht.run [] s1 _ H _ I hq) (fun fl s' hs => ?_) (fun e s' hs => hs)
    cases fl with
    | next =>
      obtain ⟨σ', H', J, q⟩ := hs
      exact ⟨.non, H', J.os, J.bare, J.base, J.hok, rfl, q⟩
    | ret u =>
      obtain ⟨v, σ', H', J, rv, q⟩ := hs
      exact ⟨v, H', J.os, J.bare, J.base, J.hok, rv, q⟩
    | brk =>
      obtain ⟨_, _, _, q⟩ := hs
      exact False.elim q
    | cont =>
      obtain ⟨_, _, _, q⟩ := hs
      exact False.elim q
in #guard_msgs in universe u_z
/-- its call where the exception is handled -/
def tCallE (a : Addr) (sp : Sp) (t : TA) : TE := fun σ H Q => t σ H fun vs H1 => vs = [.ref a] ∧ sp [.ref a] H1 Q E0
section
variable {X : Cx} {k : Nat} {D f : Addr} {fd : FuncData} {ps : List Str} {sp : Sp} {x : Str} {q pos : Pos} {e : Expr} {es : List Expr} {t : TA} {p : Addr × Obj}
set_option Elab.async true in
theorem pe_callE (F : FnE X.prog X.w X.K X.mg X.base CX0 k D f fd ps sp) (hr : RoomH k X.A) (hot : Hot1 X.A p) (hp : p ∈ X.pn) (cls : p.2.cls = .ref D ∧ p.2.dict = none) (hg : Gl X x) (hm : X.mg x = some (.ref f)) (hk : PySem.W.keepIn X.K (.ref f) = true) (hb : Binds X.K fd ps [])
    (ha : PA X (e :: es) t) (hdb : (x == ("__debug__" : Str)) = false := by decide) (h1 : starEach (e :: es) X.env = (false, eval e X.env) :: starEach es X.env := by rfl) (h2 : (backTo pos (starEach es X.env)).any (·.1) = false := by rfl) :
    PE X (.Call (.Name x q) (e :: es) [] pos) (tCallE p.1 sp t) := ⟨fun pins s σ H Q I h => by
  refine wpAny_Call_Name_kw (ld_glob I hg hm ?_ hdb)
  refine PySem.W.callWith_K (h₀ := X.base) I.ok.mod.kin hk (thn (ha.run pos pins s σ H _ I h) (fun us s1 hh => ?_)) h1 h2
  obtain ⟨vs, H1, I1, r1, rfl, q1⟩ := hh
  refine ⟨I1.kIn, ?_⟩
  have b := hb s1 us I1.kIn (by rw [List.append_nil, ← r1.length]; exact F.one.symm)
  rw [List.append_nil] at b
  have P1 := I1.pin p (List.mem_append_left _ hp)
  have pin : PinOk X.stack H1 s1 p := ⟨P1.1, P1.2.1, fun hm => (List.mem_cons.mp (I1.stkSub p.1 hm)).elim P1.2.2.1 P1.2.2.2.1, P1.2.2.2.2⟩
  show wpAny _ _ (call (.ref f) us) _ _ _
  refine wpAny_call (codeAny_mono (F.run X.A X.stack s1 H1 ⟨us, []⟩ us Q E0 p hr hot cls pin I1.env0 b r1 q1) (fun r s' hq => ?_))
  cases r with
  | error er => exact pass0 pins σ H1 s1 er s' I1 hq
  | ok fl =>
    cases fl with
    | ret u => exact I1.after hq
    | next => exact False.elim hq
    | brk => exact False.elim hq
    | cont => exact False.elim hq⟩
in #guard_msgs in universe u_z
end
end My
namespace My
open PySem L2 L2H PyProof.Rows PySem.Spec
section
variable {P : Program} {w : World} {K : PySem.W.Frag} {mg : Str → Option Value} {base : Heap}
set_option Elab.async true in
/-- a def that may raise -/
theorem FunA.okX {x qual : Str} {st : Stmt} {f : Addr} {fd : FuncData} {N ps : List Str} {k : Nat} {sp : Sp} (F : FunA K x qual st f fd) (S : FnScope N ps (defScope st)) (len : ∀ vs H Q E, sp vs H Q E → vs.length = ps.length)
    (hbody : ∀ (cdv : Value) (A : Around) (outer : List Env) (s : Shared) (H : Hp) (vs : List V) (Q : VK) (E : XK), Room k (A.deeper (PyProof.Rows.envOfC qual (defScope st) s.heap.objs.size f cdv)) → sp vs H Q E →
      ∃ t, PSs (cxOf (L2N.CX P w) P w K mg base N qual (defScope st) f cdv A outer s H E) (defBody st) t ∧ t { nx := fun _ H' => Q .non H', rt := Q } (L2.start N vs) H) : FnOk P w K mg base (L2N.CX P w) (k + 1) f fd ps sp := by
  obtain ⟨oc, od, dV, kV, doc, pm, an, cdv, ct, osl, rfl, lk, hcd⟩ := F.ex
  exact fn_of lk hcd S len (hbody cdv)
in #guard_msgs in universe u_z
set_option Elab.async true in
/-- a def that is handed the exception -/
theorem FunA.okE {x qual : Str} {st : Stmt} {D f : Addr} {fd : FuncData} {N ps : List Str} {k : Nat} {sp : Sp} (F : FunA K x qual st f fd) (S : FnScope N ps (defScope st)) (one : ps.length = 1)
    (hbody : ∀ (cdv : Value) (A : Around) (outer : List Env) (s : Shared) (H : Hp) (Q : VK) (E : XK) (p : Addr × Obj), Hot1 A p → (p.2.cls = .ref D ∧ p.2.dict = none) → RoomH k (A.deeper (PyProof.Rows.envOfC qual (defScope st) s.heap.objs.size f cdv)) → sp [.ref p.1] H Q E →
      ∃ t, PSs (cxH CX0 P w K mg base N qual (defScope st) f cdv A outer s H E p) (defBody st) t ∧ t { nx := fun _ H' => Q .non H', rt := Q } (L2.start N [.ref p.1]) H) : FnE P w K mg base CX0 (k + 1) D f fd ps sp := by
  obtain ⟨oc, od, dV, kV, doc, pm, an, cdv, ct, osl, rfl, lk, hcd⟩ := F.ex
  exact fn_ofE lk hcd S one (hbody cdv)
in #guard_msgs in universe u_z
structure CalX (P : Program) (w : World) (K : PySem.W.Frag) (mg : Str → Option Value) (base : Heap) (x : Str) (k : Nat) (ps : List Str) (sp : Sp) : Prop where
  ex : ∃ (f : Addr) (fd : FuncData), FnOk P w K mg base (L2N.CX P w) k f fd ps sp ∧ mg x = some (.ref f) ∧ PySem.W.keepIn K (.ref f) = true ∧ Binds K fd ps []
structure CalE (P : Program) (w : World) (K : PySem.W.Frag) (mg : Str → Option Value) (base : Heap) (D : Addr) (x : Str) (k : Nat) (ps : List Str) (sp : Sp) : Prop where
  ex : ∃ (f : Addr) (fd : FuncData), FnE P w K mg base CX0 k D f fd ps sp ∧ mg x = some (.ref f) ∧ PySem.W.keepIn K (.ref f) = true ∧ Binds K fd ps []
end
section
variable {X : Cx} {x : Str} {p pos : Pos} {e : Expr} {es : List Expr} {t : TA} {k : Nat} {ps : List Str} {sp : Sp} {W : WX}
set_option Elab.async true in
/-- a call of a def that may raise -/
theorem pcS (C : CalX X.prog X.w X.K X.mg X.base x k ps sp) (hr : Room k X.A) (hg : Gl X x) (tk : L2N.Takes X W) (ha : PA X (e :: es) t) (hdb : (x == ("__debug__" : Str)) = false := by decide)
    (he : starEach (e :: es) X.env = (false, eval e X.env) :: starEach es X.env := by rfl) (hpl : (backTo pos (starEach es X.env)).any (·.1) = false := by rfl) :
    PE X (.Call (.Name x p) (e :: es) [] pos) (tCallS sp (WE W) t) := by
  obtain ⟨f, fd, F, hm, hk, hb⟩ := C.ex
  exact pe_callS F hr hg hm hk hb (fun σ => L2N.passAt tk σ) ha hdb he hpl
in #guard_msgs in universe u_z
set_option Elab.async true in
theorem pcE {q : Addr × Obj} {D : Addr} (C : CalE X.prog X.w X.K X.mg X.base D x k ps sp) (hr : RoomH k X.A) (hot : Hot1 X.A q) (hq : q ∈ X.pn) (cls : q.2.cls = .ref D ∧ q.2.dict = none) (hg : Gl X x) (ha : PA X (e :: es) t) (hdb : (x == ("__debug__" : Str)) = false := by decide)
    (h1 : starEach (e :: es) X.env = (false, eval e X.env) :: starEach es X.env := by rfl) (h2 : (backTo pos (starEach es X.env)).any (·.1) = false := by rfl) :
    PE X (.Call (.Name x p) (e :: es) [] pos) (tCallE q.1 sp t) := by
  obtain ⟨f, fd, F, hm, hk, hb⟩ := C.ex
  exact pe_callE F hr hot hq cls hg hm hk hb ha hdb h1 h2
in #guard_msgs in universe u_z
/-- a block's rule under a condition -/
theorem pss_if {R : Prop} {b : List Stmt} {t : TS} (h : R → PSs X b t) : PSs X b (fun D σ H => R ∧ t D σ H) := ⟨fun pins s σ H D I ⟨r, q⟩ => (h r).run pins s σ H D I q⟩
end
section
variable {K : PySem.W.Frag} {σ : L2.St} {H : Hp} {D : Ends} {te : TE} {tt : TT} {t : TA} {Q : VK}
theorem w_callS {sp : Sp} {E : L2.St → XK} (h : t σ H fun vs H1 => sp vs H1 Q (E σ)) : tCallS sp E t σ H Q := h
theorem w_callE {sp : Sp} {a : Addr} (h : t σ H fun vs H1 => vs = [.ref a] ∧ sp [.ref a] H1 Q E0) : tCallE a sp t σ H Q := h
theorem r_argE {a : Addr} {R : Prop} (h : R) : [V.ref a] = [V.ref a] ∧ R := ⟨rfl, h⟩
theorem r_isE {C a : Addr} {c : V} {cv : Value} {b : Bool} (hc : ClsV c cv) (e : PySem.W.kitOne K (.ref C) cv = some b) (h : Q (.bl b) H) : rIsE K C a [.ref a, c] H Q := ⟨c, cv, b, rfl, fun u r => hc.eq r, e, h⟩
end
end My
namespace My
open PySem L2 L2H PyProof.Rows PySem.Spec
section
variable {K : PySem.W.Frag} {C D : Addr} {b : Bool}
set_option Elab.async true in
theorem kit_ref (h1 : PySem.W.hasDictIn K C = true) (ht : PySem.W.typeIn K (.ref C) = some (.type "type")) (h : PySem.W.subIn K (.ref D) (.ref C) = some b) (ne : (Value.ref D == Value.ref C) = false) : PySem.W.kitOne K (.ref D) (.ref C) = some b := by
  obtain ⟨cd, hc, _⟩ := PySem.W.any_some h1
  have e : ((PySem.W.clsIn K C).isSome && PySem.W.typeIn K (.ref C) == some (.type "type")) = true := by rw [hc, ht] <;> rfl
  show (if (Value.ref D == Value.ref C) = true then some true else if ((PySem.W.clsIn K C).isSome && PySem.W.typeIn K (.ref C) == some (.type "type")) = true then PySem.W.subIn K (.ref D) (.ref C) else none) = some b
  rw [ne, if_neg Bool.false_ne_true, if_pos e]
  exact h
in #guard_msgs in universe u_z
theorem kit_self : PySem.W.kitOne K (.ref D) (.ref D) = some true := by
  show (if (Value.ref D == Value.ref D) = true then some true else _) = some true
  rw [if_pos (by simp)]
theorem kit_b {T : String} (hm : PySem.W.kitMeta T = true) (h : PySem.W.subIn K (.ref D) (.type T) = some b) : PySem.W.kitOne K (.ref D) (.type T) = some b := by
  show (if (Value.ref D == Value.type T) = true then some true else if PySem.W.kitMeta T = true then PySem.W.subIn K (.ref D) (.type T) else none) = some b
  rw [show (Value.ref D == Value.type T) = false from rfl, if_neg Bool.false_ne_true, if_pos hm]
  exact h
end
/-- a raise -/
def tRaise (C : Addr) (W : WX) : TS := fun _ σ H => W (.ref C) none σ H
section
variable {X : Cx} {C : Addr} {W : WX} {x : Str} {p cpos pos : Pos} {bmB : List Value} {B newId initId : String}
theorem ps_raise0 (hc : X.calm = true) (tk : L2N.Takes X W) (F : ExcBaseFacts B newId initId bmB) (q : PySem.W.excIn X.K C bmB newId = true) (gC : X.mg x = some (.ref C)) (kC : PySem.W.keepIn X.K (.ref C) = true)
    (b : PySem.W.subIn X.K (.ref C) (.type "BaseException") = some true) (t : PySem.W.typeIn X.K (.ref C) = some (.type "type")) (hg : Gl X x) (hdb : (x == ("__debug__" : Str)) = false := by decide) :
    PS X (.Raise (some (.Call (.Name x p) [] [] cpos)) none pos) (tRaise C W) := L2N.ps_raise hc tk (pmk0 F q gC kC (raises_own b t) hg hdb)
theorem takesN {X : Cx} : L2N.Takes X (fun _ _ _ _ => False) := fun _ _ x => by
  obtain ⟨_, _, _, _, _, _, _, _, _, _, _, _, _, _, _, _, z⟩ := x
  exact z.elim
theorem roomH_mark {k : Nat} {A : Around} {v : Option Value} (r : Room k A) : RoomH k (A.mark v) := ⟨r.dp, r.un⟩
theorem hot_of {A : Around} {a : Addr} {oe : Obj} {cls : Value} {d : Option Addr} (hz : L2N.Zn cls d oe) (hf : ∃ vs, oe.data = .fields vs) : Hot1 (A.mark (some (.ref a))) (a, oe) := ⟨rfl, hf.elim fun vs e => ⟨vs, e, hz.2.2 vs e⟩⟩
end
section
variable {K : PySem.W.Frag} {σ : L2.St} {H : Hp} {D : Ends} {u : TS} {W : WX} {C : Addr}
theorem w_raise (h : W (.ref C) none σ H) : tRaise C W D σ H := h
theorem w_asY {c cls : Value} {i : Nat} {ts : Addr → Value → Option Addr → TS} {Wo : WX} {d : Option Addr} (e : PySem.W.exmOne K cls c = some true)
    (h : ∀ a, H a = none → ts a cls d { nx := fun σ' H' => D.nx (σ'.set i none) H', rt := D.rt, bk := fun σ' H' => D.bk (σ'.set i none) H', ct := fun σ' H' => D.ct (σ'.set i none) H' } (σ.set i (some (.ref a))) H) :
    WE (wAs K c i ts Wo D) σ cls d H := ⟨true, e, fun _ => h, fun q => Bool.noConfusion q⟩
end
end My
namespace My
open PySem L2 L2H PyProof.Rows PySem.Spec
def tTry (K : PySem.W.Frag) (c : Value) (i : Nat) (ts : Addr → Value → Option Addr → TS) (Wo : WX) (tb : WX → TS) : TS := fun D σ H => tb (wAs K c i ts Wo D) D σ H
def tIfR (R : Prop) (t : TS) : TS := fun D σ H => R ∧ t D σ H
section
variable {X : Cx} {K : PySem.W.Frag} {x n : Str} {c : Value} {i : Nat} {body suite : List Stmt} {b₀ : Stmt} {np pos pos' : Pos} {tb : WX → TS} {ts : Addr → Value → Option Addr → TS} {Wo : WX}
set_option Elab.async true in
theorem ps_try0 (hK : X.K = K) (hs : X.stack = X.env :: X.outer) (hf : X.env.frame = some X.env.locals) (hN : X.N.Nodup) (hi : X.N[i]? = some n) (hln : X.env.kindOf n = some .local) (hc : Names X x c) (tk : L2N.Takes X Wo)
    (hb : ∀ (W : WX) (pn : List (Addr × Obj)) (xe : Value → Shared → Prop), L2N.Takes (X.tr pn xe) W → PassesOwn (model X.prog X.w) X.A X.env xe → PSs (X.tr pn xe) body (tb W))
    (hsu : ∀ (a : Addr) (oe : Obj) (cls : Value) (d : Option Addr) (pn : List (Addr × Obj)), L2N.Zn cls d oe → (∃ vs, oe.data = .fields vs) → PSs (X.suite a ((a, oe) :: pn)) (b₀ :: suite) (ts a cls d)) :
    PS X (.Try body [.ExceptHandler (some (.Name x np)) (some n) (b₀ :: suite) pos'] [] [] pos) (tTry K c i ts Wo tb) := by
  subst hK
  exact L2N.ps_try_as hs hf hN hi hln hc tk hb hsu
in #guard_msgs in universe u_z
theorem pss_ifR {R : Prop} {b : List Stmt} {t : TS} (h : R → PSs X b t) : PSs X b (tIfR R t) := pss_if h
variable {σ : L2.St} {H : Hp} {D : Ends} {u : TS}
theorem w_seqTry (h : tb (wAs K c i ts Wo { D with nx := u D }) { D with nx := u D } σ H) : tSeq (tTry K c i ts Wo tb) u D σ H := h
theorem w_tifR {R : Prop} {t : TS} (r : R) (h : t D σ H) : tIfR R t D σ H := ⟨r, h⟩
end
end My
namespace My
open PySem L2 L2H PyProof.Rows PySem.Spec
section
variable {X : Cx} {C D : Addr} {a : Addr} {oe : Obj} {x : Str} {p pos : Pos} {e : Expr} {es : List Expr} {t : TA} {k : Nat} {ps : List Str} {sp : Sp}
theorem pcA (C : CalE X.prog X.w X.K X.mg X.base D x k ps sp) (hr : RoomH k X.A) (hot : Hot1 X.A (a, oe)) (hq : (a, oe) ∈ X.pn) (hc : oe.cls = .ref D) (hd : oe.dict = none) (hg : Gl X x) (ha : PA X (e :: es) t) (hdb : (x == ("__debug__" : Str)) = false := by decide)
    (h1 : starEach (e :: es) X.env = (false, eval e X.env) :: starEach es X.env := by rfl) (h2 : (backTo pos (starEach es X.env)).any (·.1) = false := by rfl) :
    PE X (.Call (.Name x p) (e :: es) [] pos) (tCallE a sp t) := pcE (q := (a, oe)) C hr hot hq ⟨hc, hd⟩ hg ha hdb h1 h2
end
end My
namespace My
open PySem L2 L2H PyProof.Rows PySem.Spec
section
variable {X : Cx} {K : PySem.W.Frag} {C D : Addr} {a : Addr} {oe : Obj}
theorem kc_isP (hK : X.K = K) {p : Addr × Obj} (hp : p ∈ X.pn) (hx : ExcC K D) (hc : p.2.cls = .ref D) (hd : p.2.dict = none) (hf : ∃ vs, p.2.data = .fields vs) : CallR X (.builtin "isinstance") (rIsE K D p.1) := hK ▸ call_isP hp (hK ▸ hx) hc hd hf
theorem kc_isA (hK : X.K = K) (hp : (a, oe) ∈ X.pn) (hx : ExcC K D) (hc : oe.cls = .ref D) (hd : oe.dict = none) (hf : ∃ vs, oe.data = .fields vs) : CallR X (.builtin "isinstance") (rIsE K D a) := kc_isP hK (p := (a, oe)) hp hx hc hd hf
end
end My

set_option Elab.async false
set_option linter.all false
namespace My
open PySem L2
/-! lcm of four, the last one wider -/
def rLcm4d : List V → Hp → VK → Prop := fun xs H Q => ∃ (a b c d : Int) (k k2 : Nat), xs = [.int a, .int b, .int c, .int d] ∧ 0 < a ∧ 0 < b ∧ 0 < c ∧ 0 < d ∧ B k a ∧ B k b ∧ B k c ∧ B k2 d ∧ 3 * k + k2 ≤ 13400 ∧
  ∀ L : Int, 0 < L → a ∣ L → b ∣ L → c ∣ L → d ∣ L → (∀ D : Int, a ∣ D → b ∣ D → c ∣ D → d ∣ D → L ∣ D) → Q (.int L) H
theorem SqT.ofNeg {K : PySem.W.Frag} {H : Hp} {a : Addr} {q : Rat} (h : SqT K H a [.int (-q.num), .int (q.den : Int)]) : SqT K H a [.int (-q).num, .int ((-q).den : Int)] := by
  rw [Rat.neg_num, Rat.neg_den]; exact h
/-! planes along a direction -/
structure Pla (n : V3) (t : Rat) (a b c d s : Int) : Prop where
  p : PlF a b c d
  hs : s = 1 ∨ s = -1
  ex : ∃ l : Rat, 0 < l ∧ ((s * a : Int) : Rat) = l * n.x ∧ ((s * b : Int) : Rat) = l * n.y ∧ ((s * c : Int) : Rat) = l * n.z ∧ ((s * d : Int) : Rat) = l * t
set_option Elab.async true in
theorem Pla.of {n : V3} {t : Rat} {e f : Nat} {n0 n1 n2 n3 n4 p0 p1 p2 p3 s g : Int} (w : WR e f n t n0 n1 n2 n3 n4) (h : HF n0 n1 n2 n3 p0 p1 p2 p3 s g) : Pla n t p0 p1 p2 p3 s := by
  have gp : (0 : Rat) < (g : Rat) := by exact_mod_cast h.pos
  have lp : (0 : Rat) < (n4 : Rat) := by exact_mod_cast w.pos
  refine ⟨h.p, h.s, (n4 : Rat) / (g : Rat), by rw [Rat.div_def]; exact Rat.mul_pos lp (Rat.inv_pos.2 gp), ?_, ?_, ?_, ?_⟩
  · have e := h.e0 ▸ w.e0
    simp only [Rat.intCast_mul] at *
    grind
  · have e := h.e1 ▸ w.e1
    simp only [Rat.intCast_mul] at *
    grind
  · have e := h.e2 ▸ w.e2
    simp only [Rat.intCast_mul] at *
    grind
  · have e := h.e3 ▸ w.e3
    simp only [Rat.intCast_mul] at *
    grind
in #guard_msgs in universe u_z
def nrm (p q r : V3) : V3 := cr (vsb q p) (vsb r p)
def Lin (p q r : V3) : Prop := (nrm p q r).x = 0 ∧ (nrm p q r).y = 0 ∧ (nrm p q r).z = 0
def off (p q r v : V3) : Rat := dt (nrm p q r) (vsb v p)
def PTh (p q r : V3) (a b c d : Int) : Prop := ∃ s, Pla (nrm p q r) (-(dt (nrm p q r) p)) a b c d s
theorem off_p {p q r : V3} : off p q r p = 0 := by simp only [off, dt, vsb]; grind
theorem off_q {p q r : V3} : off p q r q = 0 := by simp only [off, nrm, cr, dt, vsb]; grind
theorem off_r {p q r : V3} : off p q r r = 0 := by simp only [off, nrm, cr, dt, vsb]; grind
/-- the three dens -/
def dn (p : V3) : Int := (p.x.den : Int) * (p.y.den : Int) * (p.z.den : Int)
/-- an integer that is a plane's value over a bottom -/
def VT (a b c d : Int) (p : V3) (t m : Int) : Prop := 0 < m ∧ (t : Rat) = pval a b c d p * (m : Rat)
theorem VT.zero {a b c d t m : Int} {p : V3} (h : VT a b c d p t m) : t = 0 ↔ pval a b c d p = 0 := by
  have mz : (m : Rat) ≠ 0 := by have := h.1; exact_mod_cast (show m ≠ 0 by omega)
  constructor
  · intro e
    have := h.2
    rw [e] at this
    exact (Rat.mul_eq_zero.1 this.symm).resolve_right mz
  · intro e
    have := h.2
    rw [e, Rat.zero_mul] at this
    exact_mod_cast this
theorem VT.pos {a b c d t m : Int} {p : V3} (h : VT a b c d p t m) : 0 < t ↔ 0 < pval a b c d p := by
  have mp : (0 : Rat) < (m : Rat) := by have := h.1; exact_mod_cast this
  have e := h.2
  constructor
  · intro ht
    have : (0 : Rat) < (t : Rat) := by exact_mod_cast ht
    rw [e] at this
    exact (Rat.mul_pos_iff_of_pos_right mp).1 this
  · intro hp
    have := Rat.mul_pos hp mp
    rw [← e] at this
    exact_mod_cast this
theorem VT.neg {a b c d t m : Int} {p : V3} (h : VT a b c d p t m) : t < 0 ↔ pval a b c d p < 0 := by
  have h1 := h.zero
  have h2 := h.pos
  constructor
  · intro ht
    have n1 : ¬ 0 < pval a b c d p := fun e => by have := h2.2 e; omega
    have n2 : pval a b c d p ≠ 0 := fun e => by have := h1.2 e; omega
    grind
  · intro hp
    have n1 : ¬ 0 < t := fun e => by have := h2.1 e; grind
    have n2 : t ≠ 0 := fun e => by have := h1.1 e; grind
    omega
theorem VT.sg {a b c d t m : Int} {p : V3} (h : VT a b c d p t m) {r : Int} (h1 : t > 0 → r = 1) (h2 : t < 0 → r = -1) (h3 : t = 0 → r = 0) : r = My.sg (pval a b c d p) := by
  rcases Int.lt_trichotomy t 0 with e | e | e
  · rw [h2 e, sg_neg (h.neg.1 e)]
  · rw [h3 e, h.zero.1 e, sg_0]
  · rw [h1 e, sg_pos (h.pos.1 e)]
theorem VT.q {a b c d t m : Int} {p : V3} (h : VT a b c d p t m) : (t : Rat) / (m : Rat) = pval a b c d p := by
  have mz : (m : Rat) ≠ 0 := by have := h.1; exact_mod_cast (show m ≠ 0 by omega)
  rw [h.2]
  grind
section
variable {K : PySem.W.Frag} {H H0 : Hp} {s l : Addr}
theorem VcL.set {acc : List V} {ps : List V3} (h : VcL K H acc ps) {j : Nat} {x : Addr} {p : V3} (hv : Vc K H x p) : VcL K H (acc.set j (.ref x)) (ps.set j p) := by
  unfold VcL at *
  induction h generalizing j with
  | nil => exact .nil
  | cons r t ih =>
    cases j with
    | zero => exact .cons ⟨x, rfl, hv⟩ t
    | succ j => exact .cons r ih
theorem r_setV {ps : List V3} {p : V3} {x : Addr} {Q : Hp → Prop} {k : Int} {j : Nat} (nl : H0 l = none) (st0 : St K H0 s) (e : Fr s H0 H) (st : St K H s) (h : VL K H l ps) (hv : Vc K H x p) (ix : ixN ps.length k = some j)
    (q : ∀ H1, Fr s H0 H1 → St K H1 s → TK K H H1 → VL K H1 l (ps.set j p) → Q H1) : rSetL (.ref l) (.int k) (.ref x) H Q := by
  obtain ⟨acc, ha, hacc⟩ := h
  exact r_setK (K := K) nl st0 e st ha (by rw [hacc.len]; exact ix) rfl (fun H1 f1 s1 hl kp => q H1 f1 s1 kp ⟨_, hl, (hacc.tk kp).set (hv.tk kp)⟩)
end
/-- an integer or a ratio -/
def RvQ (K : PySem.W.Frag) (H : Hp) (v : V) (q : Rat) : Prop := (∃ z : Int, v = .int z ∧ q = (z : Rat)) ∨ ∃ a : Addr, v = .ref a ∧ SqT K H a [.int q.num, .int (q.den : Int)]
end My

set_option Elab.async false
set_option linter.all false
set_option maxRecDepth 100000
/-! plain data of any shape: read, copied, bent -/
namespace My
open PySem L2 PySem.Spec PyProof.Rows
/-! data whose lists stand off the addresses N -/
mutual
inductive Dn (K : PySem.W.Frag) (N : List Addr) (H : Hp) : V → PyData → Prop
  | non : Dn K N H .non .none
  | bl (b : Bool) : Dn K N H (.bl b) (.bool b)
  | int (i : Int) : Dn K N H (.int i) (.int i)
  | str (x : Str) : Dn K N H (.str x) (.str x)
  | lst {a : Addr} {xs : List V} {ds : List PyData} : a ∉ N → H a = some (.lst xs) → DnA K N H xs ds → Dn K N H (.ref a) (.list ds)
  | tup {a : Addr} {xs : List V} {ds : List PyData} : SqT K H a xs → DnA K N H xs ds → Dn K N H (.ref a) (.tuple ds)
inductive DnA (K : PySem.W.Frag) (N : List Addr) (H : Hp) : List V → List PyData → Prop
  | nil : DnA K N H [] []
  | cons {v : V} {vs : List V} {d : PyData} {ds : List PyData} : Dn K N H v d → DnA K N H vs ds → DnA K N H (v :: vs) (d :: ds)
end
mutual
theorem Dn.mp {K : PySem.W.Frag} {N N' : List Addr} {H H' : Hp} (hl : ∀ a xs, a ∉ N → H a = some (.lst xs) → a ∉ N' ∧ H' a = some (.lst xs)) (ht : TK K H H') : ∀ {v : V} {d : PyData}, Dn K N H v d → Dn K N' H' v d
  | _, _, .non => .non
  | _, _, .bl b => .bl b
  | _, _, .int i => .int i
  | _, _, .str x => .str x
  | _, _, .lst n h a => .lst (hl _ _ n h).1 (hl _ _ n h).2 (DnA.mp hl ht a)
  | _, _, .tup h a => .tup (ht _ _ h) (DnA.mp hl ht a)
theorem DnA.mp {K : PySem.W.Frag} {N N' : List Addr} {H H' : Hp} (hl : ∀ a xs, a ∉ N → H a = some (.lst xs) → a ∉ N' ∧ H' a = some (.lst xs)) (ht : TK K H H') : ∀ {vs : List V} {ds : List PyData}, DnA K N H vs ds → DnA K N' H' vs ds
  | _, _, .nil => .nil
  | _, _, .cons h a => .cons (Dn.mp hl ht h) (DnA.mp hl ht a)
end
mutual
theorem Dn.dp {K : PySem.W.Frag} {N : List Addr} {H : Hp} : ∀ {v : V} {d : PyData}, Dn K N H v d → Dp K H v d
  | _, _, .non => .non
  | _, _, .bl b => .bl b
  | _, _, .int i => .int i
  | _, _, .str x => .str x
  | _, _, .lst n h a => .lst (SqL.of h) (DnA.dp a)
  | _, _, .tup h a => .tup h (DnA.dp a)
theorem DnA.dp {K : PySem.W.Frag} {N : List Addr} {H : Hp} : ∀ {vs : List V} {ds : List PyData}, DnA K N H vs ds → DpAll K H vs ds
  | _, _, .nil => .nil
  | _, _, .cons h a => .cons (Dn.dp h) (DnA.dp a)
end
section
variable {K : PySem.W.Frag} {N N' : List Addr} {H H' : Hp} {v : V} {d : PyData} {vs : List V} {ds : List PyData}
theorem Dn.same (e : Same H H') (h : Dn K N H v d) : Dn K N H' v d := h.mp (fun _ _ n h => ⟨n, e _ _ h⟩) (TK.same e)
theorem DnA.same (e : Same H H') (h : DnA K N H vs ds) : DnA K N H' vs ds := h.mp (fun _ _ n h => ⟨n, e _ _ h⟩) (TK.same e)
theorem DnA.upd {l : Addr} {xs : List V} {o : HO} (hN : l ∈ N) (hl : H l = some (.lst xs)) (h : DnA K N H vs ds) : DnA K N (L2.upd H l o) vs ds :=
  h.mp (fun a _ n h => ⟨n, (upd_ne (fun e => n (e ▸ hN))).trans h⟩) (TK.upd hl)
theorem DnA.add {l : Addr} (hl : H l = none) (h : DnA K N H vs ds) : DnA K (l :: N) H vs ds :=
  h.mp (fun a _ n h => ⟨fun e => (List.mem_cons.1 e).elim (fun e => by rw [e, hl] at h; cases h) n, h⟩) (TK.refl _ _)
theorem Dn.fr {st : Addr} (e : Fr st H H') (hs : My.St K H st) (hN : st ∈ N) (h : Dn K N H v d) : Dn K N H' v d :=
  h.mp (fun a _ n h => ⟨n, e.keep _ _ (fun q => n (q ▸ hN)) h⟩) (TK.fr e hs)
theorem DnA.len (h : DnA K N H vs ds) : vs.length = ds.length := DpAll.len h.dp
theorem DnA.get : ∀ {vs : List V} {ds : List PyData} (_ : DnA K N H vs ds) {i : Nat} {x : V} (_ : vs[i]? = some x), ∃ d, ds[i]? = some d ∧ Dn K N H x d
  | _, _, .nil, _, _, e => by simp at e
  | _, _, .cons a t, 0, _, e => by cases e; exact ⟨_, rfl, a⟩
  | _, _, .cons a t, i + 1, _, e => DnA.get t e
theorem DnA.append {vs' : List V} {ds' : List PyData} : ∀ {vs : List V} {ds : List PyData} (_ : DnA K N H vs ds) (_ : DnA K N H vs' ds'), DnA K N H (vs ++ vs') (ds ++ ds')
  | _, _, .nil, h => h
  | _, _, .cons a t, h => .cons a (DnA.append t h)
theorem DnA.drop : ∀ {vs : List V} {ds : List PyData} (_ : DnA K N H vs ds) (n : Nat), DnA K N H (vs.drop n) (ds.drop n)
  | _, _, .nil, n => by simp only [List.drop_nil]; exact .nil
  | _, _, .cons a t, 0 => .cons a t
  | _, _, .cons a t, n + 1 => DnA.drop t n
theorem DnA.take : ∀ {vs : List V} {ds : List PyData} (_ : DnA K N H vs ds) (n : Nat), DnA K N H (vs.take n) (ds.take n)
  | _, _, .nil, n => by simp only [List.take_nil]; exact .nil
  | _, _, .cons a t, 0 => .nil
  | _, _, .cons a t, n + 1 => .cons a (DnA.take t n)
/-- addresses that are there -/
def Al (H : Hp) (N : List Addr) : Prop := ∀ a, a ∈ N → H a ≠ none
theorem Al.same (e : Same H H') (h : Al H N) : Al H' N := fun a q z => by
  have := h a q
  cases hh : H a with
  | none => exact this hh
  | some o => rw [e _ _ hh] at z; cases z
theorem Al.st {st : Addr} (hs : My.St K H st) : Al H [st] := fun a q => by
  rw [List.mem_singleton.1 q]; exact hs.some
theorem Al.cons {l : Addr} {o : HO} (hl : H l = some o) (h : Al H N) : Al H (l :: N) := fun a q z => by
  rcases List.mem_cons.1 q with rfl | q
  · rw [hl] at z; cases z
  · exact h a q z
theorem Al.new {p : Addr} (h : Al H N) (hp : H p = none) : p ∉ N := fun q => h p q hp
end
/-- what a value is made of: small ints, short texts, lists and tuples no deeper than n -/
def Pd : Nat → PyData → Prop
  | 0, _ => False
  | _ + 1, .none => True
  | _ + 1, .bool _ => True
  | _ + 1, .int i => B 1100 i
  | _ + 1, .str x => x.length ≤ 100
  | n + 1, .list ds => ds.length ≤ 150 ∧ ∀ d, d ∈ ds → Pd n d
  | n + 1, .tuple ds => ds.length ≤ 150 ∧ ∀ d, d ∈ ds → Pd n d
  | _ + 1, _ => False
/-- the same behind a bend -/
def Pe : Nat → PyData → Prop
  | 0, _ => False
  | _ + 1, .none => True
  | _ + 1, .bool _ => True
  | _ + 1, .int _ => True
  | _ + 1, .str _ => True
  | n + 1, .list ds => ds.length ≤ 400 ∧ ∀ d, d ∈ ds → Pe n d
  | n + 1, .tuple ds => ds.length ≤ 400 ∧ ∀ d, d ∈ ds → Pe n d
  | _ + 1, _ => False
/-- some data no deeper than n -/
def Pn (K : PySem.W.Frag) (N : List Addr) (H : Hp) (n : Nat) (v : V) : Prop := ∃ d, Dn K N H v d ∧ Pe n d
def PnA (K : PySem.W.Frag) (N : List Addr) (H : Hp) (n m : Nat) (vs : List V) : Prop := ∃ ds, DnA K N H vs ds ∧ (∀ d, d ∈ ds → Pe n d) ∧ vs.length ≤ m
section
variable {K : PySem.W.Frag} {N N' : List Addr} {H H' : Hp} {v : V} {vs ws : List V} {n m m' : Nat} {a : Addr}
theorem Pn.int (i : Int) : Pn K N H (n + 1) (.int i) := ⟨_, .int i, trivial⟩
theorem Pn.str (x : Str) : Pn K N H (n + 1) (.str x) := ⟨_, .str x, trivial⟩
theorem Al.new' {p : Addr} (hp : H p = none) (h : Al H N) : p ∉ N := h.new hp
theorem r_catB {Q : VK} {a b : Addr} {xs ys : List V} (ha : SqT K H a xs) (hb : SqT K H b ys) (hn : xs.length + ys.length ≤ 100000) (h : ∀ p H1, Same H H1 → SqT K H1 p (xs ++ ys) → Q (.ref p) H1) : rCatA K (.ref a) (.ref b) H Q := r_catA ha hb rfl (decide_eq_true hn) h
end
/-! kinds -/
def kdD : PyData → String
  | .none => "NoneType" | .bool _ => "bool" | .int _ => "int" | .str _ => "str" | .list _ => "list" | .tuple _ => "tuple" | _ => "dict"
section
variable {K : PySem.W.Frag} {N : List Addr} {H : Hp} {v : V} {d : PyData} {Q : VK}
set_option Elab.async true in
theorem _root_.My.Dp.ty (h : Dp K H v d) : TyX K H v (.type (kdD d)) := by
  cases h with
  | non => exact .base .non
  | bl b => exact .base (.bl b)
  | int i => exact .base (.int i)
  | str x => exact .base (.str x)
  | lst h _ =>
    rcases h with (h | ⟨o, h⟩) | ⟨o, its, n, ho, hc, _⟩
    · exact .base (.lst h)
    · exact .base (.frz h)
    · exact .kList ho hc
  | tup h _ =>
    rcases h with (h | ⟨o, h⟩) | ⟨o, its, n, ho, hc, _⟩
    · exact .base (.tup h)
    · exact .fTuple h
    · exact .kTuple ho hc
in #guard_msgs in universe u_z
theorem r_isD {n : String} {b : Bool} (h : Dp K H v d) (e : kitB (kdD d) n = some b) (q : Q (.bl b) H) : rIsi K [v, .ty n] H Q := ⟨v, .ty n, _, _, b, rfl, .ty n, Dp.ty h, kit_ty e, q⟩
end
/-! isinstance(x, (A, B)) -/
section
variable {X : Cx} {K : PySem.W.Frag} {H : Hp} {Q : VK} {v : V} {d : PyData}
theorem kc_isiT (h : X.K = K) : CallR X (.builtin "isinstance") (rIsiT K) := h ▸ call_isiT
def seqD : PyData → Bool
  | .tuple _ => true
  | .list _ => true
  | _ => false
set_option Elab.async true in
theorem r_isLT {tp : Addr} {b : Bool} (ht : H tp = some (.tup [.ty "list", .ty "tuple"])) (h : Dp K H v d) (e : seqD d = b) (q : Q (.bl b) H) : rIsiT K [v, .ref tp] H Q := by
  refine ⟨v, tp, _, _, [.type "list", .type "tuple"], b, rfl, ht, .cons (.ty _) (.cons (.ty _) .nil), Dp.ty h, ?_, q⟩
  subst e
  cases d with
  | list _ => exact kitAny_cons (b := true) (kit_ty (by dsimp only [kdD]; decide +kernel)) (fun e => nomatch e) (fun _ => rfl)
  | tuple _ => exact kitAny_cons (b := false) (kit_ty (by dsimp only [kdD]; decide +kernel)) (fun _ => kitAny_cons (b := true) (kit_ty (by dsimp only [kdD]; decide +kernel)) (fun e => nomatch e) (fun _ => rfl)) (fun e => nomatch e)
  | _ => exact kitAny_cons (b := false) (kit_ty (by dsimp only [kdD]; decide +kernel)) (fun _ => kitAny_cons (b := false) (kit_ty (by dsimp only [kdD]; decide +kernel)) (fun _ => kitAny_nil) (fun e => nomatch e)) (fun e => nomatch e)
in #guard_msgs in universe u_z
/-! for x in a list or a tuple -/
theorem PI.or {tg e : Expr} {w1 w2 : L2.TI} (h1 : PI X tg e w1) (h2 : PI X tg e w2) : PI X tg e (fun σ H R => w1 σ H R ∨ w2 σ H R) := ⟨fun pins s σ H R I hw => hw.elim (h1.run pins s σ H R I) (h2.run pins s σ H R I)⟩
def iAny (K : PySem.W.Frag) (te : TE) : L2.TI := fun σ H R => iList K te σ H R ∨ iTup K te σ H R
theorem kp_any (h : X.K = K) {tg e : Expr} {te : TE} (he : PE X e te) : PI X tg e (iAny K te) := PI.or (kp_list h he) (kp_tup h he)
theorem w_iAL {te : TE} {σ : L2.St} {R : It → Hp → Prop} (h : te σ H fun x H1 => iL K x H1 R) : iAny K te σ H R := .inl h
theorem w_iAT {te : TE} {σ : L2.St} {R : It → Hp → Prop} (h : te σ H fun x H1 => iT K x H1 R) : iAny K te σ H R := .inr h
theorem ks_tupA (h : X.K = K) : SlR X (rSlA K) := h ▸ sl_tupA
theorem r_slA {a : Addr} {xs : List V} {lo hi : Option Int} (q : SqT K H a xs) (h : ∀ p H1, Same H H1 → SqT K H1 p (cutV xs lo hi) → Q (.ref p) H1) : rSlA K (.ref a) lo hi H Q := by
  refine ⟨a, xs, rfl, q, fun e => h a H (Same.refl _) ?_, fun _ p np => h p _ (Same.new np) (SqT.of upd_same)⟩
  unfold cutV
  rw [e.1, e.2, List.drop_zero, Nat.sub_zero, List.take_of_length_le (Nat.le_refl _)]
  exact q
/-! t[::-1] -/
def rRevT (K : PySem.W.Frag) : V → Option Int → Hp → VK → Prop := fun x o H Q => o = some (-1) ∧ ∃ a xs, x = .ref a ∧ SqT K H a xs ∧ ∀ p, H p = none → Q (.ref p) (L2.upd H p (.tup xs.reverse))
def tRevT (K : PySem.W.Frag) (te : TE) (th : TO) : TE := fun σ H Q => te σ H fun x H1 => th σ H1 fun o H2 => rRevT K x o H2 Q
theorem rev_adj (n : Nat) : Builtin.Slice.sliceAdjust none none (-1) (n : Int) = ((n : Int) - 1, -1) := by
  unfold Builtin.Slice.sliceAdjust
  simp
theorem rev_places (n : Nat) : Builtin.Slice.slicePlaces ((n : Int) - 1) (-1) (-1) = n := by
  unfold Builtin.Slice.slicePlaces
  simp only [show ¬ ((-1 : Int) > 0) by decide, if_false, show (-(-1 : Int)) = 1 by decide, Int.ediv_one]
  split <;> omega
set_option Elab.async true in
theorem rev_pick (xs : Array Value) : ((List.range xs.size).filterMap fun (m : Nat) => xs[(((xs.size : Int) - 1) + (m : Int) * (-1)).toNat]?).toArray = xs.toList.reverse.toArray := by
  have e : (List.range xs.size).filterMap (fun (m : Nat) => xs[(((xs.size : Int) - 1) + (m : Int) * (-1)).toNat]?) = ((List.range xs.size).map fun m => xs.size - 1 - m).filterMap (xs[·]?) := by
    rw [List.filterMap_map]
    have g : ∀ l : List Nat, (∀ m, m ∈ l → m < xs.size) → l.filterMap (fun (m : Nat) => xs[(((xs.size : Int) - 1) + (m : Int) * (-1)).toNat]?) = l.filterMap ((xs[·]?) ∘ fun m => xs.size - 1 - m) := by
      intro l
      induction l with
      | nil => intro _; rfl
      | cons m t ih =>
        intro h
        have hm := h m (by simp)
        have e : xs[(((xs.size : Int) - 1) + (m : Int) * (-1)).toNat]? = xs[xs.size - 1 - m]? := by
          congr 1
          omega
        rw [List.filterMap_cons, List.filterMap_cons, ih fun k hk => h k (by simp [hk])]
        have e2 : xs[(((xs.size : Int) - 1) + (m : Int) * (-1)).toNat]? = ((fun x => xs[x]?) ∘ fun m => xs.size - 1 - m) m := e
        rw [e2]
    exact g _ fun m hm => List.mem_range.1 hm
  rw [e, PySem.W.krv_range, List.filterMap_reverse, PySem.W.krv_all]
in #guard_msgs in universe u_z
/-! texts -/
def rCatX : R2 := fun x y H Q => ∃ i j, x = .str i ∧ y = .str j ∧ i.length + j.length ≤ sizeLine ∧ Q (.str (i ++ j)) H
def rUp : V → List V → Hp → VK → Prop := fun x xs H Q => ∃ a, x = .str a ∧ xs = [] ∧ a.length ≤ 5592405 ∧ Q (.str (Txt.upper a)) H
def upP (x : V) (H : Hp) (Q : VK) : Prop := (∃ a, x = .str a) ∧ rUp x [] H Q
def rStrI : List V → Hp → VK → Prop := fun xs H Q => ∃ i, xs = [.int i] ∧ i.natAbs.log2 < 1920 ∧ Q (.str (toString i)) H
/-! x in a tuple of texts -/
def inSt (ss : List Str) : PyData → Bool
  | .str z => ss.any fun y => y == z
  | _ => false
def rInS (K : PySem.W.Frag) : R2 := fun x y H Q => ∃ p ss d, y = .ref p ∧ SqT K H p (ss.map V.str) ∧ Dp K H x d ∧ Q (.bl (inSt ss d)) H
def isSt (d : PyData) (u : Value) : Bool := match u, d with
  | .str y _, .str z => y == z
  | _, _ => false
theorem any_isSt : ∀ {ss : List Str} {us : List Value}, Vals (ss.map V.str) us → us.any (isSt d) = inSt ss d
  | [], _, r => by
    cases r
    cases d <;> rfl
  | y :: ss, _, r => by
    cases r with
    | cons r1 rs =>
      obtain ⟨t, rfl⟩ := r1
      rw [List.any_cons, any_isSt rs]
      cases d <;> simp [isSt, inSt]
/-! all([..]) -/
theorem kc_all (h : X.K = K) (hc : X.calm = true) : CallR X (.builtin "all") (rAll K) := h ▸ cr_all hc
theorem r_all {a : Addr} {bs : List Bool} (q : SqL K H a (bs.map V.bl)) (h : Q (.bl (bs.all id)) H) : rAll K [.ref a] H Q := ⟨a, bs, rfl, q, h⟩
/-! a global that is a tuple of the module's top -/
def GT (K : PySem.W.Frag) (mg : Str → Option Value) (x : Str) (xs : List V) : Prop := ∃ a, mg x = some (.ref a) ∧ ∀ H, SqT K H a xs
def tGT (K : PySem.W.Frag) (xs : List V) : TE := fun _ H Q => ∀ a, SqT K H a xs → Q (.ref a) H
/-! x is True, of a bool -/
theorem r_isBb {b c : Bool} (h : Q (.bl (decide (b = c))) H) : rIsB (.bl b) (.bl c) H Q := ⟨c, rfl, by
  have e : decide (V.bl b = V.bl c) = decide (b = c) := by cases b <;> cases c <;> rfl
  rw [e]
  exact h⟩
theorem r_isBs {b : Bool} {x : Str} (h : Q (.bl false) H) : rIsB (.str x) (.bl b) H Q := ⟨b, rfl, h⟩
theorem r_isNb {b : Bool} (h : Q (.bl false) H) : rIsNo (.bl b) .non H Q := ⟨rfl, h⟩
theorem r_isNs {x : Str} (h : Q (.bl false) H) : rIsNo (.str x) .non H Q := ⟨rfl, h⟩
end
section
variable {X : Cx} {K : PySem.W.Frag} {H : Hp} {Q : VK} {D a : Addr} {oe : Obj}
/-- isinstance(e, (A, B, ..)), e the exception held -/
def rIsAT (K : PySem.W.Frag) (D a : Addr) : List V → Hp → VK → Prop := fun xs H Q => ∃ (tp : Addr) (cs : List V) (us : List Value) (b : Bool), xs = [.ref a, .ref tp] ∧ H tp = some (.tup cs) ∧ Paired ClsV cs us ∧ PySem.W.kitAny K (.ref D) us = some b ∧ Q (.bl b) H
set_option Elab.async true in
theorem kc_isAT (hK : X.K = K) (hp : (a, oe) ∈ X.pn) (hx : ExcC K D) (hc : oe.cls = .ref D) (hd : oe.dict = none) (hf : ∃ vs, oe.data = .fields vs) : CallR X (.builtin "isinstance") (rIsAT K D a) := by
  subst hK
  intro pins s σ H xs us Q I r h
  obtain ⟨tp, cs, ws, b, rfl, hT, k, e, q⟩ := h
  obtain ⟨u1, u2, rfl, r1, r2⟩ := vals2 r
  cases r1
  cases (show u2 = Value.ref tp from r2)
  have g := (I.pin (a, oe) (List.mem_append_left _ hp)).1
  have at_ : PySem.W.InstAt s.heap a oe D none := by
    obtain ⟨vs, hv⟩ := hf
    obtain ⟨oc, od, oda, osl⟩ := oe
    simp only at hc hd hv
    subst hc hd hv
    exact ⟨g, rfl, rfl, trivial⟩
  obtain ⟨_, its, rv, o, h1, h2, n, h3⟩ := (show ObjOk X.prog X.w H s.heap tp (.tup cs) from I.hok tp _ hT)
  have e3 := ClsV.all k rv
  subst e3
  obtain ⟨oc, od, dt, sl⟩ := o
  simp only at h2 h3
  subst h2 h3
  exact PySem.W.kia_tup (PySem.W.handS_kitx_exc hx.hg hx.hk hx.hs hx.hd hx.ha hx.hn hx.ht hx.hm) I.kIn at_ h1 e (fun z => nomatch z) fun tk => ⟨.bl b, H, I.tok tk, rfl, q⟩
in #guard_msgs in universe u_z
theorem r_isAT {tp : Addr} {cs : List V} {us : List Value} {b : Bool} (hT : H tp = some (.tup cs)) (k : Paired ClsV cs us) (e : PySem.W.kitAny K (.ref D) us = some b) (q : Q (.bl b) H) : rIsAT K D a [.ref a, .ref tp] H Q := ⟨tp, cs, us, b, rfl, hT, k, e, q⟩
end
end My
namespace My
open PySem L2
section
variable {K : PySem.W.Frag} {N : List Addr} {H H' : Hp} {v : V} {d : PyData} {Q : VK} {vs : List V} {ds : List PyData} {a : Addr}
set_option Elab.async true in
theorem Dp.tupC (h : Dp K H v d) : (∃ a xs ds, v = .ref a ∧ d = .tuple ds ∧ SqT K H a xs ∧ DpAll K H xs ds) ∨ (kitB (kdD d) "tuple" = some false ∧ ∀ ds, d ≠ .tuple ds) := by
  cases h with
  | tup q a => exact .inl ⟨_, _, _, rfl, rfl, q, a⟩
  | lst q a => exact .inr ⟨by dsimp only [kdD]; decide +kernel, fun _ e => nomatch e⟩
  | non => exact .inr ⟨by dsimp only [kdD]; decide +kernel, fun _ e => nomatch e⟩
  | bl b => exact .inr ⟨by dsimp only [kdD]; decide +kernel, fun _ e => nomatch e⟩
  | int i => exact .inr ⟨by dsimp only [kdD]; decide +kernel, fun _ e => nomatch e⟩
  | str x => exact .inr ⟨by dsimp only [kdD]; decide +kernel, fun _ e => nomatch e⟩
in #guard_msgs in universe u_z
theorem DpAll.getV : ∀ {vs : List V} {ds : List PyData} (_ : DpAll K H vs ds) {i : Nat} {x : V} (_ : vs[i]? = some x), ∃ d, ds[i]? = some d ∧ Dp K H x d
  | _, _, .nil, _, _, e => by simp at e
  | _, _, .cons a t, 0, _, e => by cases e; exact ⟨_, rfl, a⟩
  | _, _, .cons a t, i + 1, _, e => DpAll.getV t e
theorem DpAll.two (h : DpAll K H vs ds) (l : vs.length = 2) : ∃ x y d e, vs = [x, y] ∧ ds = [d, e] ∧ Dp K H x d ∧ Dp K H y e := by
  match vs, l with
  | [x, y], _ =>
    match ds, h with
    | [d, e], .cons a (.cons b .nil) => exact ⟨x, y, d, e, rfl, rfl, a, b⟩
theorem DpAll.three (h : DpAll K H vs ds) (l : vs.length = 3) : ∃ x y z d e f, vs = [x, y, z] ∧ ds = [d, e, f] ∧ Dp K H x d ∧ Dp K H y e ∧ Dp K H z f := by
  match vs, l with
  | [x, y, z], _ =>
    match ds, h with
    | [d, e, f], .cons a (.cons b (.cons c .nil)) => exact ⟨x, y, z, d, e, f, rfl, rfl, a, b, c⟩
theorem Same.at {o : HO} (e : Same H H') (h : H a = some o) : H' a = some o := e _ _ h
/-! what the tests tell -/
def IsR (d : PyData) : Prop := ∃ n m : Int, d = .tuple [.int n, .int m] ∧ 1 ≤ m ∧ Nat.gcd n.natAbs m.natAbs = 1
def IsV (d : PyData) : Prop := ∃ ds, d = .tuple ds ∧ ds.length = 3 ∧ ∀ x, x ∈ ds → IsR x
def IsC (d : PyData) : Prop := ∃ t ds, d = .tuple (t :: ds) ∧ ds.length = 4 ∧ (t = .str "pinhole" ∨ t = .str "straight") ∧ ∀ x, x ∈ ds → IsV x
/-- a list of answers, one an item -/
def BsD (R : PyData → Prop) (ds : List PyData) (acc : List V) : Prop := ∃ bs : List Bool, acc = bs.map V.bl ∧ Paired (fun (b : Bool) d => b = true ↔ R d) bs ds
theorem BsD.nil {R : PyData → Prop} : BsD R [] [] := ⟨[], rfl, .nil⟩
theorem paired_snoc {α β : Type} {R : α → β → Prop} {x : α} {y : β} (h : R x y) : ∀ {xs : List α} {ys : List β}, Paired R xs ys → Paired R (xs ++ [x]) (ys ++ [y])
  | _, _, .nil => .cons h .nil
  | _, _, .cons a t => .cons a (paired_snoc h t)
theorem BsD.snoc {R : PyData → Prop} {acc : List V} {i : Nat} {b : Bool} (h : BsD R (ds.take i) acc) (e : ds[i]? = some d) (hb : b = true ↔ R d) : BsD R (ds.take (i + 1)) (acc ++ [.bl b]) := by
  obtain ⟨bs, rfl, p⟩ := h
  refine ⟨bs ++ [b], by simp, ?_⟩
  rw [List.take_add_one, e]
  exact paired_snoc (R := fun (b : Bool) d => b = true ↔ R d) hb p
theorem paired_all {R : PyData → Prop} : ∀ {bs : List Bool} {ds : List PyData}, Paired (fun (b : Bool) d => b = true ↔ R d) bs ds → (bs.all id = true ↔ ∀ d, d ∈ ds → R d)
  | _, _, .nil => by simp
  | _, _, .cons a t => by
    rw [List.all_cons, Bool.and_eq_true, paired_all t]
    simp only [id_eq, a, List.mem_cons]
    constructor
    · rintro ⟨h1, h2⟩ d (rfl | hd)
      · exact h1
      · exact h2 d hd
    · exact fun h => ⟨h _ (.inl rfl), fun d hd => h d (.inr hd)⟩
theorem BsD.all {R : PyData → Prop} {acc : List V} (h : BsD R ds acc) : ∃ bs : List Bool, acc = bs.map V.bl ∧ (bs.all id = true ↔ ∀ d, d ∈ ds → R d) := by
  obtain ⟨bs, e, p⟩ := h
  exact ⟨bs, e, paired_all p⟩
/-- known shapes -/
theorem pe_q {n : Nat} (q : Rat) : Pe (n + 2) (qD q) := by
  refine ⟨(by decide : 2 ≤ 400), fun d hd => ?_⟩
  simp only [List.mem_cons, List.not_mem_nil, or_false] at hd
  rcases hd with rfl | rfl <;> exact trivial
theorem pe_v {n : Nat} (p : V3) : Pe (n + 3) (vD p) := by
  refine ⟨(by decide : 3 ≤ 400), fun d hd => ?_⟩
  simp only [List.mem_cons, List.not_mem_nil, or_false] at hd
  rcases hd with rfl | rfl | rfl <;> exact pe_q _
theorem Vc.dn {p : V3} (h : Vc K H a p) : Dn K N H (.ref a) (vD p) := by
  obtain ⟨x, y, z, h1, h2, h3, h4⟩ := h
  exact .tup h1 (.cons (.tup h2 (.cons (.int _) (.cons (.int _) .nil))) (.cons (.tup h3 (.cons (.int _) (.cons (.int _) .nil))) (.cons (.tup h4 (.cons (.int _) (.cons (.int _) .nil))) .nil)))
set_option Elab.async true in
theorem QtL.three {acc : List V} {x y z : Rat} (h : QtL K H acc [x, y, z]) : ∃ a b c : Addr, acc = [.ref a, .ref b, .ref c] ∧ SqT K H a [.int x.num, .int (x.den : Int)] ∧ SqT K H b [.int y.num, .int (y.den : Int)] ∧ SqT K H c [.int z.num, .int (z.den : Int)] := by
  unfold QtL at h
  cases h with
  | cons r1 h =>
    cases h with
    | cons r2 h =>
      cases h with
      | cons r3 h =>
        cases h
        obtain ⟨a, rfl, ha⟩ := r1
        obtain ⟨b, rfl, hb⟩ := r2
        obtain ⟨c, rfl, hc⟩ := r3
        exact ⟨a, b, c, rfl, ha, hb, hc⟩
in #guard_msgs in universe u_z
theorem iff2 {b c : Bool} {R : Prop} (h : b = true ↔ R) (h2 : c = true ↔ R) : c = b := by
  cases b
  · cases c
    · rfl
    · exact absurd (h.2 (h2.1 rfl)) (by decide)
  · cases c
    · exact absurd (h2.2 (h.1 rfl)) (by decide)
    · rfl
end
end My

set_option Elab.async false
set_option maxRecDepth 100000
namespace My
open PySem L2 StX
variable {X : Cx} {K : PySem.W.Frag} {H H' : Hp} {Q : VK}
section
variable {x : Str} {p sp_ pos : Pos} {e : Expr} {es : List Expr} {t : TA} {te : TE} {k : Nat} {ps : List Str} {sp : Sp}
set_option Elab.async true in
theorem Cal.fnR {P : Program} {w : World} {mg : Str → Option Value} {base : Heap} (C : Cal P w K mg base x k ps sp) :
    ∃ f, FnR P w K mg base CX0 k f sp ∧ mg x = some (.ref f) ∧ PySem.W.keepIn K (.ref f) = true := by
  obtain ⟨f, fd, F, hm, hk, hb⟩ := C.ex
  refine ⟨f, fun A outer s H us vs Q E hr I hv hsp => ?_, hm, hk⟩
  refine F.run A outer s H _ us vs Q E hr I ?_ hv hsp
  have hl : us.length = ps.length := by
    rw [← F.len vs H Q E hsp]
    exact (Paired.length hv).symm
  have h := hb s us (fun a o e => (I.bs a o (I.mod.kin a o e)).1) (by simpa using hl)
  rwa [List.append_nil] at h
in #guard_msgs in universe u_z
set_option Elab.async true in
/-- f(*t) -/
theorem pcT (C : Cal X.prog X.w X.K X.mg X.base x k ps sp) (hK : X.K = K) (hr : Room k X.A) (hg : Gl X x) (he : PE X e te) (hdb : (x == ("__debug__" : Str)) = false := by decide)
    (hs : starEach [e.Starred sp_] X.env = [(true, eval e X.env)] := by rfl) :
    PE X (.Call (.Name x p) [.Starred e sp_] [] pos) (fun σ H Q => te σ H fun y H1 => ∃ a xs, y = V.ref a ∧ (SqT K H1 a xs ∨ SqL K H1 a xs) ∧ sp xs H1 Q E0) := by
  obtain ⟨f, F, hm, hk⟩ := C.fnR
  subst hK
  exact pe_callS1 F hr hk hg hm pass0 he hdb hs
in #guard_msgs in universe u_z
end
/-! texts: an item, a product, a join -/
def rIxC : R2 := fun x y H Q => ∃ (z : Str) (i : Int) (c : Nat), x = .str z ∧ y = .int i ∧ z.length ≤ sizeLine ∧ atI z.cps.toList i = some c ∧ Q (.str ⟨#[c]⟩) H
def rMulS : R2 := fun x y H Q => ∃ (a : Str) (n : Int), x = .str a ∧ y = .int n ∧ MulOk a n ∧ Q (.str (Txt.mul a n)) H
def rJoin (K : PySem.W.Frag) : V → List V → Hp → VK → Prop := fun x xs H Q => ∃ a p, ∃ ys : List Str, x = .str a ∧ xs = [.ref p] ∧ (SqL K H p (ys.map V.str) ∨ SqT K H p (ys.map V.str)) ∧ (ys.map (·.length)).sum + ys.length * a.length ≤ 16777216 ∧ Q (.str (Txt.join a ys)) H
def joP (K : PySem.W.Frag) (x : V) (y : V) (H : Hp) (Q : VK) : Prop := rJoin K x [y] H Q
end My

set_option Elab.async false
set_option maxRecDepth 100000
/-! defs that call repr: the guards are known to be none -/
namespace My
open PySem L2
section
structure FnG (P : Program) (w : World) (K : PySem.W.Frag) (mg : Str → Option Value) (base : Heap) (k : Nat) (f : Addr) (fd : FuncData) (ps : List Str) (sp : Sp) : Prop where
  len : ∀ vs H Q E, sp vs H Q E → vs.length = ps.length
  run : ∀ (A : Around) (outer : List Env) (s : Shared) (H : Hp) (args : Args) (us : List Value) (vs : List V) (Q : VK) (E : XK), A.guards = some [] → Room k A → Env0 P w K mg base A outer s H →
    BindsTo s fd args (ps.zip us) → Vals vs us → sp vs H Q E → codeAny (model P w) A (.call (.ref f) args) (CR CX0 outer P w H s Q E) s
structure CalG (P : Program) (w : World) (K : PySem.W.Frag) (mg : Str → Option Value) (base : Heap) (x : Str) (k : Nat) (ps : List Str) (sp : Sp) : Prop where
  ex : ∃ (f : Addr) (fd : FuncData), FnG P w K mg base k f fd ps sp ∧ mg x = some (.ref f) ∧ PySem.W.keepIn K (.ref f) = true ∧ Binds K fd ps []
variable {P : Program} {w : World} {K : PySem.W.Frag} {mg : Str → Option Value} {base : Heap}
set_option Elab.async true in
theorem FunA.okG {x qual : Str} {st : Stmt} {f : Addr} {fd : FuncData} {N ps : List Str} {k : Nat} {sp : Sp} (F : FunA K x qual st f fd) (S : FnScope N ps (defScope st)) (len : ∀ vs H Q E, sp vs H Q E → vs.length = ps.length)
    (hbody : ∀ (cdv : Value) (A : Around) (outer : List Env) (s : Shared) (H : Hp) (vs : List V) (Q : VK) (E : XK), A.guards = some [] → Room k (A.deeper (PyProof.Rows.envOfC qual (defScope st) s.heap.objs.size f cdv)) → sp vs H Q E →
      ∃ t, PSs (cxOf CX0 P w K mg base N qual (defScope st) f cdv A outer s H E).nox (defBody st) t ∧ t { nx := fun _ H' => Q .non H', rt := Q } (L2.start N vs) H) : FnG P w K mg base (k + 1) f fd ps sp := by
  obtain ⟨oc, od, dV, kV, doc, pm, an, cdv, ct, osl, rfl, lk, hcd⟩ := F.ex
  refine ⟨len, fun A outer s H args us vs Q E hG hr I hb hv hsp => ?_⟩
  refine LamX.run_ofS lk hcd S hr I hb hv (len vs H Q E hsp) (fun hr2 => ?_)
  obtain ⟨t, h, q⟩ := hbody cdv A outer s H vs Q E hG hr2 hsp
  exact ⟨t, h.nox, q⟩
in #guard_msgs in universe u_z
end
section
variable {X : Cx} {x : Str} {p pos : Pos} {e : Expr} {es : List Expr} {t : TA} {k : Nat} {ps : List Str} {sp : Sp}
set_option Elab.async true in
theorem pcG (C : CalG X.prog X.w X.K X.mg X.base x k ps sp) (hG : X.A.guards = some []) (hr : Room k X.A) (hg : Gl X x) (ha : PA X (e :: es) t) (hdb : (x == ("__debug__" : Str)) = false := by decide)
    (he : starEach (e :: es) X.env = (false, eval e X.env) :: starEach es X.env := by rfl) (hpl : (backTo pos (starEach es X.env)).any (·.1) = false := by rfl) :
    PE X (.Call (.Name x p) (e :: es) [] pos) (tCall sp [] E0 t) := by
  obtain ⟨f, fd, F, hm, hk, hb⟩ := C.ex
  refine ⟨fun pins s σ H Q I h => wpAny_Call_Name_kw (ld_glob I hg hm ?_ hdb)⟩
  refine PySem.W.callWith_K (h₀ := X.base) I.ok.mod.kin hk (thn (ha.run pos pins s σ H _ I h) fun us s1 ⟨vs, H1, I1, rv, q⟩ => ⟨I1.kIn, ?_⟩) he hpl
  have q' : sp vs H1 Q E0 := by
    have q2 : sp (vs ++ []) H1 Q E0 := q
    rw [List.append_nil] at q2
    exact q2
  have b := hb s1 us I1.kIn (by rw [List.append_nil, ← F.len _ _ _ _ q']; exact (Paired.length rv).symm)
  rw [List.append_nil] at b
  refine wpAny_call (codeAny_mono (F.run X.A X.stack s1 H1 ⟨us, []⟩ us vs Q E0 hG hr I1.env0 b rv q') (fun r s' hq => ?_))
  cases r with
  | error er => exact pass0 pins σ H1 s1 er s' I1 hq
  | ok fl =>
    cases fl with
    | ret u => exact I1.after hq
    | next => exact False.elim hq
    | brk => exact False.elim hq
    | cont => exact False.elim hq
in #guard_msgs in universe u_z
/-- repr of plain data -/
def rRepr (K : PySem.W.Frag) : List V → Hp → VK → Prop := fun xs H Q => ∃ (a : Addr) (d : PyData), xs = [.ref a] ∧ Dp K H (.ref a) d ∧ d.showable = true ∧ d.hasDict = false ∧ d.depth + 2 ≤ 60 ∧ d.shown.length ≤ sizeLine ∧ Q (.str d.shown) H
set_option Elab.async true in
theorem kc_repr {K : PySem.W.Frag} (hK : X.K = K) (hG : X.A.guards = some []) (hu : X.A.units + 64 < cLine) : CallR X (.builtin "repr") (rRepr K) := by
  subst hK
  intro pins s σ H xs us Q I r h
  obtain ⟨a, d, rfl, hd, hs, hn, hdp, hl, q⟩ := h
  obtain ⟨u1, rfl, r1⟩ : ∃ u1, us = [u1] ∧ RelV (.ref a) u1 := by
    cases r with
    | cons r1 r2 => cases r2; exact ⟨_, rfl, r1⟩
  cases r1
  obtain ⟨as, rd⟩ := Dp.reads I d (.ref a) (.ref a) hd rfl
  refine repr_of_reads' rd hs (fun z => by rw [hn] at z; cases z) hG (by omega) (fun _ _ h => h) (fun h' u tk keep => ⟨.str d.shown, H, I.kept keep, ⟨_, rfl⟩, q⟩) hl
in #guard_msgs in universe u_z
end
/-- data whose repr is told: depth, bulk -/
structure Rp (n m : Nat) (d : PyData) : Prop where
  sh : d.showable = true
  nd : d.hasDict = false
  dp : d.depth ≤ n
  ls : PyData.leavesShort 1921 d = true
  bk : d.bulk ≤ m
structure RpA (n m : Nat) (ds : List PyData) : Prop where
  sh : PyData.showableAll ds = true
  nd : PyData.hasDictAll ds = false
  dp : PyData.depthAll ds ≤ n
  ls : PyData.leavesShortAll 1921 ds = true
  bk : PyData.bulkAll ds ≤ ds.length * (m + 1)
set_option Elab.async true in
theorem Rp.all {n m : Nat} : ∀ {ds : List PyData}, (∀ d, d ∈ ds → Rp n m d) → RpA n m ds
  | [], _ => ⟨by simp [PyData.showableAll], by simp [PyData.hasDictAll], by simp [PyData.depthAll], by simp [PyData.leavesShortAll], by simp [PyData.bulkAll]⟩
  | d :: ds, h => by
    have h1 := h d (by simp)
    have h2 := Rp.all (fun x hx => h x (List.mem_cons_of_mem _ hx))
    refine ⟨?_, ?_, ?_, ?_, ?_⟩
    · simp [PyData.showableAll, h1.sh, h2.sh]
    · simp [PyData.hasDictAll, h1.nd, h2.nd]
    · rw [PyData.depthAll.eq_2]; exact Nat.max_le.mpr ⟨h1.dp, h2.dp⟩
    · simp [PyData.leavesShortAll, h1.ls, h2.ls]
    · rw [PyData.bulkAll.eq_2, List.length_cons, Nat.succ_mul]
      have := h1.bk
      have := h2.bk
      omega
in #guard_msgs in universe u_z
theorem Rp.list {n m l : Nat} {ds : List PyData} (h : ∀ d, d ∈ ds → Rp n m d) (hl : ds.length ≤ l) : Rp (n + 1) (l * (m + 1)) (.list ds) := by
  have a := Rp.all h
  refine ⟨by rw [PyData.showable]; exact a.sh, by rw [PyData.hasDict]; exact a.nd, ?_, by rw [PyData.leavesShort]; exact a.ls, ?_⟩
  · rw [PyData.depth]
    have := a.dp
    omega
  · rw [PyData.bulk]
    exact Nat.le_trans a.bk (Nat.mul_le_mul_right _ hl)
theorem Rp.tuple {n m l : Nat} {ds : List PyData} (h : ∀ d, d ∈ ds → Rp n m d) (hl : ds.length ≤ l) : Rp (n + 1) (l * (m + 1)) (.tuple ds) := by
  have a := Rp.all h
  refine ⟨by rw [PyData.showable]; exact a.sh, by rw [PyData.hasDict]; exact a.nd, ?_, by rw [PyData.leavesShort]; exact a.ls, ?_⟩
  · rw [PyData.depth]
    have := a.dp
    omega
  · rw [PyData.bulk]
    exact Nat.le_trans a.bk (Nat.mul_le_mul_right _ hl)
theorem Rp.int {i : Int} (h : B 1900 i) : Rp 0 0 (.int i) := by
  have hl : i.natAbs.log2 < 1920 := Nat.lt_of_lt_of_le (PySem.Flt.log2_lt_of (k := 1900) (by decide) h.lt) (by decide)
  refine ⟨by simp [PyData.showable, hl], by simp [PyData.hasDict], by simp [PyData.depth], ?_, by simp [PyData.bulk]⟩
  rw [PyData.leavesShort, PyData.shown]
  exact decide_eq_true (PyProof.Rows.int_text_len_1921 hl)
theorem Rp.le {n m n' m' : Nat} {d : PyData} (h : Rp n m d) (h1 : n ≤ n') (h2 : m ≤ m') : Rp n' m' d := ⟨h.sh, h.nd, Nat.le_trans h.dp h1, h.ls, Nat.le_trans h.bk h2⟩
theorem r_repr {K : PySem.W.Frag} {H : Hp} {Q : VK} {a : Addr} {d : PyData} {n m : Nat} (hd : Dp K H (.ref a) d) (h : Rp n m d) (hn : n ≤ 50) (hm : m ≤ 8000) (q : Q (.str d.shown) H) : rRepr K [.ref a] H Q :=
  ⟨a, d, rfl, hd, h.sh, h.nd, by have := h.dp; omega, Nat.le_trans (PyData.shown_le_bulk 1921 (by decide) d h.ls) (Nat.le_trans (Nat.add_le_add_right (Nat.mul_le_mul_left _ (Nat.le_trans h.bk hm)) _) (by decide)), q⟩
end My

set_option Elab.async false
set_option maxRecDepth 100000
/-! the end of a proof over FnG -/
namespace My
open PySem L2 PyProof.Rows
set_option Elab.async true in
theorem law_coreG {P : Program} {w : World} {K : PySem.W.Frag} {mg mb : Str → Option Value} {k : Nat} {fa a : Addr} {fd : FuncData} {x : Str} {sp : Sp} {s₁ : Shared} {vs : List Value} {ns : List Int} {H : Hp}
    (kin : K.In s₁.heap) (g : s₁.heap.Ns mainGlobals mg) (b : s₁.heap.Ns builtinsNs mb) (hb : ∀ x : Str, x ≠ Str.ofString "__name__" → mb x = bootBuiltins x) (nl : s₁.heap.NoLimit) (hg : s₁.gens = #[])
    (ha : s₁.heap.get? a = some { cls := .type "list", data := .seq vs.toArray }) (hr : Room k callerA)
    (F : ∀ base : Heap, K.In base → base.Ns mainGlobals mg → FnG P w K mg base k fa fd [x] sp) (hbd : ∀ (s : Shared) (u : Value), BindsTo s fd ⟨[u], []⟩ [(x, u)])
    (hO : ∀ c, H c = none ∨ (c = a ∧ H c = some (.frz { cls := .type "list", data := .seq vs.toArray } (.lst (ns.map V.int))))) (hK : ∀ c u, K.lookup c = some u → H c = none) (hok : HOk P w H s₁.heap)
    (hsp : sp [.ref a] H (fun v _ => v = .bl true) (fun _ _ _ => False)) :
    codeAny (model P w) callerA (.call (.ref fa) ⟨[.ref a], []⟩) (fun r s' => r = .ok (.ret (.bool true)) ∧ OldK s₁.heap s'.heap ∧ s'.os = s₁.os ∧ AllBare s'.gens) s₁ := by
  have hne : ∀ c o', s₁.heap.get? c = some o' → (∀ its n, o'.data ≠ .seq its n) → H c = none := fun c o' hc hd => by
    rcases hO c with h | ⟨rfl, h⟩
    · exact h
    · rw [ha] at hc
      cases hc
      exact absurd rfl (hd _ _)
  have ns_of : ∀ {c : Addr} {m : Str → Option Value}, s₁.heap.Ns c m → (hidT s₁.heap H).Ns c m := fun {c m} ⟨o', es, ep, h1, h2, h3, h4⟩ =>
    ⟨o', es, ep, hidT_get h1 (hne c o' h1 (fun its n e => by rw [h2] at e; cases e)), h2, h3, h4⟩
  have bk : K.In (hidT s₁.heap H) := fun c u e => hidT_get (kin c u e) (hK c u e)
  have I : Env0 P w K mg (hidT s₁.heap H) callerA [] s₁ H := {
    frames := rfl
    mod := ⟨bk, ns_of g, ⟨mb, ns_of b, hb⟩, by obtain ⟨mc, h1, h2⟩ := nl; exact ⟨mc, ns_of h1, h2⟩⟩
    bs := fun c o' h => of_hidT h
    bsz := Nat.le_of_eq (hidT_size _ _)
    funs := trivial
    frf := fun c h => nomatch h
    hok := hok
    bare := AllBare.of_eq hg }
  refine codeAny_mono ((F _ bk (ns_of g)).run callerA [] s₁ H ⟨[.ref a], []⟩ [.ref a] [.ref a] _ _ rfl hr I (hbd s₁ (.ref a)) (.cons rfl .nil) hsp) (fun r s' hq => ?_)
  cases r with
  | error er => exact False.elim hq
  | ok fl =>
    cases fl with
    | next => exact False.elim hq
    | brk => exact False.elim hq
    | cont => exact False.elim hq
    | ret u =>
      obtain ⟨v, H', e1, e2, un, ok2, rv, rfl⟩ := hq
      cases rv
      refine ⟨rfl, OldK.of_keep (fun c o' hc => ?_), e1, e2⟩
      rcases hO c with h | ⟨rfl, h⟩
      · exact un.keep c o' hc h (fun z => nomatch z) (fun z => nomatch z)
      · have h2 := ok2 _ _ (un.frzs _ _ _ h)
        rw [ha] at hc
        cases hc
        exact h2.1
in #guard_msgs in universe u_z
set_option Elab.async true in
theorem law_callG {P : Program} {w : World} {K : PySem.W.Frag} {mg mb : Str → Option Value} {k : Nat} {fa a : Addr} {fd : FuncData} {x : Str} {sp : Sp} {s₁ : Shared} {vs : List Value} {ns : List Int}
    (kin : K.In s₁.heap) (g : s₁.heap.Ns mainGlobals mg) (b : s₁.heap.Ns builtinsNs mb) (hb : ∀ x : Str, x ≠ Str.ofString "__name__" → mb x = bootBuiltins x) (nl : s₁.heap.NoLimit) (hg : s₁.gens = #[])
    (ha : s₁.heap.get? a = some { cls := .type "list", data := .seq vs.toArray }) (hi : IntsAre vs ns) (hl : ns.length ≤ sizeLine) (hr : Room k callerA)
    (F : ∀ base : Heap, K.In base → base.Ns mainGlobals mg → FnG P w K mg base k fa fd [x] sp) (hbd : ∀ (s : Shared) (u : Value), BindsTo s fd ⟨[u], []⟩ [(x, u)])
    (hsp : ∀ H, SqL K H a (ns.map V.int) → sp [.ref a] H (fun v _ => v = .bl true) (fun _ _ _ => False)) :
    codeAny (model P w) callerA (.call (.ref fa) ⟨[.ref a], []⟩) (fun r s' => r = .ok (.ret (.bool true)) ∧ OldK s₁.heap s'.heap ∧ s'.os = s₁.os ∧ AllBare s'.gens) s₁ := by
  have hv : Vals (ns.map V.int) vs := vals_ints hi
  have hsz : vs.toArray.size ≤ sizeLine := by
    have := hi.length
    simp only [List.size_toArray]
    omega
  rcases hk : K.lookup a with _ | u
  · refine law_coreG (ns := ns) (H := fun c => if c = a then some (.frz { cls := .type "list", data := .seq vs.toArray } (.lst (ns.map V.int))) else none) kin g b hb nl hg ha hr F hbd ?_ ?_ ?_ (hsp _ (.inl (.inr ⟨_, if_pos rfl⟩)))
    · intro c
      by_cases e : c = a
      · exact .inr ⟨e, if_pos e⟩
      · exact .inl (if_neg e)
    · intro c u hu
      refine if_neg (fun e => ?_)
      subst e
      rw [hk] at hu
      cases hu
    · intro c o hc
      by_cases e : c = a
      · subst e
        simp only [if_true] at hc
        cases hc
        refine ⟨ha, ?_⟩
        exact ⟨by rw [List.length_map]; exact hl, vs, _, hv, ha⟩
      · simp only [if_neg e] at hc
        cases hc
  · have e := kin a u hk
    rw [ha] at e
    cases e
    refine law_coreG (ns := ns) (H := fun _ => none) kin g b hb nl hg ha hr F hbd (fun _ => .inl rfl) (fun _ _ _ => rfl) (fun _ _ h => nomatch h) (hsp _ (.inr ⟨_, _, _, hk, rfl, rfl, rfl, hsz, hv⟩))
in #guard_msgs in universe u_z
set_option Elab.async true in
theorem walk_ofG {l : PySem.W.OpenLaw} {n k : Nat} {q : Program} {loose : List Str} {XP : (Str → Option Value) → Heap → Prop} {YP : World → Heap → Prop} {d : DefRec} {K : Params → PySem.W.Frag} {sp : World → Sp} {x : Str}
    (hn : l.most = some n) (hnl : n ≤ sizeLine) (hdf : d.params.defaults = []) (hr : Room k callerA) (hY : ∀ (w : World) (h : Heap), YP w h → (K w.params).In h)
    (F : ∀ (w : World) (mg : Str → Option Value) (fa : Addr) (h : Heap), (K w.params).In h → h.Ns mainGlobals mg → mg d.name = some (.ref fa) →
      ∃ fd : FuncData, (∀ (s : Shared) (u : Value), BindsTo s fd ⟨[u], []⟩ [(x, u)]) ∧ ∀ base : Heap, (K w.params).In base → base.Ns mainGlobals mg → FnG l.prog w (K w.params) mg base k fa fd [x] (sp w))
    (hsp : ∀ (w : World) (H : Hp) (a : Addr) (ns : List Int), ns.length ≤ n → SqL (K w.params) H a (ns.map V.int) → sp w [.ref a] H (fun v _ => v = .bl true) (fun _ _ _ => False)) :
    PySem.W.WalkO q loose XP YP l.row.toRowW d [] (fun f vs => PySem.call f vs) := by
  refine Att.attach_call hn hdf (fun w s₀ s₁ mg mb fa o pm cd doc a vs ns G Y ho hd hc hm ha hi hl hg => ?_)
  have T := G.T
  obtain ⟨fd, hbd, hF⟩ := F w mg fa s₁.heap (hY w _ Y) T.g hm
  exact law_callG (hY w _ Y) T.g T.b T.builtins T.nolimit hg ha hi (Nat.le_trans hl hnl) hr hF hbd (fun H h => hsp w H a ns hl h)
in #guard_msgs in universe u_z
theorem RvQ.same {K : PySem.W.Frag} {H H' : Hp} {v : V} {q : Rat} (h : RvQ K H v q) (e : Same H H') : RvQ K H' v q := h.imp id fun ⟨a, e1, h⟩ => ⟨a, e1, Same.tup e h⟩
theorem RvQ.frq {K : PySem.W.Frag} {H H' : Hp} {v : V} {q : Rat} (h : RvQ K H v q) (e : TK K H H') : RvQ K H' v q := h.imp id fun ⟨a, e1, h⟩ => ⟨a, e1, e _ _ h⟩
def dg (x y z : Rat) : M3 := ⟨⟨x, 0, 0⟩, ⟨0, y, 0⟩, ⟨0, 0, z⟩, ⟨0, 0, 0⟩⟩
def ax (a : Int) : V3 := ⟨((if a = 0 then 1 else 0 : Int) : Rat), ((if a = 1 then 1 else 0 : Int) : Rat), ((if a = 2 then 1 else 0 : Int) : Rat)⟩
section
variable {K : PySem.W.Frag} {H : Hp} {v a b c : Addr} {p : Rat}
theorem Vc.x00 (h : SqT K H v [.ref a, .ref b, .ref c]) (ha : SqT K H a [.int p.num, .int (p.den : Int)]) (hb : SqT K H b [.int 0, .int 1]) (hc : SqT K H c [.int 0, .int 1]) : Vc K H v ⟨p, 0, 0⟩ := ⟨a, b, c, h, ha, hb, hc⟩
theorem Vc.y00 (h : SqT K H v [.ref a, .ref b, .ref c]) (ha : SqT K H a [.int 0, .int 1]) (hb : SqT K H b [.int p.num, .int (p.den : Int)]) (hc : SqT K H c [.int 0, .int 1]) : Vc K H v ⟨0, p, 0⟩ := ⟨a, b, c, h, ha, hb, hc⟩
theorem Vc.z00 (h : SqT K H v [.ref a, .ref b, .ref c]) (ha : SqT K H a [.int 0, .int 1]) (hb : SqT K H b [.int 0, .int 1]) (hc : SqT K H c [.int p.num, .int (p.den : Int)]) : Vc K H v ⟨0, 0, p⟩ := ⟨a, b, c, h, ha, hb, hc⟩
end
/-! a nested constant of the module -/
def rdV (K : PySem.W.Frag) : Nat → Value → Option PyData
  | 0, _ => none
  | _ + 1, .int i _ => some (.int i)
  | n + 1, .ref a => match K.lookup a with
    | some o => match o.cls, o.data with
      | .type t, .seq its _ => if t == "tuple" && decide (its.size ≤ sizeLine) then (its.toList.mapM (rdV K n)).map .tuple else none
      | _, _ => none
    | none => none
  | _ + 1, _ => none
set_option Elab.async true in
theorem rdV_dp {K : PySem.W.Frag} : ∀ (n : Nat) {v : Value} {d : PyData}, rdV K n v = some d → ∃ x : V, RelV x v ∧ ∀ H, Dp K H x d
  | 0, _, _, h => by simp [rdV] at h
  | n + 1, .int i t, _, h => by
    simp only [rdV, Option.some.injEq] at h
    subst h
    exact ⟨.int i, ⟨t, rfl⟩, fun H => .int i⟩
  | n + 1, .ref a, d, h => by
    simp only [rdV] at h
    split at h
    · rename_i o ho
      split at h
      · rename_i t its m hc hd
        split at h
        · rename_i hi
          simp only [Bool.and_eq_true, beq_iff_eq, decide_eq_true_eq] at hi
          rw [Option.map_eq_some_iff] at h
          obtain ⟨ds, e, rfl⟩ := h
          have hall : ∀ (us : List Value) (ds : List PyData), us.mapM (rdV K n) = some ds → ∃ xs : List V, Vals xs us ∧ ∀ H, DpAll K H xs ds := by
            intro us
            induction us with
            | nil =>
              intro ds e
              simp only [List.mapM_nil, pure, Option.some.injEq] at e
              subst e
              exact ⟨[], .nil, fun H => .nil⟩
            | cons u us ih =>
              intro ds e
              rw [List.mapM_cons] at e
              rcases h1 : rdV K n u with _ | d1
              · rw [h1] at e; cases e
              rcases h2 : us.mapM (rdV K n) with _ | d2
              · rw [h1, h2] at e; cases e
              rw [h1, h2] at e
              cases e
              obtain ⟨x, r, hx⟩ := rdV_dp n h1
              obtain ⟨xs, rs, hxs⟩ := ih _ h2
              exact ⟨x :: xs, .cons r rs, fun H => .cons (hx H) (hxs H)⟩
          obtain ⟨xs, rs, hxs⟩ := hall _ _ e
          exact ⟨.ref a, rfl, fun H => .tup (.inr ⟨o, its, m, ho, by rw [hc, hi.1], hd, hi.2, rs⟩) (hxs H)⟩
        · cases h
      · cases h
    · cases h
  | n + 1, .none, _, h => by simp [rdV] at h
  | n + 1, .bool _, _, h => by simp [rdV] at h
  | n + 1, .str _ _, _, h => by simp [rdV] at h
  | n + 1, .bytes _ _, _, h => by simp [rdV] at h
  | n + 1, .float _ _, _, h => by simp [rdV] at h
  | n + 1, .type _, _, h => by simp [rdV] at h
  | n + 1, .builtin _, _, h => by simp [rdV] at h
in #guard_msgs in universe u_z
def GMD (K : PySem.W.Frag) (mg : Str → Option Value) (x : Str) (d : PyData) : Prop := ∃ a, mg x = some (.ref a) ∧ ∀ H, Dp K H (.ref a) d
theorem gd_of {K : PySem.W.Frag} {mg : Str → Option Value} {x : Str} {a : Addr} {n : Nat} {d : PyData} (hm : mg x = some (.ref a)) (h : rdV K n (.ref a) = some d) : GMD K mg x d := by
  obtain ⟨y, r, hy⟩ := rdV_dp n h
  cases y <;> first | (cases r; done) | (obtain ⟨_, r⟩ := r; cases r; done) | (cases r; exact ⟨_, hm, hy⟩)
def tGD (K : PySem.W.Frag) (d : PyData) : TE := fun _ H Q => ∀ a, Dp K H (.ref a) d → Q (.ref a) H
theorem pe_gd {X : Cx} {K : PySem.W.Frag} {x : Str} {d : PyData} {pos : Pos} (h : GMD K X.mg x d) (hg : Gl X x) (hd : (x == ("__debug__" : Str)) = false := by decide) : PE X (.Name x pos) (tGD K d) :=
  ⟨fun _ _ _ H _ I q => let ⟨a, hm, ha⟩ := h; ld_glob I hg hm ⟨.ref a, H, I, rfl, q a (ha H)⟩ hd⟩
def rtD (n d : Int) : PyData := .tuple [.int n, .int d]
def vcD (a b c : Int) : PyData := .tuple [rtD a 1, rtD b 1, rtD c 1]
def stD : PyData := .tuple [.tuple [vcD 1 0 0, vcD 0 1 0, vcD 0 0 1], vcD 0 0 0]
section
variable {K : PySem.W.Frag} {H : Hp}
theorem rt_of_dp {v : V} {n d : Int} (h : Dp K H v (rtD n d)) : ∃ a, v = .ref a ∧ SqT K H a [.int n, .int d] := by
  cases h with
  | tup q a =>
    cases a with
    | cons h1 t =>
      cases t with
      | cons h2 t2 =>
        cases t2
        cases h1
        cases h2
        exact ⟨_, rfl, q⟩
theorem vc_of_dp {v : V} {x y z : Int} (h : Dp K H v (vcD x y z)) : ∃ a, v = .ref a ∧ Vc K H a ⟨(x : Rat), (y : Rat), (z : Rat)⟩ := by
  cases h with
  | tup q a =>
    cases a with
    | cons h1 t =>
      cases t with
      | cons h2 t2 =>
        cases t2 with
        | cons h3 t3 =>
          cases t3
          obtain ⟨a1, rfl, e1⟩ := rt_of_dp h1
          obtain ⟨a2, rfl, e2⟩ := rt_of_dp h2
          obtain ⟨a3, rfl, e3⟩ := rt_of_dp h3
          exact ⟨_, rfl, Vc.mk q e1 e2 e3⟩
set_option Elab.async true in
theorem mv_of_dp {a : Addr} (h : Dp K H (.ref a) stD) : Mv K H a still := by
  cases h with
  | tup q a =>
    cases a with
    | cons h1 t =>
      cases t with
      | cons h2 t2 =>
        cases t2
        obtain ⟨s, rfl, e0⟩ := vc_of_dp h2
        cases h1 with
        | tup q2 a2 =>
          cases a2 with
          | cons g1 t =>
            cases t with
            | cons g2 t =>
              cases t with
              | cons g3 t =>
                cases t
                obtain ⟨b1, rfl, e1⟩ := vc_of_dp g1
                obtain ⟨b2, rfl, e2⟩ := vc_of_dp g2
                obtain ⟨b3, rfl, e3⟩ := vc_of_dp g3
                exact ⟨_, _, q, ⟨_, _, _, q2, e1, e2, e3⟩, e0⟩
in #guard_msgs in universe u_z
end
def tn (a : Int) : M3 := if a = 0 then ⟨e0, sc ((-1 : Int) : Rat) (ax 2), ax 1, o3⟩ else if a = 1 then ⟨ax 2, e1, sc ((-1 : Int) : Rat) (ax 0), o3⟩ else ⟨sc ((-1 : Int) : Rat) (ax 1), ax 0, e2, o3⟩
def tns (a : Int) : Nat → M3
  | 0 => still
  | n + 1 => comb (tns a n) (tn a)
theorem w_gdM {K : PySem.W.Frag} {σ : L2.St} {H : Hp} {Q : VK} (h : ∀ a r s x y z : Addr, SqT K H a [.ref r, .ref s] → SqT K H r [.ref x, .ref y, .ref z] → Vc K H x e0 → Vc K H y e1 → Vc K H z e2 → Vc K H s o3 → Q (.ref a) H) : tGD K stD σ H Q := fun a hd => by
  obtain ⟨r, s, t0, ⟨x, y, z, t1, v0, v1, v2⟩, t3⟩ := mv_of_dp hd
  exact h a r s x y z t0 t1 v0 v1 v2 t3
theorem kc_any {X : Cx} {K : PySem.W.Frag} (hK : X.K = K) (hc : X.calm = true) : CallR X (.builtin "any") (rAny K) := by
  subst hK
  exact cr_any hc
theorem VN.ax (a : Int) : VN 2 1 (ax a) := by
  have b0 : B 2 (0 : Int) := B.lit (by decide +kernel)
  have b1 : B 2 (1 : Int) := B.lit (by decide +kernel)
  refine VN.int3 ?_ ?_ ?_ <;> (split <;> assumption)
section
variable {K : PySem.W.Frag} {H H0 : Hp}
theorem r_setVp {l x : Addr} {ps : List V3} {p : V3} {Q : Hp → Prop} {k : Int} {j : Nat} (nl : H0 l = none) (e : Same H0 H) (h : VL K H l ps) (hv : Vc K H x p) (ix : ixN ps.length k = some j)
    (q : ∀ H1, Same H0 H1 → TK K H H1 → VL K H1 l (ps.set j p) → Q H1) : rSetL (.ref l) (.int k) (.ref x) H Q := by
  obtain ⟨acc, ha, hacc⟩ := h
  refine r_setL ha (by rw [hacc.len]; exact ix) rfl (q _ (Same.mut e nl) (TK.upd ha) ⟨_, upd_same, ?_⟩)
  exact (hacc.tk (TK.upd ha)).set (hv.tk (TK.upd ha))
theorem VcL.tri {acc : List V} {ps : List V3} {p q r : V3} (h : VcL K H acc ps) (e : ps = [p, q, r]) : ∃ a b c : Addr, acc = [.ref a, .ref b, .ref c] ∧ Vc K H a p ∧ Vc K H b q ∧ Vc K H c r := by
  subst e
  cases h with
  | cons h1 t =>
    cases t with
    | cons h2 t =>
      cases t with
      | cons h3 t =>
        cases t
        obtain ⟨a, rfl, ha⟩ := h1
        obtain ⟨b, rfl, hb⟩ := h2
        obtain ⟨c, rfl, hc⟩ := h3
        exact ⟨a, b, c, rfl, ha, hb, hc⟩
set_option Elab.async true in
theorem mk_dg {m r s x y z : Addr} {p q t : Rat} (h1 : SqT K H m [.ref r, .ref s]) (h2 : SqT K H r [.ref x, .ref y, .ref z]) (hx : Vc K H x (sc p (ax 0))) (hy : Vc K H y (sc q (ax 1))) (hz : Vc K H z (sc t (ax 2))) (hs : Vc K H s o3) : Mv K H m (dg p q t) := by
  have a0 : sc p (ax 0) = (dg p q t).a := by apply V3.ext' <;> simp [sc, ax, dg]
  have a1 : sc q (ax 1) = (dg p q t).b := by apply V3.ext' <;> simp [sc, ax, dg]
  have a2 : sc t (ax 2) = (dg p q t).c := by apply V3.ext' <;> simp [sc, ax, dg]
  exact ⟨r, s, h1, ⟨x, y, z, h2, a0 ▸ hx, a1 ▸ hy, a2 ▸ hz⟩, hs⟩
in #guard_msgs in universe u_z
end
set_option Elab.async true in
theorem mk_tn {K : PySem.W.Frag} {H : Hp} {a : Int} {m r s : Addr} {acc : List V} (ha : 0 ≤ a ∧ a ≤ 2) (h1 : SqT K H m [.ref r, .ref s]) (h2 : SqT K H r acc)
    (hV : VcL K H acc ((([e0, e1, e2] : List V3).set ((a + 1) % 3).toNat (sc ((-1 : Int) : Rat) (ax ((a + 2) % 3)))).set ((a + 2) % 3).toNat (ax ((a + 1) % 3)))) (hs : Vc K H s o3) : Mv K H m (tn a) := by
  obtain rfl | rfl | rfl : a = 0 ∨ a = 1 ∨ a = 2 := by omega
  · obtain ⟨x, y, z, rfl, v1, v2, v3⟩ := VcL.tri (p := e0) (q := sc ((-1 : Int) : Rat) (ax 2)) (r := ax 1) hV rfl
    exact ⟨_, _, h1, ⟨_, _, _, h2, v1, v2, v3⟩, hs⟩
  · obtain ⟨x, y, z, rfl, v1, v2, v3⟩ := VcL.tri (p := ax 2) (q := e1) (r := sc ((-1 : Int) : Rat) (ax 0)) hV rfl
    exact ⟨_, _, h1, ⟨_, _, _, h2, v1, v2, v3⟩, hs⟩
  · obtain ⟨x, y, z, rfl, v1, v2, v3⟩ := VcL.tri (p := sc ((-1 : Int) : Rat) (ax 1)) (q := ax 0) (r := e2) hV rfl
    exact ⟨_, _, h1, ⟨_, _, _, h2, v1, v2, v3⟩, hs⟩
in #guard_msgs in universe u_z
theorem ix3 {a : Int} (h0 : 0 ≤ a) (h1 : a ≤ 2) (c : Int) (hc : 0 ≤ c) : ixN 3 ((a + c) % 3) = some ((a + c) % 3).toNat := by
  have h : (a + c) % 3 = 0 ∨ (a + c) % 3 = 1 ∨ (a + c) % 3 = 2 := by omega
  rcases h with h | h | h <;> rw [h] <;> rfl
theorem e012 : VN 2 1 e0 ∧ VN 2 1 e1 ∧ VN 2 1 e2 ∧ VN 2 1 o3 := by
  have b0 : BN 2 1 (0 : Rat) := ⟨B.lit (by decide +kernel), B.lit (by decide +kernel)⟩
  have b1 : BN 2 1 (1 : Rat) := ⟨B.lit (by decide +kernel), B.lit (by decide +kernel)⟩
  exact ⟨⟨b1, b0, b0⟩, ⟨b0, b1, b0⟩, ⟨b0, b0, b1⟩, ⟨b0, b0, b0⟩⟩
theorem tn_mn (a : Int) : MN 2 1 (tn a) := by
  obtain ⟨g0, g1, g2, g3⟩ := e012
  unfold tn
  split
  · exact ⟨g0, (VN.ax 2).m1, VN.ax 1, g3⟩
  · split
    · exact ⟨VN.ax 2, g1, (VN.ax 0).m1, g3⟩
    · exact ⟨(VN.ax 1).m1, VN.ax 0, g2, g3⟩
set_option Elab.async true in
theorem tns_mn (a : Int) (n : Nat) (h : n ≤ 3) : MN 3000 500 (tns a n) := by
  obtain ⟨g0, g1, g2, g3⟩ := e012
  have h0 : MN 2 1 (tns a 0) := ⟨g0, g1, g2, g3⟩
  have h1 : MN _ _ (tns a 1) := MN.comb h0 (tn_mn a)
  have h2 : MN _ _ (tns a 2) := MN.comb h1 (tn_mn a)
  have h3 : MN _ _ (tns a 3) := MN.comb h2 (tn_mn a)
  obtain rfl | rfl | rfl | rfl : n = 0 ∨ n = 1 ∨ n = 2 ∨ n = 3 := by omega
  · exact h0.le (by decide) (by decide)
  · exact h1.le (by decide) (by decide)
  · exact h2.le (by decide) (by decide)
  · exact h3.le (by decide) (by decide)
in #guard_msgs in universe u_z
/-- a row as it may be handed: a tuple or a list of three numbers -/
def RowV (K : PySem.W.Frag) (H : Hp) (a : Addr) (p : V3) : Prop := ∃ x y z : V, (SqT K H a [x, y, z] ∨ SqL K H a [x, y, z]) ∧ RvQ K H x p.x ∧ RvQ K H y p.y ∧ RvQ K H z p.z
theorem RowV.same {K : PySem.W.Frag} {H H' : Hp} {a : Addr} {p : V3} (e : Same H H') (h : RowV K H a p) : RowV K H' a p := by
  obtain ⟨x, y, z, h1, h2, h3, h4⟩ := h
  exact ⟨x, y, z, h1.imp (Same.tup e) (fun q => q.imp (Same.rd e) id), h2.same e, h3.same e, h4.same e⟩
end My

set_option Elab.async false
set_option maxRecDepth 100000
namespace My
open PySem L2 PyProof.Rows
/-! data that may be a dict at the top -/
def Ob (K : PySem.W.Frag) (H : Hp) (v : V) (d : PyData) : Prop := Dp K H v d ∨ ∃ a kvs, v = .ref a ∧ H a = some (.dK kvs) ∧ kdD d = "dict" ∧ (∀ ds, d ≠ .tuple ds) ∧ ∀ ds, d ≠ .list ds
section
variable {K : PySem.W.Frag} {H H' : Hp} {v : V} {d : PyData} {Q : VK}
theorem Ob.same (e : Same H H') (h : Ob K H v d) : Ob K H' v d := h.imp (fun h => My.Dp.same e h) fun ⟨a, kvs, h1, h2, h3⟩ => ⟨a, kvs, h1, e _ _ h2, h3⟩
theorem Ob.ty (h : Ob K H v d) : TyX K H v (.type (kdD d)) := by
  rcases h with h | ⟨a, kvs, rfl, h2, h3, h4, h5⟩
  · exact My.Dp.ty h
  · rw [h3]
    exact .base (.dK h2)
theorem Ob.tupC (h : Ob K H v d) : (∃ a xs ds, v = .ref a ∧ d = .tuple ds ∧ SqT K H a xs ∧ DpAll K H xs ds) ∨ (kitB (kdD d) "tuple" = some false ∧ ∀ ds, d ≠ .tuple ds) := by
  rcases h with h | ⟨a, kvs, rfl, h2, h3, h4, h5⟩
  · exact My.Dp.tupC h
  · exact .inr ⟨by rw [h3]; decide +kernel, h4⟩
theorem r_isO {n : String} {b : Bool} (h : Ob K H v d) (e : kitB (kdD d) n = some b) (q : Q (.bl b) H) : rIsi K [v, .ty n] H Q := ⟨v, .ty n, _, _, b, rfl, .ty n, h.ty, kit_ty e, q⟩
end
/-! ints of at most k bits -/
mutual
def BdD (k : Nat) : PyData → Prop
  | .int i => B k i
  | .tuple ds => BdL k ds
  | .list ds => BdL k ds
  | _ => True
def BdL (k : Nat) : List PyData → Prop
  | [] => True
  | d :: ds => BdD k d ∧ BdL k ds
end
section
variable {k : Nat}
theorem BdL.mem : ∀ {ds : List PyData} (_ : BdL k ds) {d : PyData} (_ : d ∈ ds), BdD k d
  | _ :: _, h, _, .head _ => by rw [BdL] at h; exact h.1
  | _ :: _, h, _, .tail _ q => by rw [BdL] at h; exact BdL.mem h.2 q
theorem BdD.tup {ds : List PyData} (h : BdD k (.tuple ds)) {d : PyData} (q : d ∈ ds) : BdD k d := by
  rw [BdD] at h
  exact h.mem q
theorem BdD.i {i : Int} (h : BdD k (.int i)) : B k i := by
  rw [BdD] at h
  exact h
theorem BdD.q {q : Rat} (h : BdD k (qD q)) : BN k k q := ⟨(h.tup (d := .int q.num) (by simp)).i, (h.tup (d := .int (q.den : Int)) (by simp)).i⟩
theorem BdD.v {p : V3} (h : BdD k (vD p)) : VN k k p := ⟨(h.tup (d := qD p.x) (by simp)).q, (h.tup (d := qD p.y) (by simp)).q, (h.tup (d := qD p.z) (by simp)).q⟩
end
/-! what the tests tell, once more -/
def IsM (d : PyData) : Prop := ∃ A : M3, d = mD A ∧ det3 A ≠ 0
theorem isR_iff {d : PyData} : IsR d ↔ ∃ q : Rat, d = qD q := by
  constructor
  · rintro ⟨n, m, rfl, h1, h2⟩
    obtain ⟨e1, e2⟩ := num_of (q := (n : Rat) / (m : Rat)) (show 0 < m by omega) h2 rfl
    exact ⟨_, by rw [qD, ← e1, ← e2]⟩
  · rintro ⟨q, rfl⟩
    exact ⟨q.num, q.den, rfl, by have := denP q; omega, gcdQ q⟩
set_option Elab.async true in
theorem isV_iff {d : PyData} : IsV d ↔ ∃ p : V3, d = vD p := by
  constructor
  · rintro ⟨ds, rfl, hl, h⟩
    match ds, hl with
    | [a, b, c], _ =>
      obtain ⟨x, rfl⟩ := isR_iff.1 (h a (by simp))
      obtain ⟨y, rfl⟩ := isR_iff.1 (h b (by simp))
      obtain ⟨z, rfl⟩ := isR_iff.1 (h c (by simp))
      exact ⟨⟨x, y, z⟩, rfl⟩
  · rintro ⟨p, rfl⟩
    refine ⟨_, rfl, rfl, fun x hx => isR_iff.2 ?_⟩
    simp only [List.mem_cons, List.not_mem_nil, or_false] at hx
    rcases hx with rfl | rfl | rfl <;> exact ⟨_, rfl⟩
in #guard_msgs in universe u_z
theorem qD_inj {p q : Rat} (h : qD p = qD q) : p = q := by
  simp only [qD, PyData.tuple.injEq, List.cons.injEq, PyData.int.injEq] at h
  exact num_inj h.1 h.2.1
theorem vD_inj {p q : V3} (h : vD p = vD q) : p = q := by
  simp only [vD, PyData.tuple.injEq, List.cons.injEq] at h
  exact V3.ext' (qD_inj h.1) (qD_inj h.2.1) (qD_inj h.2.2.1)
section
variable {K : PySem.W.Frag} {H H' : Hp} {v : V} {d : PyData} {Q : VK}
theorem Dp.vcV {p : V3} (h : Dp K H v (vD p)) : ∃ a, v = .ref a ∧ Vc K H a p := by
  cases h with
  | tup q a =>
    cases a with
    | cons h1 t =>
      cases t with
      | cons h2 t2 =>
        cases t2 with
        | cons h3 t3 =>
          cases t3
          obtain ⟨a1, rfl, e1⟩ := rt_of_dp h1
          obtain ⟨a2, rfl, e2⟩ := rt_of_dp h2
          obtain ⟨a3, rfl, e3⟩ := rt_of_dp h3
          exact ⟨_, rfl, Vc.mk q e1 e2 e3⟩
theorem isM_iff {d0 d1 d2 d3 : PyData} : IsM (.tuple [.tuple [d0, d1, d2], d3]) ↔ ∃ A : M3, d0 = vD A.a ∧ d1 = vD A.b ∧ d2 = vD A.c ∧ d3 = vD A.s ∧ det3 A ≠ 0 := by
  constructor
  · rintro ⟨A, e, h⟩
    simp only [mD, PyData.tuple.injEq, List.cons.injEq] at e
    exact ⟨A, e.1.1, e.1.2.1, e.1.2.2.1, e.2.1, h⟩
  · rintro ⟨A, rfl, rfl, rfl, rfl, h⟩
    exact ⟨A, rfl, h⟩
end
/-- lists and tuples of at most 3, no deeper than n -/
def Sz : Nat → PyData → Prop
  | 0, _ => False
  | n + 1, .list ds => ds.length ≤ 3 ∧ ∀ d, d ∈ ds → Sz n d
  | n + 1, .tuple ds => ds.length ≤ 3 ∧ ∀ d, d ∈ ds → Sz n d
  | _ + 1, _ => True
theorem sg_dec {q : Rat} {u : Int} (h0 : q.num > 0 → u = 1) (h1 : q.num < 0 → u = -1) (h2 : q.num = 0 → u = 0) : decide (V.int u = V.int 0) = decide (q = 0) := by
  have e : (V.int u = V.int 0) ↔ q = 0 := by
    rw [← Rat.num_eq_zero]
    constructor
    · intro h
      cases h
      rcases Int.lt_trichotomy q.num 0 with z | z | z
      · have := h1 z; omega
      · exact z
      · have := h0 z; omega
    · intro h
      rw [h2 h]
  exact decide_eq_decide.2 e
def trn (m : Int) (p : V3) : V3 := if m = 0 then ⟨p.x, -p.z, p.y⟩ else if m = 1 then ⟨p.z, p.y, -p.x⟩ else ⟨-p.y, p.x, p.z⟩
end My
namespace My
open PySem L2 PyProof.Rows
def Gd (N : List Addr) (D : Addr) (H : Hp) (acc : List V) : Prop := ∀ x, x ∈ acc → ∃ a ys, x = V.ref a ∧ a ≠ D ∧ a ∉ N ∧ H a = some (.lst ys) ∧ ys.length ≤ 3
section
variable {N : List Addr} {D : Addr} {H H' : Hp} {acc bcc : List V}
theorem Gd.nil : Gd N D H [] := fun x h => by cases h
theorem Gd.same (e : Same H H') (h : Gd N D H acc) : Gd N D H' acc := fun x hx => let ⟨a, ys, h1, h2, h3, h4, h5⟩ := h x hx; ⟨a, ys, h1, h2, h3, e _ _ h4, h5⟩
theorem Gd.upd {o : HO} (h : Gd N D H acc) : Gd N D (upd H D o) acc := fun x hx => let ⟨a, ys, h1, h2, h3, h4, h5⟩ := h x hx; ⟨a, ys, h1, h2, h3, (upd_ne h2).trans h4, h5⟩
theorem Gd.app (h : Gd N D H acc) (g : Gd N D H bcc) : Gd N D H (acc ++ bcc) := fun x hx => (List.mem_append.1 hx).elim (h x) (g x)
theorem Gd.of {D' : Addr} (h : Gd (D :: N) D' H acc) : Gd N D H acc := fun x hx => let ⟨a, ys, h1, h2, h3, h4, h5⟩ := h x hx; ⟨a, ys, h1, fun e => h3 (by rw [e]; simp), fun e => h3 (List.mem_cons_of_mem _ e), h4, h5⟩
theorem Gd.one {a : Addr} {ys : List V} (h1 : a ≠ D) (h2 : a ∉ N) (h3 : H a = some (.lst ys)) (h4 : ys.length ≤ 3) : Gd N D H [.ref a] := fun x hx => by
  rw [List.mem_singleton] at hx
  exact ⟨a, ys, hx, h1, h2, h3, h4⟩
end
end My
namespace My
open PySem L2 PyProof.Rows
/-! isinstance of the exception held with any number of classes, none of them its own -/
inductive NoF (K : PySem.W.Frag) (D : Addr) : List V → List Value → Prop
  | nil : NoF K D [] []
  | cons {c : Addr} {xs : List V} {us : List Value} (e : PySem.W.kitOne K (.ref D) (.ref c) = some false) (t : NoF K D xs us) : NoF K D (.ref c :: xs) (.ref c :: us)
section
variable {K : PySem.W.Frag} {H : Hp} {Q : VK} {D a : Addr}
theorem NoF.cls : ∀ {xs : List V} {us : List Value}, NoF K D xs us → Paired ClsV xs us
  | _, _, .nil => .nil
  | _, _, .cons _ t => .cons (.own _) (NoF.cls t)
theorem NoF.any : ∀ {xs : List V} {us : List Value}, NoF K D xs us → PySem.W.kitAny K (.ref D) us = some false
  | _, _, .nil => L2.kitAny_nil
  | _, _, .cons e t => L2.kitAny_cons e (fun _ => NoF.any t) (fun e => nomatch e)
theorem r_isAN {tp : Addr} {xs : List V} {us : List Value} (hT : H tp = some (.tup xs)) (h : NoF K D xs us) (q : Q (.bl false) H) : rIsAT K D a [.ref a, .ref tp] H Q := r_isAT hT h.cls h.any q
end
/-! turns -/
def trs (m : Int) : Nat → V3 → V3
  | 0, p => p
  | n + 1, p => trn m (trs m n p)
def tr3 (p q r : V3) : M3 := ⟨⟨p.x, q.x, r.x⟩, ⟨p.y, q.y, r.y⟩, ⟨p.z, q.z, r.z⟩, o3⟩
theorem tns_tr3 {a : Int} (h0 : 0 ≤ a) (h1 : a ≤ 2) {n : Nat} (hn : n ≤ 3) : tns a n = tr3 (trs a n e0) (trs a n e1) (trs a n e2) := by
  obtain rfl | rfl | rfl : a = 0 ∨ a = 1 ∨ a = 2 := by omega
  all_goals
    obtain rfl | rfl | rfl | rfl : n = 0 ∨ n = 1 ∨ n = 2 ∨ n = 3 := by omega
    all_goals
      apply M3.ext' <;> apply V3.ext' <;> decide +kernel
/-! some data with a bound -/
def Bn (K : PySem.W.Frag) (N : List Addr) (H : Hp) (v : V) : Prop := ∃ d, Dn K N H v d ∧ BdD 200 d
def BnA (K : PySem.W.Frag) (N : List Addr) (H : Hp) (m : Nat) (vs : List V) : Prop := ∃ ds, DnA K N H vs ds ∧ BdL 200 ds ∧ vs.length ≤ m
theorem BdL.app {k : Nat} : ∀ {ds es : List PyData}, BdL k ds → BdL k es → BdL k (ds ++ es)
  | [], _, _, h => h
  | d :: ds, es, h, g => by
    rw [BdL] at h
    rw [List.cons_append, BdL]
    exact ⟨h.1, h.2.app g⟩
theorem BdL.drop {k : Nat} : ∀ {ds : List PyData} (n : Nat), BdL k ds → BdL k (ds.drop n)
  | [], n, h => by rw [List.drop_nil]; exact h
  | d :: ds, 0, h => h
  | d :: ds, n + 1, h => by
    rw [BdL] at h
    exact h.2.drop n
theorem BdL.take {k : Nat} : ∀ {ds : List PyData} (n : Nat), BdL k ds → BdL k (ds.take n)
  | [], n, h => by rw [List.take_nil]; exact h
  | _ :: _, 0, _ => by rw [List.take_zero, BdL]; trivial
  | d :: ds, n + 1, h => by
    rw [BdL] at h
    rw [List.take_succ_cons, BdL]
    exact ⟨h.1, h.2.take n⟩
theorem bd_q {q : Rat} (h : BN 200 200 q) : BdD 200 (qD q) := by
  rw [qD, BdD, BdL, BdL, BdL, BdD, BdD]
  exact ⟨h.n, h.d, trivial⟩
theorem bd_v {p : V3} (h : VN 200 200 p) : BdD 200 (vD p) := by
  rw [vD, BdD, BdL, BdL, BdL, BdL]
  exact ⟨bd_q h.x, bd_q h.y, bd_q h.z, trivial⟩
section
variable {K : PySem.W.Frag} {N N' : List Addr} {H H' : Hp} {v : V} {vs ws : List V} {m m' : Nat} {a : Addr}
theorem Bn.same (e : Same H H') (h : Bn K N H v) : Bn K N H' v := let ⟨d, x, y⟩ := h; ⟨d, x.same e, y⟩
theorem Bn.fr {st : Addr} (e : Fr st H H') (hs : My.St K H st) (hN : st ∈ N) (h : Bn K N H v) : Bn K N H' v := let ⟨d, x, y⟩ := h; ⟨d, x.fr e hs hN, y⟩
theorem Bn.ob (h : Bn K N H v) : ∃ d, Ob K H v d ∧ BdD 200 d := let ⟨d, x, y⟩ := h; ⟨d, .inl x.dp, y⟩
theorem Bn.non : Bn K N H .non := ⟨_, .non, by rw [BdD] <;> simp⟩
theorem Bn.bl (b : Bool) : Bn K N H (.bl b) := ⟨_, .bl b, by rw [BdD] <;> simp⟩
theorem Bn.int {i : Int} (h : B 200 i) : Bn K N H (.int i) := ⟨_, .int i, by rw [BdD]; exact h⟩
theorem Bn.str (x : Str) : Bn K N H (.str x) := ⟨_, .str x, by rw [BdD] <;> simp⟩
theorem Bn.tup (q : SqT K H a vs) (h : BnA K N H m vs) : Bn K N H (.ref a) := let ⟨ds, x, y, z⟩ := h; ⟨_, .tup q x, by rw [BdD]; exact y⟩
theorem Bn.lst (hn : a ∉ N) (q : H a = some (.lst vs)) (h : BnA K N H m vs) : Bn K N H (.ref a) := let ⟨ds, x, y, z⟩ := h; ⟨_, .lst hn q x, by rw [BdD]; exact y⟩
theorem Bn.vc {p : V3} (h : Vc K H a p) (hp : VN 200 200 p) : Bn K N H (.ref a) := ⟨_, h.dn, bd_v hp⟩
theorem BnA.nil : BnA K N H 0 [] := ⟨[], .nil, by rw [BdL]; trivial, Nat.le_refl _⟩
theorem BnA.cons (h : Bn K N H v) (t : BnA K N H m vs) : BnA K N H (m + 1) (v :: vs) := let ⟨d, x, y⟩ := h; let ⟨ds, z, u, l⟩ := t; ⟨d :: ds, .cons x z, by rw [BdL]; exact ⟨y, u⟩, Nat.succ_le_succ l⟩
theorem BnA.append (h : BnA K N H m vs) (t : BnA K N H m' ws) : BnA K N H (m + m') (vs ++ ws) := let ⟨ds, x, y, l⟩ := h; let ⟨es, z, u, l'⟩ := t; ⟨ds ++ es, x.append z, y.app u, by rw [List.length_append]; omega⟩
theorem BnA.cut (h : BnA K N H m vs) (lo hi : Option Int) : BnA K N H m (cutV vs lo hi) := let ⟨ds, x, y, l⟩ := h; ⟨_, (x.drop _).take _, (y.drop _).take _, Nat.le_trans (cutV_length _ _ _) l⟩
theorem BnA.same (e : Same H H') (h : BnA K N H m vs) : BnA K N H' m vs := let ⟨d, x, y⟩ := h; ⟨d, x.same e, y⟩
end
end My
namespace My
open PySem L2
theorem w_dnew {σ : L2.St} {H : Hp} {Q : VK} (h : ∀ (p : Addr) (H1 : Hp), H p = none → Same H H1 → H1 p = some (.dK []) → Q (.ref p) H1) : tDNewK σ H Q := fun p np => h p _ np (Same.new np) upd_same
end My
namespace My
open PySem L2 PyProof.Rows
section
variable {K : PySem.W.Frag} {N N' : List Addr} {H H' : Hp} {v : V} {vs ws : List V} {m m' : Nat} {a : Addr}
theorem Bn.q {q : Rat} (h : SqT K H a [.int q.num, .int (q.den : Int)]) (hq : BN 200 200 q) : Bn K N H (.ref a) := ⟨_, .tup h (.cons (.int _) (.cons (.int _) .nil)), bd_q hq⟩
theorem BnA.get {i : Nat} (h : BnA K N H m vs) (e : vs[i]? = some v) : Bn K N H v := let ⟨_, x, y, _⟩ := h; let ⟨d, ed, dx⟩ := x.get e; ⟨d, dx, y.mem (List.mem_of_getElem? ed)⟩
theorem BnA.fr {st : Addr} (e : Fr st H H') (hs : My.St K H st) (hN : st ∈ N) (h : BnA K N H m vs) : BnA K N H' m vs := let ⟨d, x, y⟩ := h; ⟨d, x.mp (fun _ _ n h => ⟨n, e.keep _ _ (fun q => n (q ▸ hN)) h⟩) (TK.fr e hs), y⟩
def Ox (K : PySem.W.Frag) (N : List Addr) (H : Hp) (v : V) : Prop := Bn K N H v ∨ ∃ a kvs, v = .ref a ∧ a ∉ N ∧ H a = some (.dK kvs)
theorem Ox.fr {st : Addr} (e : Fr st H H') (hs : My.St K H st) (hN : st ∈ N) (h : Ox K N H v) : Ox K N H' v :=
  h.imp (fun h => h.fr e hs hN) fun ⟨a, kvs, h1, h2, h3⟩ => ⟨a, kvs, h1, h2, e.keep _ _ (fun q => h2 (q ▸ hN)) h3⟩
theorem Ox.ob (h : Ox K N H v) : ∃ d, Ob K H v d ∧ BdD 200 d := by
  rcases h with h | ⟨a, kvs, rfl, h2, h3⟩
  · exact h.ob
  · exact ⟨.dict [], .inr ⟨a, kvs, rfl, h3, rfl, (fun _ e => nomatch e), (fun _ e => nomatch e)⟩, by rw [BdD] <;> simp⟩
end
end My
namespace My
open PySem L2
theorem Fr.nonB {K : PySem.W.Frag} {H H' : Hp} {st a : Addr} (e : Fr st H H') (hs : My.St K H st) (h : H' a = none) : H a = none := by
  by_cases c : a = st
  · subst c
    obtain ⟨l, ns, i1, i2, i3, i4, i5, i6, hs⟩ := hs
    obtain ⟨ys, hy, _⟩ := e.hd _ hs.at_
    rw [hy] at h
    cases h
  · cases hh : H a with
    | none => rfl
    | some o => rw [e.keep _ _ c hh] at h; cases h
end My
namespace My
open PySem
/-- the scope of the first comprehension of an expression -/
def lcScF : Nat → Expr → Option Scope
  | 0, _ => none
  | _ + 1, .ListComp _ _ sc _ => some sc
  | n + 1, .Call _ es _ _ => es.findSome? (lcScF n)
  | n + 1, .Tuple es _ _ => es.findSome? (lcScF n)
  | _ + 1, _ => none
def stF : Stmt → Scope
  | .Assign _ e _ => (lcScF 6 e).getD { kind := .function, names := [], isGenerator := false, isCoroutine := false }
  | .Return (some e) _ => (lcScF 6 e).getD { kind := .function, names := [], isGenerator := false, isCoroutine := false }
  | .Expr e _ => (lcScF 6 e).getD { kind := .function, names := [], isGenerator := false, isCoroutine := false }
  | _ => { kind := .function, names := [], isGenerator := false, isCoroutine := false }
end My
namespace My
open PySem L2 PyProof.Rows
theorem pe_m (A : M3) : Pe 6 (mD A) := by
  refine ⟨(by decide : 2 ≤ 400), fun d hd => ?_⟩
  simp only [List.mem_cons, List.not_mem_nil, or_false] at hd
  rcases hd with rfl | rfl
  · refine ⟨(by decide : 3 ≤ 400), fun d hd => ?_⟩
    simp only [List.mem_cons, List.not_mem_nil, or_false] at hd
    rcases hd with rfl | rfl | rfl <;> exact pe_v (n := 1) _
  · exact pe_v (n := 2) _
theorem bd_m {A : M3} (h : MN 200 200 A) : BdD 200 (mD A) := by
  rw [mD, BdD, BdL, BdL, BdL, BdD, BdL, BdL, BdL, BdL]
  exact ⟨⟨bd_v h.a, bd_v h.b, bd_v h.c, trivial⟩, bd_v h.s, trivial⟩
/-- a row that is new since H0: a tuple or a list (not at Da) of three numbers -/
def Ro (K : PySem.W.Frag) (H0 : Hp) (Da : Addr) (H : Hp) (r : Addr) (p : V3) : Prop := ∃ a b c : V, (SqT K H r [a, b, c] ∨ (H0 r = none ∧ r ≠ Da ∧ H r = some (.lst [a, b, c]))) ∧ RvQ K H a p.x ∧ RvQ K H b p.y ∧ RvQ K H c p.z
def Ros (K : PySem.W.Frag) (H0 : Hp) (Da : Addr) (H : Hp) (acc : List V) (ps : List V3) : Prop := Paired (fun v p => ∃ r, v = V.ref r ∧ Ro K H0 Da H r p) acc ps
section
variable {K : PySem.W.Frag} {N : List Addr} {H0 H H' : Hp} {st r v Da : Addr} {p : V3} {acc : List V} {ps : List V3} {o : HO}
theorem Ro.go (e : Fr st H H') (hs : My.St K H st) (hn : H0 st ≠ none) (h : Ro K H0 Da H r p) : Ro K H0 Da H' r p := by
  obtain ⟨a, b, c, h1, h2, h3, h4⟩ := h
  have tk := TK.fr e hs
  refine ⟨a, b, c, ?_, h2.frq tk, h3.frq tk, h4.frq tk⟩
  rcases h1 with h1 | ⟨h0, hd, h1⟩
  · exact .inl (tk _ _ h1)
  · exact .inr ⟨h0, hd, e.keep _ _ (fun q => hn (by rw [← q]; exact h0)) h1⟩
theorem Ro.upd {xs : List V} (hD : H Da = some (.lst xs)) (h : Ro K H0 Da H r p) : Ro K H0 Da (L2.upd H Da o) r p := by
  obtain ⟨a, b, c, h1, h2, h3, h4⟩ := h
  have tk : TK K H (L2.upd H Da o) := TK.upd hD
  exact ⟨a, b, c, h1.imp (fun q => tk _ _ q) (fun q => ⟨q.1, q.2.1, (upd_ne q.2.1).trans q.2.2⟩), h2.frq tk, h3.frq tk, h4.frq tk⟩
theorem Ro.rowV (h : Ro K H0 Da H r p) : RowV K H r p := by
  obtain ⟨a, b, c, h1, h2, h3, h4⟩ := h
  exact ⟨a, b, c, h1.imp id (fun q => SqL.of q.2.2), h2, h3, h4⟩
theorem Ros.nil : Ros K H0 Da H [] [] := Paired.nil
theorem Ros.go (e : Fr st H H') (hs : My.St K H st) (hn : H0 st ≠ none) (h : Ros K H0 Da H acc ps) : Ros K H0 Da H' acc ps := Paired.mapP h fun _ _ ⟨r, e1, e3⟩ => ⟨r, e1, e3.go e hs hn⟩
theorem Ros.upd {xs : List V} (hD : H Da = some (.lst xs)) (h : Ros K H0 Da H acc ps) : Ros K H0 Da (L2.upd H Da o) acc ps := Paired.mapP h fun _ _ ⟨r, e1, e3⟩ => ⟨r, e1, e3.upd hD⟩
theorem Ros.snoc (h : Ros K H0 Da H acc ps) (hr : Ro K H0 Da H r p) : Ros K H0 Da H (acc ++ [.ref r]) (ps ++ [p]) := paired_snoc (R := fun v p => ∃ r, v = V.ref r ∧ Ro K H0 Da H r p) ⟨r, rfl, hr⟩ h
theorem Ros.three {p q t : V3} (h : Ros K H0 Da H acc [p, q, t]) : ∃ a b c : Addr, acc = [.ref a, .ref b, .ref c] ∧ Ro K H0 Da H a p ∧ Ro K H0 Da H b q ∧ Ro K H0 Da H c t := by
  unfold Ros at h
  cases h with
  | cons r1 h =>
    cases h with
    | cons r2 h =>
      cases h with
      | cons r3 h =>
        cases h
        obtain ⟨a, rfl, ha⟩ := r1
        obtain ⟨b, rfl, hb⟩ := r2
        obtain ⟨c, rfl, hc⟩ := r3
        exact ⟨a, b, c, rfl, ha, hb, hc⟩
theorem RvL.three {x y z : Rat} (h : Paired (fun v q => RvQ K H v q) acc [x, y, z]) : ∃ a b c : V, acc = [a, b, c] ∧ RvQ K H a x ∧ RvQ K H b y ∧ RvQ K H c z := by
  cases h with
  | cons r1 h =>
    cases h with
    | cons r2 h =>
      cases h with
      | cons r3 h =>
        cases h
        exact ⟨_, _, _, rfl, r1, r2, r3⟩
set_option Elab.async true in
theorem num_d {v : V} {q : Rat} (h : RvQ K H v q) (hq : BN 150 150 q) : ∃ d, Dn K N H v d ∧ (∀ n, Sz (n + 2) d) ∧ Rp 1 2 d := by
  rcases h with ⟨z, rfl, rfl⟩ | ⟨a, rfl, ha⟩
  · refine ⟨.int z, .int z, fun n => trivial, Rp.le (Rp.int ?_) (by decide) (by decide)⟩
    have := hq.n
    rw [numI] at this
    exact this.le (by decide)
  · refine ⟨_, .tup ha (.cons (.int _) (.cons (.int _) .nil)), fun n => ⟨(by decide : 2 ≤ 3), fun d hd => ?_⟩, Rp.tuple (l := 2) (n := 0) (m := 0) (fun d hd => ?_) (Nat.le_refl 2)⟩
    · simp only [List.mem_cons, List.not_mem_nil, or_false] at hd
      rcases hd with rfl | rfl <;> exact trivial
    · simp only [List.mem_cons, List.not_mem_nil, or_false] at hd
      rcases hd with rfl | rfl
      · exact Rp.int (hq.n.le (by decide))
      · exact Rp.int (hq.d.le (by decide))
in #guard_msgs in universe u_z
set_option Elab.async true in
theorem tri_d {a b c : V} {m k t : Nat} (h1 : SqT K H r [a, b, c] ∨ (r ∉ N ∧ H r = some (.lst [a, b, c])))
    (ha : ∃ d, Dn K N H a d ∧ (∀ n, Sz (n + t) d) ∧ Rp m k d) (hb : ∃ d, Dn K N H b d ∧ (∀ n, Sz (n + t) d) ∧ Rp m k d) (hc : ∃ d, Dn K N H c d ∧ (∀ n, Sz (n + t) d) ∧ Rp m k d) :
    ∃ d, Dn K N H (.ref r) d ∧ (∀ n, Sz (n + t + 1) d) ∧ Rp (m + 1) (3 * (k + 1)) d := by
  obtain ⟨x, x1, x2, x3⟩ := ha
  obtain ⟨y, y1, y2, y3⟩ := hb
  obtain ⟨z, z1, z2, z3⟩ := hc
  have hm : ∀ d, d ∈ [x, y, z] → (∀ n, Sz (n + t) d) ∧ Rp m k d := fun d hd => by
    simp only [List.mem_cons, List.not_mem_nil, or_false] at hd
    rcases hd with rfl | rfl | rfl
    · exact ⟨x2, x3⟩
    · exact ⟨y2, y3⟩
    · exact ⟨z2, z3⟩
  rcases h1 with h1 | ⟨h0, h1⟩
  · exact ⟨.tuple [x, y, z], .tup h1 (.cons x1 (.cons y1 (.cons z1 .nil))), fun n => ⟨(by decide : 3 ≤ 3), fun d hd => (hm d hd).1 n⟩, Rp.tuple (fun d hd => (hm d hd).2) (Nat.le_refl 3)⟩
  · exact ⟨.list [x, y, z], .lst h0 h1 (.cons x1 (.cons y1 (.cons z1 .nil))), fun n => ⟨(by decide : 3 ≤ 3), fun d hd => (hm d hd).1 n⟩, Rp.list (fun d hd => (hm d hd).2) (Nat.le_refl 3)⟩
in #guard_msgs in universe u_z
set_option Elab.async true in
theorem st_pin (h : My.St K H st) : ∃ l, Al H [st, l] ∧ ∀ H', Fr st H H' → My.St K H' st → ∃ ns i1 i2 i3 i4 i5 i6, StD K H' st l ns i1 i2 i3 i4 i5 i6 := by
  obtain ⟨l, ns, i1, i2, i3, i4, i5, i6, h⟩ := h
  refine ⟨l, fun a ha => ?_, fun H' e h1 => ?_⟩
  · simp only [List.mem_cons, List.not_mem_nil, or_false] at ha
    rcases ha with rfl | rfl
    · rw [h.at_]; exact fun q => nomatch q
    · rw [h.lst]; exact fun q => nomatch q
  · obtain ⟨l', ns', j1, j2, j3, j4, j5, j6, h1⟩ := h1
    obtain ⟨ys, hy, e2⟩ := e.hd _ h.at_
    rw [h1.at_] at hy
    cases hy
    have el : l' = l := by simpa using e2
    subst el
    exact ⟨ns', j1, j2, j3, j4, j5, j6, h1⟩
in #guard_msgs in universe u_z
theorem StD.keepN {l : Addr} {ns : List Int} {i1 i2 i3 i4 i5 i6 : Int} (h : StD K H st l ns i1 i2 i3 i4 i5 i6) (e : ∀ a, a ∈ [st, l] → H' a = H a) : StD K H' st l ns i1 i2 i3 i4 i5 i6 :=
  ⟨(e st (by simp)).trans h.at_, h.ne, (e l (by simp)).trans h.lst, h.nn⟩
end
end My
namespace My
open PySem L2
section
variable {K : PySem.W.Frag} {N : List Addr} {H H0 : Hp} {v : V} {vs : List V} {m m0 : Nat}
theorem Bn.gd (_ : Bn K N H0 v) (p : Bn K N H v) : Bn K N H v := p
theorem BnA.gd (_ : BnA K N H0 m0 vs) (p : BnA K N H m vs) : BnA K N H m vs := p
end
end My

set_option Elab.async false
set_option maxRecDepth 100000
set_option linter.all false
/-! what stands where -/
local macro_rules | `(tactic| walk_at "sq") => `(tactic| first
  | with_reducible assumption
  | exact L2.SqT.of (by with_reducible assumption)
  | (apply My.Same.tup; (focus (with_reducible assumption)); walk_at "sq")
  | (apply My.Fr.tup; (focus (with_reducible assumption)); (focus (walk_at "st")); walk_at "sq")
  | (apply My.tkap; (focus (with_reducible assumption)); walk_at "sq"))
local macro_rules | `(tactic| walk_at "st") => `(tactic| first
  | with_reducible assumption
  | exact My.StD.st (by with_reducible assumption)
  | ((apply My.St.same); (focus (with_reducible assumption)); walk_at "st"))
local macro_rules | `(tactic| walk_at "same") => `(tactic| first
  | exact L2.Same.refl _
  | with_reducible assumption
  | (refine L2.Same.trans ?_ (by with_reducible assumption); walk_at "same"))
local macro_rules | `(tactic| walk_at "fr") => `(tactic| first
  | exact My.Fr.refl _ _
  | with_reducible assumption
  | (refine My.Fr.trans ?_ (by with_reducible assumption); walk_at "fr")
  | (refine My.Fr.trans ?_ (My.Same.fr (by with_reducible assumption)); walk_at "fr"))
local macro_rules | `(tactic| walk_at "bits") => `(tactic| first
  | with_reducible assumption
  | ((with_reducible apply My.B.mul) <;> walk_at "bits")
  | ((with_reducible apply My.B.add) <;> walk_at "bits")
  | ((with_reducible apply My.B.sub) <;> walk_at "bits")
  | ((with_reducible apply My.B.neg); walk_at "bits")
  | ((with_reducible apply My.B.nat (k := 4)); (focus rfl))
  | ((with_reducible apply My.B.nat (k := 12)); (focus rfl))
  | ((with_reducible apply My.B.nat (k := 64)); (focus rfl))
  | ((with_reducible apply My.BQ.n); (focus (walk_at "bq")))
  | ((with_reducible apply My.BQ.d); (focus (walk_at "bq")))
  | ((with_reducible apply My.BN.n); (focus (walk_at "bn")))
  | ((with_reducible apply My.BN.d); (focus (walk_at "bn")))
  | ((with_reducible apply My.Rt.bn); (focus (with_reducible assumption)))
  | ((with_reducible apply My.Rt.bd); (focus (with_reducible assumption)))
  | ((with_reducible apply My.B.redn); (focus (with_reducible assumption)); walk_at "bits")
  | ((with_reducible apply My.B.redd); (focus (with_reducible assumption)); walk_at "bits")
  | ((with_reducible apply My.B.scl0); (focus (with_reducible assumption)); walk_at "bits")
  | ((with_reducible apply My.B.scl1); (focus (with_reducible assumption)); walk_at "bits")
  | ((with_reducible apply My.B.scl2); (focus (with_reducible assumption)); walk_at "bits")
  | ((with_reducible apply My.B.scl3); (focus (with_reducible assumption)); walk_at "bits")
  | ((with_reducible apply My.B.of_le); (focus (with_reducible assumption)); walk_at "bits")
  | exact My.B.sg
  | exact My.B.rng (k := 12) (by omega) (by omega)
  | exact My.B.rng (k := 64) (by omega) (by omega)
  | exact My.B.lit (k := 64) (by decide +kernel)
  | exact My.B.lit (k := 140) (by decide +kernel))
local macro_rules | `(tactic| walk_at "cmul") => `(tactic| (refine My.B.cmul (by walk_at "bits") (by walk_at "bits") (by first | decide | omega)))
local macro_rules | `(tactic| walk_at "C") => `(tactic| first
  | with_reducible assumption
  | ((with_reducible apply My.B.cmul); (focus (walk_at "bits")); (focus (walk_at "bits")); first | decide | omega)
  | (show (0 : Int) < _; omega)
  | trivial
  | omega
  | exact .inr ⟨by omega, by omega⟩
  | exact .inl ⟨by omega, by omega⟩
  | exact ⟨by decide, by decide, by decide⟩)
/-! a call by its use-lemma: grows -/
local macro_rules | `(tactic| walk_at "u") => `(tactic| fail)
/-! one step -/
local macro_rules | `(tactic| walk_at "s1") => `(tactic| with_reducible first
  | refine My.w_var rfl ?_
  | refine My.w_c ?_
  | refine My.w_op ?_
  | refine My.w_cons ?_
  | refine My.w_nil ?_
  | refine My.r_I0 ?_
  | refine My.w_call ?_
  | refine My.w_ex ?_
  | refine My.w_test ?_
  | refine My.w_tup ?_
  | refine My.r_eq rfl ?_)
local macro_rules | `(tactic| walk_at "s2") => `(tactic| with_reducible first
  | refine My.w_seqA ?_
  | refine My.w_seqI ?_
  | (show L2.Ends.nx _ _ _; refine My.w_nx ?_)
  | (show L2.Ends.rt _ _ _; refine My.w_rt ?_)
  | refine My.w_ret ?_
  | refine My.w_asg ?_
  | refine My.w_ifS ?_
  | refine My.w_next ?_
  | refine My.w_lst ?_
  | refine My.w_cb ?_
  | refine My.w_un ?_
  | refine My.r_U ?_
  | refine My.r_ne rfl ?_
  | refine My.w_and ?_
  | refine My.w_or ?_
  | refine My.w_not ?_
  | refine My.w_andV ?_
  | refine My.w_orV ?_
  | refine My.w_orT ?_
  | refine My.w_notV ?_
  | refine My.w_tB ?_
  | refine My.w_ifE ?_
  | refine My.w_seqD ?_
  | refine My.w_drop ?_
  | refine My.w_seqN ?_
  | refine My.r_gcd ?_
  | refine My.r_gcd4 ?_
  | refine My.w_never ?_
  | refine My.w_seqF ?_
  | refine My.w_for ?_
  | refine My.w_iL ?_
  | refine My.w_iT ?_
  | refine My.w_iR1 ?_
  | refine My.w_iR2 ?_
  | refine My.w_np ?_
  | refine My.w_pt ?_
  | refine My.r_ptP ?_
  | refine My.w_sl ?_
  | refine My.w_rev ?_
  | refine My.w_tru ?_
  | refine My.w_zip ?_
  | refine My.w_zm ?_
  | refine My.w_aug rfl ?_
  | refine My.w_seqAug rfl ?_
  | refine My.r_ip ?_
  | refine My.w_seqG ?_
  | refine My.w_asgG ?_
  | refine My.w_gN ?_
  | refine My.w_gCons ?_
  | refine My.w_chain ?_
  | refine My.w_bm ?_
  | refine My.w_callN ?_
  | refine My.r_isN0 ?_
  | refine My.r_isNr ?_
  | refine My.r_notN0 ?_
  | refine My.r_notNr ?_
  | refine My.r_isNi ?_
  | refine My.r_isBi ?_
  | refine My.r_isBr ?_
  | refine My.w_gSub ?_
  | refine My.r_int1 ?_
  | refine My.r_int1b ?_
  | refine My.r_abs1 ?_
  | refine My.r_max2 ?_
  | refine My.r_min2 ?_
  | refine My.w_gNil ?_
  | refine My.w_callS ?_
  | refine My.w_callE ?_
  | refine My.r_argE ?_
  | refine My.w_seqTry ?_
  | refine My.w_try ?_
  | refine My.w_tifR ⟨rfl, rfl⟩ ?_
  | refine My.w_seqR ?_
  | refine My.w_raise ?_
  | refine My.w_lc ?_
  | refine My.if_nT ?_
  | refine My.if_nF ?_
  | refine L2.iteT ?_
  | refine L2.iteF ?_)
local macro_rules | `(tactic| walk_at "std") => `(tactic| first
  | with_reducible assumption
  | ((apply My.StD.same); (focus (with_reducible assumption)); walk_at "std"))
local macro_rules | `(tactic| walk_at "g1") => `(tactic| first
  | walk_at "s1"
  | ((with_reducible apply My.r_I); (focus (walk_at "C")))
  | ((with_reducible apply My.r_ixT); (focus (walk_at "sq")); (focus rfl))
  | ((with_reducible apply My.r_ixS); (focus (walk_at "std")); (focus rfl))
  | ((with_reducible apply My.r_ixL); (focus (walk_at "sl")); (focus (first | rfl | assumption)))
  | ((with_reducible apply My.a_tup); (focus rfl); intro _ _ _ _ _)
  | walk_at "s2"
  | walk_at "u"
  | ((with_reducible apply My.r_setS); (focus (walk_at "std")); (focus rfl); (focus rfl); (focus omega); intro _ _ _ _)
  | ((with_reducible apply My.r_ixC); (focus (walk_at "std")); (focus (with_reducible assumption)); intro _)
  | ((with_reducible apply My.r_iR1); (focus omega))
  | ((with_reducible apply My.r_iR2); (focus omega))
  | ((with_reducible apply My.r_slV); (focus (walk_at "vl")); intro _ _ _ _ _)
  | ((with_reducible apply My.r_revV); (focus (walk_at "vl")); intro _ _ _ _ _)
  | ((with_reducible apply My.r_lstV); (focus (walk_at "vl")); intro _ _ _ _ _)
  | ((with_reducible apply My.r_lenV); (focus (walk_at "vl")))
  | ((with_reducible apply My.r_bmV); (focus (walk_at "vl")))
  | ((with_reducible apply My.r_truV); (focus (walk_at "vl")))
  | ((with_reducible apply My.r_zipV); (focus (walk_at "vl")); (focus (walk_at "vl")))
  | ((with_reducible apply My.r_zT); (focus (walk_at "sq")); (focus (walk_at "sq")))
  | ((with_reducible apply My.r_zL); (focus (walk_at "sl")); (focus (walk_at "sl")))
  | ((with_reducible apply My.r_sum); (focus (walk_at "sl")))
  | ((with_reducible apply My.r_catA); (focus (walk_at "sq")); (focus (walk_at "sq")); (focus rfl); (focus rfl); intro _ _ _ _)
  | ((with_reducible apply My.r_slT); (focus (walk_at "sq")); (focus (simp [HT.sIx]; done)); (focus rfl); intro _ _ _ _ _)
  | ((with_reducible apply My.r_zm); (focus (walk_at "sq")); (focus (walk_at "sl")))
  | ((with_reducible apply My.r_catV); (focus (walk_at "vl")); (focus (walk_at "vl")); (focus (first | omega | (simp; omega))); intro _ _ _ _ _)
  | ((with_reducible apply My.r_catL); (focus (walk_at "ls")); (focus (walk_at "ls")); (focus rfl); intro _ _ _ _ _)
  | ((with_reducible apply My.r_isE); (focus (first | exact L2.ClsV.own _ | exact L2.ClsV.ty _)); (focus (with_reducible assumption)))
  | ((with_reducible apply My.w_asY); (focus (with_reducible assumption)); intro _ _)
  | ((with_reducible apply My.r_ixSA); (focus (walk_at "sa")); (focus (first | rfl | assumption)))
  | ((with_reducible apply My.r_ixAT); (focus (walk_at "sq")); (focus rfl))
  | ((with_reducible apply My.r_ixAL); (focus (walk_at "sl")); (focus rfl))
  | ((with_reducible apply My.r_eqD); (focus (walk_at "dp")); (focus (walk_at "dp")); (focus (first | rfl | assumption)); (focus (first | rfl | assumption)))
  | ((with_reducible apply My.r_neD); (focus (walk_at "dp")); (focus (walk_at "dp")); (focus (first | rfl | assumption)); (focus (first | rfl | assumption)))
  | ((with_reducible apply My.r_cN); (focus rfl); (focus rfl); (focus (walk_at "pk")))
  | ((with_reducible apply My.r_iL); (focus (walk_at "sl")))
  | ((with_reducible apply My.r_iT); (focus (walk_at "sq")))
  | ((with_reducible apply My.w_gUnL); (focus (walk_at "sl")); (focus rfl))
  | ((with_reducible apply My.w_gTup); (focus (walk_at "sq")); (focus rfl))
  | ((with_reducible apply My.w_gAny); (focus (walk_at "sa")); (focus rfl))
  | ((with_reducible apply My.r_isi); (focus (exact L2.ClsV.ty _)); (focus (first | exact L2.TyX.base (L2.TyOf.int _) | exact L2.TyX.base L2.TyOf.non | exact L2.TyX.base (L2.TyOf.bl _) | exact My.SqT.tyx (by walk_at "sq") | exact My.SqL.tyx (by walk_at "sl") | exact My.VL.tyx (by walk_at "vl"))); (focus (first | exact L2.kit_ty (r := true) (by decide +kernel) | exact L2.kit_ty (r := false) (by decide +kernel))))
  | ((with_reducible apply My.r_lenT2); (focus (walk_at "sq")))
  | ((with_reducible apply My.r_lenT3); (focus (walk_at "sq")))
  | ((with_reducible apply My.r_lenT4); (focus (walk_at "sq")))
  | ((with_reducible apply My.r_lenL'); (focus (walk_at "sl")))
  | ((with_reducible apply My.r_lstL); (focus (walk_at "sl")); intro _ _ _ _ _)
  | ((with_reducible apply My.r_lstT); (focus (walk_at "sq")); intro _ _ _ _ _)
  | ((with_reducible apply My.r_tplL); (focus (walk_at "sl")); intro _ _ _ _ _)
  | ((with_reducible apply My.a_lst); (focus rfl); intro _ _ _ _ _)
  | ((with_reducible apply My.r_catT); (focus (walk_at "sq")); (focus (walk_at "sq")); (focus rfl); (focus rfl); (focus rfl); (focus rfl); intro _ _ _ _ _)
  | ((with_reducible apply My.r_bmL); (focus (walk_at "sl")))
  | ((with_reducible apply My.if_eqT); (focus rfl))
  | ((with_reducible apply My.if_eqF); (focus rfl))
  | ((with_reducible apply My.if_neT); (focus rfl))
  | ((with_reducible apply My.if_neF); (focus rfl))
  | ((with_reducible apply My.if_decT); (focus (with_reducible assumption)))
  | ((with_reducible apply My.if_decF); (focus (with_reducible assumption)))
  | ((with_reducible apply My.if_ndecT); (focus (with_reducible assumption)))
  | ((with_reducible apply My.if_ndecF); (focus (with_reducible assumption)))
  | ((with_reducible apply My.r_isi); (focus (exact L2.ClsV.ty _)); (focus (exact L2.TyX.base (L2.TyOf.str _))); (focus (first | exact L2.kit_ty (r := true) (by decide +kernel) | exact L2.kit_ty (r := false) (by decide +kernel))))
  | ((with_reducible apply My.r_isLT); (focus (walk_at "tp")); (focus (walk_at "dp")); (focus (first | exact (rfl : _ = true) | exact (rfl : _ = false))))
  | with_reducible refine My.w_up ?_
  | ((with_reducible apply My.r_up); (focus omega))
  | (with_reducible refine My.w_gt ?_; intro _ _)
  | (with_reducible refine My.w_gdM ?_; intro _ _ _ _ _ _ _ _ _ _ _ _)
  | (with_reducible refine My.w_gd ?_; intro _ _)
  | ((with_reducible apply My.r_catX); (focus (first | omega | (show _ + 1 ≤ _; omega))))
  | ((with_reducible apply My.r_strI); (focus (walk_at "bitsK")))
  | ((with_reducible apply My.r_slA); (focus (walk_at "sq")); intro _ _ _ _)
  | ((with_reducible apply My.r_slL); (focus (walk_at "sl")); intro _ _ _ _ _)
  | with_reducible refine My.w_revT ?_
  | with_reducible refine My.w_dget ?_
  | ((with_reducible apply My.w_due); intro _ _ _ _)
  | with_reducible refine My.w_pN ?_
  | with_reducible refine My.w_pC ?_
  | ((with_reducible apply My.r_revT); (focus (walk_at "sq")); intro _ _ _ _)
  | ((with_reducible apply My.r_revL); (focus (walk_at "sl")); intro _ _ _ _ _)
  | with_reducible refine My.r_isBb ?_
  | with_reducible refine My.r_isBn ?_
  | with_reducible refine My.r_isBs ?_
  | with_reducible refine My.r_isNb ?_
  | with_reducible refine My.r_isNs ?_
  | ((with_reducible apply My.r_isA8); (focus (walk_at "tp")); (focus (with_reducible assumption)); (focus (with_reducible assumption)); (focus (with_reducible assumption)); (focus (with_reducible assumption)); (focus (with_reducible assumption)); (focus (with_reducible assumption)); (focus (with_reducible assumption)); (focus (with_reducible assumption)))
  | ((with_reducible apply My.r_isA7); (focus (walk_at "tp")); (focus (with_reducible assumption)); (focus (with_reducible assumption)); (focus (with_reducible assumption)); (focus (with_reducible assumption)); (focus (with_reducible assumption)); (focus (with_reducible assumption)); (focus (with_reducible assumption)))
  | ((with_reducible apply My.r_inK2); (focus (walk_at "sq")))
  | ((with_reducible apply My.r_inS); (focus (walk_at "sq")); (focus (walk_at "dp")))
  | (with_reducible refine My.w_dnew ?_; intro _ _ _ _ _)
  | ((with_reducible apply My.r_isAN); (focus (walk_at "tp")); (focus (walk_at "nof")))
  | (with_reducible refine My.w_dnewX ?_; intro _ _ _ _ _)
  | ((with_reducible apply My.r_isxi); (focus (exact L2.ClsV.ty _)); (focus (first | exact L2.TyX.base (L2.TyOf.int _) | exact L2.TyX.base L2.TyOf.non | exact L2.TyX.base (L2.TyOf.bl _) | exact L2.TyX.base (L2.TyOf.str _) | exact My.SqT.tyx (by walk_at "sq") | exact My.SqL.tyx (by walk_at "sl") | exact My.VL.tyx (by walk_at "vl"))); (focus (first | exact L2.kit_ty (r := true) (by decide +kernel) | exact L2.kit_ty (r := false) (by decide +kernel)))))
local macro_rules | `(tactic| walk_at "g") => `(tactic| repeat (walk_at "g1"))
local macro_rules | `(tactic| walk_at "b1") => `(tactic| with_reducible first
  | refine My.if_eqI (fun _ => ?_) (fun _ => ?_)
  | refine My.if_neI (fun _ => ?_) (fun _ => ?_)
  | refine My.if_dec (fun _ => ?_) (fun _ => ?_)
  | refine My.if_ndec (fun _ => ?_) (fun _ => ?_)
  | refine My.if_nb (fun _ => ?_) (fun _ => ?_)
  | refine My.if_b (fun _ => ?_) (fun _ => ?_))
/-! all ways -/
local macro_rules | `(tactic| walk_at "a") => `(tactic| repeat' (first | walk_at "g1" | walk_at "b1"))
local macro_rules | `(tactic| walk_at "bitsK") => `(tactic| first
  | with_reducible assumption
  | exact My.B.le (by with_reducible assumption) (by first | decide | omega)
  | (apply My.B.le; (focus (walk_at "bits")); first | decide | omega))
local macro_rules | `(tactic| walk_at "sl") => `(tactic| first
  | with_reducible assumption
  | exact L2.SqL.of (by with_reducible assumption)
  | exact L2.SqL.of (My.StD.lst (by with_reducible assumption))
  | (apply L2.Same.seq; (focus (with_reducible assumption)); walk_at "sl")
  | ((apply My.Fr.seq); (focus (with_reducible assumption)); (focus (walk_at "st")); (focus (walk_at "sl")); rfl)
  | ((apply My.Fr.seqN); (focus (with_reducible assumption)); (focus (walk_at "st")); (focus (walk_at "sl")); rfl))
local macro_rules | `(tactic| walk_at "dpa") => `(tactic| first
  | exact L2.DpAll.nil
  | ((apply L2.DpAll.cons); (focus (walk_at "dp")); walk_at "dpa"))
local macro_rules | `(tactic| walk_at "dp") => `(tactic| first
  | with_reducible assumption
  | exact L2.Dp.non
  | exact L2.Dp.bl _
  | exact L2.Dp.int _
  | exact L2.Dp.str _
  | ((apply L2.Dp.tup); (focus (walk_at "sq")); walk_at "dpa")
  | ((apply L2.Dp.lst); (focus (walk_at "sl")); walk_at "dpa")
  | exact My.Vc.dp (by walk_at "vc")
  | exact My.Mv.dp (by walk_at "mv")
  | exact My.VL.dp (by walk_at "vl")
  | exact My.CnL.dp (by walk_at "cl")
  | exact My.Dn.dp (by walk_at "dn")
  | ((apply My.Dp.same); (focus (with_reducible assumption)); walk_at "dp"))
local macro_rules | `(tactic| walk_at "tp") => `(tactic| first
  | with_reducible assumption
  | ((apply My.Same.at); (focus (with_reducible assumption)); walk_at "tp"))
local macro_rules | `(tactic| walk_at "al") => `(tactic| first
  | with_reducible assumption
  | exact My.Al.nil
  | ((apply My.Al.same); (focus (with_reducible assumption)); walk_at "al")
  | ((apply My.Al.fr); (focus (with_reducible assumption)); (focus (walk_at "st")); walk_at "al"))
local macro_rules | `(tactic| walk_at "dna") => `(tactic| first
  | with_reducible assumption
  | exact My.DnA.nil
  | ((apply My.DnA.cons); (focus (walk_at "dn")); walk_at "dna")
  | ((apply My.DnA.same); (focus (with_reducible assumption)); walk_at "dna"))
local macro_rules | `(tactic| walk_at "dn") => `(tactic| first
  | with_reducible assumption
  | exact My.Dn.non
  | exact My.Dn.bl _
  | exact My.Dn.int _
  | exact My.Dn.str _
  | exact My.Vc.dn (by walk_at "vc")
  | ((apply My.Dn.same); (focus (with_reducible assumption)); walk_at "dn")
  | ((apply My.Dn.fr); (focus (with_reducible assumption)); (focus (walk_at "st")); (focus (simp; done)); walk_at "dn")
  | ((apply My.Dn.tup); (focus (walk_at "sq")); walk_at "dna"))
local macro_rules | `(tactic| walk_at "nin") => `(tactic| first
  | exact List.not_mem_nil
  | (apply My.Al.new'; (focus (with_reducible assumption)); walk_at "al"))
local macro_rules | `(tactic| walk_at "pna") => `(tactic| first
  | with_reducible assumption
  | exact My.PnA.nil
  | ((apply My.PnA.cons); (focus (walk_at "pn")); walk_at "pna")
  | ((apply My.PnA.append); (focus (walk_at "pna")); walk_at "pna")
  | ((apply My.PnA.cut); walk_at "pna")
  | ((apply My.PnA.rev); walk_at "pna")
  | ((apply My.PnA.same); (focus (with_reducible assumption)); walk_at "pna"))
local macro_rules | `(tactic| walk_at "pn") => `(tactic| first
  | with_reducible assumption
  | exact My.Pn.non
  | exact My.Pn.bl _
  | exact My.Pn.int _
  | exact My.Pn.str _
  | exact My.Pn.vc (by walk_at "vc")
  | ((apply My.Pn.tup); (focus (walk_at "sq")); (focus (walk_at "pna")); (first | decide | omega))
  | ((apply My.Pn.lst); (focus (walk_at "nin")); (focus (walk_at "ls")); (focus (walk_at "pna")); (first | decide | omega))
  | ((apply My.Pn.same); (focus (with_reducible assumption)); walk_at "pn")
  | ((apply My.Pn.fr); (focus (with_reducible assumption)); (focus (walk_at "st")); (focus (simp; done)); walk_at "pn"))
local macro_rules | `(tactic| walk_at "ls") => `(tactic| first
  | with_reducible assumption
  | ((apply My.Same.lst); (focus (with_reducible assumption)); walk_at "ls")
  | ((apply My.Fr.lst); (focus (with_reducible assumption)); (focus (walk_at "st")); (focus (walk_at "ls")); rfl)
  | ((apply My.Fr.lstN); (focus (with_reducible assumption)); (focus (walk_at "st")); (focus (walk_at "ls")); rfl))
local macro_rules | `(tactic| walk_at "pk") => `(tactic| first
  | (simp only [My.pkV, List.map_cons, List.map_nil, List.nil_append, List.append_nil, List.cons_append, List.getD_cons_zero, List.getD_cons_succ]; done)
  | (simp only [My.pkV, List.map_cons, List.map_nil, List.nil_append, List.append_nil, List.cons_append, List.getD_cons_zero, List.getD_cons_succ]; rfl))
local macro_rules | `(tactic| walk_at "tk") => `(tactic| first
  | exact My.TK.refl _ _
  | with_reducible assumption
  | ((apply My.TK.trans); (focus (exact My.TK.same (by with_reducible assumption))); fail)
  | (refine My.TK.trans ?_ (My.TK.same (by with_reducible assumption)); walk_at "tk")
  | (refine My.TK.trans ?_ (My.TK.fr (by with_reducible assumption) (by walk_at "st")); walk_at "tk"))
local macro_rules | `(tactic| walk_at "pvp") => `(tactic| first
  | with_reducible assumption
  | ((apply My.PvP.same); (focus (with_reducible assumption)); walk_at "pvp"))
local macro_rules | `(tactic| walk_at "bq") => `(tactic| first
  | with_reducible assumption
  | ((with_reducible apply My.BQ.add) <;> walk_at "bq")
  | ((with_reducible apply My.BQ.sub) <;> walk_at "bq")
  | ((with_reducible apply My.BQ.mul) <;> walk_at "bq")
  | ((with_reducible apply My.BQ.neg); walk_at "bq"))
local macro_rules | `(tactic| walk_at "bqK") => `(tactic| first
  | with_reducible assumption
  | exact My.BQ.le (by with_reducible assumption) (by first | decide | omega)
  | ((apply My.BQ.le); (focus (walk_at "bq")); first | decide | omega))
local macro_rules | `(tactic| walk_at "bn") => `(tactic| first
  | with_reducible assumption
  | ((with_reducible apply My.BN.int); (focus (walk_at "bits")))
  | ((with_reducible apply My.BN.dv); (focus (decide +kernel)); (focus (walk_at "bits")); (focus (walk_at "bits")))
  | ((with_reducible apply My.VN.x); (focus (walk_at "vn")))
  | ((with_reducible apply My.VN.y); (focus (walk_at "vn")))
  | ((with_reducible apply My.VN.z); (focus (walk_at "vn")))
  | ((with_reducible apply My.BN.add) <;> walk_at "bn")
  | ((with_reducible apply My.BN.sub) <;> walk_at "bn")
  | ((with_reducible apply My.BN.mul) <;> walk_at "bn")
  | ((with_reducible apply My.BN.dt) <;> walk_at "vn")
  | ((with_reducible apply My.BN.neg); walk_at "bn"))
local macro_rules | `(tactic| walk_at "vn") => `(tactic| first
  | with_reducible assumption
  | ((with_reducible apply My.MN.a); (focus (walk_at "mn")))
  | ((with_reducible apply My.MN.b); (focus (walk_at "mn")))
  | ((with_reducible apply My.MN.c); (focus (walk_at "mn")))
  | ((with_reducible apply My.MN.s); (focus (walk_at "mn")))
  | ((with_reducible apply My.VN.va) <;> walk_at "vn")
  | ((with_reducible apply My.VN.vs) <;> walk_at "vn")
  | ((with_reducible apply My.VN.sc); (focus (walk_at "bn")); (focus (walk_at "vn")))
  | ((with_reducible apply My.VN.cr) <;> walk_at "vn")
  | ((with_reducible apply My.VN.mvec); (focus (walk_at "mn")); (focus (walk_at "vn")))
  | ((with_reducible apply My.VN.app); (focus (walk_at "mn")); (focus (walk_at "vn"))))
local macro_rules | `(tactic| walk_at "mn") => `(tactic| first
  | with_reducible assumption
  | ((with_reducible apply My.MN.comb) <;> walk_at "mn"))
local macro_rules | `(tactic| walk_at "vc") => `(tactic| first
  | with_reducible assumption
  | ((apply My.Vc.same); (focus (with_reducible assumption)); walk_at "vc")
  | ((apply My.Vc.fr); (focus (with_reducible assumption)); (focus (walk_at "st")); walk_at "vc")
  | ((apply My.Vc.tk); (focus (with_reducible assumption)); walk_at "vc"))
local macro_rules | `(tactic| walk_at "mv") => `(tactic| first
  | with_reducible assumption
  | ((apply My.Mv.same); (focus (with_reducible assumption)); walk_at "mv")
  | ((apply My.Mv.fr); (focus (with_reducible assumption)); (focus (walk_at "st")); walk_at "mv")
  | ((apply My.Mv.tk); (focus (with_reducible assumption)); walk_at "mv"))
local macro_rules | `(tactic| walk_at "ar") => `(tactic| (first | decide | omega))
local macro_rules | `(tactic| walk_at "sqI") => `(tactic| first
  | walk_at "sq"
  | exact My.SqT.ofInt (by walk_at "sq")
  | exact My.SqT.ofRat (by walk_at "sq") (by decide +kernel) (by decide +kernel))
local macro_rules | `(tactic| walk_at "bnK") => `(tactic| first
  | with_reducible assumption
  | exact My.BN.le (by walk_at "bn") (by first | decide | omega) (by first | decide | omega))
local macro_rules | `(tactic| walk_at "sa") => `(tactic| first
  | with_reducible assumption
  | (apply My.SqA.t; walk_at "sq")
  | (apply My.SqA.l; walk_at "sl")
  | ((apply My.SqA.same); (focus (with_reducible assumption)); walk_at "sa"))
local macro_rules | `(tactic| walk_at "va") => `(tactic| first
  | with_reducible assumption
  | exact My.VcA.of (by walk_at "vc")
  | ((apply My.VcA.same); (focus (with_reducible assumption)); walk_at "va")
  | ((apply My.VcA.fr); (focus (with_reducible assumption)); (focus (walk_at "st")); walk_at "va"))
local macro_rules | `(tactic| walk_at "vl") => `(tactic| first
  | with_reducible assumption
  | ((apply My.VL.same); (focus (with_reducible assumption)); walk_at "vl")
  | ((apply My.VL.fr); (focus (with_reducible assumption)); (focus (walk_at "st")); walk_at "vl"))
local macro_rules | `(tactic| walk_at "vb") => `(tactic| fail)
local macro_rules | `(tactic| walk_at "cl") => `(tactic| first
  | with_reducible assumption
  | ((apply My.CnL.same); (focus (with_reducible assumption)); walk_at "cl")
  | ((apply My.CnL.fr); (focus (with_reducible assumption)); (focus (walk_at "st")); walk_at "cl"))
local macro_rules | `(tactic| walk_at "ob") => `(tactic| first
  | with_reducible assumption
  | ((apply My.Ob.same); (focus (with_reducible assumption)); walk_at "ob")
  | exact Or.inl (by walk_at "dp"))
local macro_rules | `(tactic| walk_at "nof") => `(tactic| first
  | exact My.NoF.nil
  | ((apply My.NoF.cons); (focus (with_reducible assumption)); walk_at "nof"))
local macro_rules | `(tactic| walk_at "bns2") => `(tactic| first
  | with_reducible assumption
  | ((with_reducible apply My.BnA.same); (focus (with_reducible assumption)); walk_at "bns2")
  | ((with_reducible apply My.BnA.fr); (focus (with_reducible assumption)); (focus (walk_at "st")); (focus (simp; done)); walk_at "bns2"))
local macro_rules | `(tactic| walk_at "bns") => `(tactic| first
  | with_reducible assumption
  | ((with_reducible apply My.BnA.gd); (focus (with_reducible assumption)); walk_at "bns2"))
local macro_rules | `(tactic| walk_at "bn2") => `(tactic| first
  | with_reducible assumption
  | ((with_reducible apply My.Bn.same); (focus (with_reducible assumption)); walk_at "bn2")
  | ((with_reducible apply My.Bn.fr); (focus (with_reducible assumption)); (focus (walk_at "st")); (focus (simp; done)); walk_at "bn2"))
local macro_rules | `(tactic| walk_at "bn1") => `(tactic| first
  | with_reducible assumption
  | ((with_reducible apply My.Bn.gd); (focus (with_reducible assumption)); walk_at "bn2"))
local macro_rules | `(tactic| walk_at "bnda") => `(tactic| first
  | walk_at "bns"
  | with_reducible exact My.BnA.nil
  | ((with_reducible apply My.BnA.append); (focus (walk_at "bnda")); walk_at "bnda")
  | ((with_reducible apply My.BnA.cut); walk_at "bnda")
  | ((apply My.BnA.cons); (focus (walk_at "bnd")); walk_at "bnda"))
local macro_rules | `(tactic| walk_at "bnd") => `(tactic| first
  | with_reducible exact My.Bn.non
  | with_reducible exact My.Bn.bl _
  | with_reducible exact My.Bn.str _
  | ((with_reducible apply My.Bn.int); (focus (walk_at "bitsK")))
  | walk_at "bn1"
  | ((with_reducible apply My.Bn.tup); (focus (walk_at "sq")); (focus (walk_at "bnda")))
  | ((with_reducible apply My.Bn.lst); (focus (walk_at "nin")); (focus (walk_at "ls")); (focus (walk_at "bnda"))))
local macro_rules | `(tactic| walk_at "ox") => `(tactic| first
  | exact Or.inl (by walk_at "bnd")
  | exact Or.inr ⟨_, _, rfl, by walk_at "nin", by walk_at "tp"⟩)
local macro_rules | `(tactic| walk_at "dx") => `(tactic| first
  | with_reducible assumption
  | exact My.Dx.int _
  | exact My.Dx.bl _
  | exact My.Dx.non
  | exact My.Dx.str _
  | ((with_reducible apply My.Dx.same); (focus (with_reducible assumption)); walk_at "dx")
  | exact My.Dn.dx (by walk_at "dn"))
local macro_rules | `(tactic| walk_at "dx") => `(tactic| first
  | with_reducible assumption
  | exact My.Dx.int _
  | exact My.Dx.bl _
  | exact My.Dx.non
  | exact My.Dx.str _
  | ((with_reducible apply My.Dx.same); (focus (with_reducible assumption)); walk_at "dx")
  | ((with_reducible apply My.Dx.fr); (focus (with_reducible assumption)); (focus (walk_at "st")); (focus (simp; done)); walk_at "dx")
  | exact My.vD_dx (by walk_at "vc")
  | exact My.Dn.dx (by walk_at "dn"))
namespace My
open PySem L2
structure Ecl where
  c_SpaceError : Addr
  c_TextFault : Addr
  c_RunFault : Addr
  c_BadRow : Addr
  c_ZeroDenominator : Addr
  c_NoNormal : Addr
  c_InLine : Addr
  c_Flat : Addr
  c_BadPolygon : Addr
  c_Singular : Addr
  c_NoDirection : Addr
  c_BadPath : Addr
  c_TooLarge : Addr
  c_BadOrder : Addr
  c_Unbounded : Addr
  c_NoParting : Addr
  c_NothingToUndo : Addr
structure EF (K : PySem.W.Frag) (mg : Str → Option Value) (c : Ecl) : Prop where
  g_SpaceError : mg "SpaceError" = some (.ref c.c_SpaceError)
  g_TextFault : mg "TextFault" = some (.ref c.c_TextFault)
  g_RunFault : mg "RunFault" = some (.ref c.c_RunFault)
  g_BadRow : mg "BadRow" = some (.ref c.c_BadRow)
  g_ZeroDenominator : mg "ZeroDenominator" = some (.ref c.c_ZeroDenominator)
  g_NoNormal : mg "NoNormal" = some (.ref c.c_NoNormal)
  g_InLine : mg "InLine" = some (.ref c.c_InLine)
  g_Flat : mg "Flat" = some (.ref c.c_Flat)
  g_BadPolygon : mg "BadPolygon" = some (.ref c.c_BadPolygon)
  g_Singular : mg "Singular" = some (.ref c.c_Singular)
  g_NoDirection : mg "NoDirection" = some (.ref c.c_NoDirection)
  g_BadPath : mg "BadPath" = some (.ref c.c_BadPath)
  g_TooLarge : mg "TooLarge" = some (.ref c.c_TooLarge)
  g_BadOrder : mg "BadOrder" = some (.ref c.c_BadOrder)
  g_Unbounded : mg "Unbounded" = some (.ref c.c_Unbounded)
  g_NoParting : mg "NoParting" = some (.ref c.c_NoParting)
  g_NothingToUndo : mg "NothingToUndo" = some (.ref c.c_NothingToUndo)
  k_Singular : PySem.W.keepIn K (.ref c.c_Singular) = true
  e_Singular : PySem.W.excIn K c.c_Singular [.type "ValueError", .type "Exception", .type "BaseException", .type "object"] "ValueError.__new__" = true
  b_Singular : PySem.W.subIn K (.ref c.c_Singular) (.type "BaseException") = some true
  t_Singular : PySem.W.typeIn K (.ref c.c_Singular) = some (.type "type")
  x_Singular : ExcC K c.c_Singular
  m_Singular_SpaceError : PySem.W.exmOne K (.ref c.c_Singular) (.ref c.c_SpaceError) = some true
  i_Singular_SpaceError : PySem.W.kitOne K (.ref c.c_Singular) (.ref c.c_SpaceError) = some true
  i_Singular_TextFault : PySem.W.kitOne K (.ref c.c_Singular) (.ref c.c_TextFault) = some false
  i_Singular_RunFault : PySem.W.kitOne K (.ref c.c_Singular) (.ref c.c_RunFault) = some false
  i_Singular_BadRow : PySem.W.kitOne K (.ref c.c_Singular) (.ref c.c_BadRow) = some false
  i_Singular_ZeroDenominator : PySem.W.kitOne K (.ref c.c_Singular) (.ref c.c_ZeroDenominator) = some false
  i_Singular_NoNormal : PySem.W.kitOne K (.ref c.c_Singular) (.ref c.c_NoNormal) = some false
  i_Singular_InLine : PySem.W.kitOne K (.ref c.c_Singular) (.ref c.c_InLine) = some false
  i_Singular_Flat : PySem.W.kitOne K (.ref c.c_Singular) (.ref c.c_Flat) = some false
  i_Singular_BadPolygon : PySem.W.kitOne K (.ref c.c_Singular) (.ref c.c_BadPolygon) = some false
  i_Singular_Singular : PySem.W.kitOne K (.ref c.c_Singular) (.ref c.c_Singular) = some true
  i_Singular_NoDirection : PySem.W.kitOne K (.ref c.c_Singular) (.ref c.c_NoDirection) = some false
  i_Singular_BadPath : PySem.W.kitOne K (.ref c.c_Singular) (.ref c.c_BadPath) = some false
  i_Singular_TooLarge : PySem.W.kitOne K (.ref c.c_Singular) (.ref c.c_TooLarge) = some false
  i_Singular_BadOrder : PySem.W.kitOne K (.ref c.c_Singular) (.ref c.c_BadOrder) = some false
  i_Singular_Unbounded : PySem.W.kitOne K (.ref c.c_Singular) (.ref c.c_Unbounded) = some false
  i_Singular_NoParting : PySem.W.kitOne K (.ref c.c_Singular) (.ref c.c_NoParting) = some false
  i_Singular_NothingToUndo : PySem.W.kitOne K (.ref c.c_Singular) (.ref c.c_NothingToUndo) = some false
  v_Singular : PySem.W.kitOne K (.ref c.c_Singular) (.type "ValueError") = some true
  ve : mg "ValueError" = none
def top (i : Nat) : Stmt := PySem.Challenge.pw_everypoint_k15_made_moves.main.body.getD i (.Pass ⟨0, 0, 0, 0⟩)
def sp_is_integer (K : PySem.W.Frag) : Sp := fun vs H Q _ => ∃ (v : V) (d : PyData), vs = [v] ∧ (Dp K H v d) ∧
  (∀ H' b, Same H H' → (b = true ↔ ∃ i, d = .int i) → Q (.bl b) H')
theorem u_is_integer {K : PySem.W.Frag} {H : Hp} {Q : VK} {E : XK} {v : V} {d : PyData} (h0 : Dp K H v d)
  (k : ∀ H' b, Same H H' → (b = true ↔ ∃ i, d = .int i) → Q (.bl b) H') : sp_is_integer K [v] H Q E := ⟨v, d, rfl, h0, k⟩
local macro_rules | `(tactic| walk_at "u") => `(tactic| ((with_reducible apply u_is_integer); walk_at "dp"; intros))
def sp_ratio (K : PySem.W.Frag) : Sp := fun vs H Q _ => ∃ (t b : Int), vs = [.int t, .int b] ∧ (b ≠ 0) ∧ (B 8990 b) ∧
  (∀ H' p, Same H H' → SqT K H' p [.int ((t : Rat) / b).num, .int (((t : Rat) / b).den : Int)] → Q (.ref p) H')
theorem u_ratio {K : PySem.W.Frag} {H : Hp} {Q : VK} {E : XK} {t b : Int} (h0 : b ≠ 0) (h1 : B 8990 b)
  (k : ∀ H' p, Same H H' → SqT K H' p [.int ((t : Rat) / b).num, .int (((t : Rat) / b).den : Int)] → Q (.ref p) H') : sp_ratio K [.int t, .int b] H Q E := ⟨t, b, rfl, h0, h1, k⟩
local macro_rules | `(tactic| walk_at "u") => `(tactic| ((with_reducible apply u_ratio); (first | assumption | omega); walk_at "bitsK"; intros))
def sp_is_ratio (K : PySem.W.Frag) : Sp := fun vs H Q _ => ∃ (v : V) (d : PyData), vs = [v] ∧ (Dp K H v d) ∧
  (∀ H' b, Same H H' → (b = true ↔ IsR d) → Q (.bl b) H')
theorem u_is_ratio {K : PySem.W.Frag} {H : Hp} {Q : VK} {E : XK} {v : V} {d : PyData} (h0 : Dp K H v d)
  (k : ∀ H' b, Same H H' → (b = true ↔ IsR d) → Q (.bl b) H') : sp_is_ratio K [v] H Q E := ⟨v, d, rfl, h0, k⟩
local macro_rules | `(tactic| walk_at "u") => `(tactic| ((with_reducible apply u_is_ratio); walk_at "dp"; intros))
def sp_as_ratio (K : PySem.W.Frag) : Sp := fun vs H Q _ => ∃ (v : V) (q : Rat), vs = [v] ∧ (RvQ K H v q) ∧
  (∀ H' p, Same H H' → SqT K H' p [.int q.num, .int (q.den : Int)] → Q (.ref p) H')
theorem u_as_ratio {K : PySem.W.Frag} {H : Hp} {Q : VK} {E : XK} {v : V} {q : Rat} (h0 : RvQ K H v q)
  (k : ∀ H' p, Same H H' → SqT K H' p [.int q.num, .int (q.den : Int)] → Q (.ref p) H') : sp_as_ratio K [v] H Q E := ⟨v, q, rfl, h0, k⟩
local macro_rules | `(tactic| walk_at "u") => `(tactic| ((with_reducible apply u_as_ratio); (first | exact Or.inl ⟨_, rfl, rfl⟩ | exact Or.inr ⟨_, rfl, by first | (walk_at "sq") | (apply My.SqT.ofNeg; (focus (walk_at "sq")))⟩); intros))
def sp_add (K : PySem.W.Frag) : Sp := fun vs H Q _ => ∃ (x y : Addr) (p q : Rat) (n1 d1 n2 d2 : Nat), vs = [.ref x, .ref y] ∧ (SqT K H x [.int p.num, .int (p.den : Int)]) ∧ (SqT K H y [.int q.num, .int (q.den : Int)]) ∧ (BN n1 d1 p) ∧ (BN n2 d2 q) ∧ (d1 + d2 ≤ 8990) ∧ (n1 + n2 + d1 + d2 ≤ 400000) ∧
  (∀ H' r, Same H H' → SqT K H' r [.int (p + q).num, .int ((p + q).den : Int)] → Q (.ref r) H')
theorem u_add {K : PySem.W.Frag} {H : Hp} {Q : VK} {E : XK} {x y : Addr} {p q : Rat} {n1 d1 n2 d2 : Nat} (h0 : SqT K H x [.int p.num, .int (p.den : Int)]) (h1 : SqT K H y [.int q.num, .int (q.den : Int)]) (h2 : BN n1 d1 p) (h3 : BN n2 d2 q) (h4 : d1 + d2 ≤ 8990) (h5 : n1 + n2 + d1 + d2 ≤ 400000)
  (k : ∀ H' r, Same H H' → SqT K H' r [.int (p + q).num, .int ((p + q).den : Int)] → Q (.ref r) H') : sp_add K [.ref x, .ref y] H Q E := ⟨x, y, p, q, n1, d1, n2, d2, rfl, h0, h1, h2, h3, h4, h5, k⟩
local macro_rules | `(tactic| walk_at "u") => `(tactic| ((with_reducible apply u_add); walk_at "sqI"; walk_at "sqI"; walk_at "bn"; walk_at "bn"; (first | assumption | decide | omega); (first | assumption | decide | omega); intros))
def sp_subtract (K : PySem.W.Frag) : Sp := fun vs H Q _ => ∃ (x y : Addr) (p q : Rat) (n1 d1 n2 d2 : Nat), vs = [.ref x, .ref y] ∧ (SqT K H x [.int p.num, .int (p.den : Int)]) ∧ (SqT K H y [.int q.num, .int (q.den : Int)]) ∧ (BN n1 d1 p) ∧ (BN n2 d2 q) ∧ (d1 + d2 ≤ 8990) ∧ (n1 + n2 + d1 + d2 ≤ 400000) ∧
  (∀ H' r, Same H H' → SqT K H' r [.int (p - q).num, .int ((p - q).den : Int)] → Q (.ref r) H')
theorem u_subtract {K : PySem.W.Frag} {H : Hp} {Q : VK} {E : XK} {x y : Addr} {p q : Rat} {n1 d1 n2 d2 : Nat} (h0 : SqT K H x [.int p.num, .int (p.den : Int)]) (h1 : SqT K H y [.int q.num, .int (q.den : Int)]) (h2 : BN n1 d1 p) (h3 : BN n2 d2 q) (h4 : d1 + d2 ≤ 8990) (h5 : n1 + n2 + d1 + d2 ≤ 400000)
  (k : ∀ H' r, Same H H' → SqT K H' r [.int (p - q).num, .int ((p - q).den : Int)] → Q (.ref r) H') : sp_subtract K [.ref x, .ref y] H Q E := ⟨x, y, p, q, n1, d1, n2, d2, rfl, h0, h1, h2, h3, h4, h5, k⟩
local macro_rules | `(tactic| walk_at "u") => `(tactic| ((with_reducible apply u_subtract); walk_at "sqI"; walk_at "sqI"; walk_at "bn"; walk_at "bn"; (first | assumption | decide | omega); (first | assumption | decide | omega); intros))
def sp_multiply (K : PySem.W.Frag) : Sp := fun vs H Q _ => ∃ (x y : Addr) (p q : Rat) (n1 d1 n2 d2 : Nat), vs = [.ref x, .ref y] ∧ (SqT K H x [.int p.num, .int (p.den : Int)]) ∧ (SqT K H y [.int q.num, .int (q.den : Int)]) ∧ (BN n1 d1 p) ∧ (BN n2 d2 q) ∧ (d1 + d2 ≤ 8990) ∧ (n1 + n2 + d1 + d2 ≤ 400000) ∧
  (∀ H' r, Same H H' → SqT K H' r [.int (p * q).num, .int ((p * q).den : Int)] → Q (.ref r) H')
theorem u_multiply {K : PySem.W.Frag} {H : Hp} {Q : VK} {E : XK} {x y : Addr} {p q : Rat} {n1 d1 n2 d2 : Nat} (h0 : SqT K H x [.int p.num, .int (p.den : Int)]) (h1 : SqT K H y [.int q.num, .int (q.den : Int)]) (h2 : BN n1 d1 p) (h3 : BN n2 d2 q) (h4 : d1 + d2 ≤ 8990) (h5 : n1 + n2 + d1 + d2 ≤ 400000)
  (k : ∀ H' r, Same H H' → SqT K H' r [.int (p * q).num, .int ((p * q).den : Int)] → Q (.ref r) H') : sp_multiply K [.ref x, .ref y] H Q E := ⟨x, y, p, q, n1, d1, n2, d2, rfl, h0, h1, h2, h3, h4, h5, k⟩
local macro_rules | `(tactic| walk_at "u") => `(tactic| ((with_reducible apply u_multiply); walk_at "sqI"; walk_at "sqI"; walk_at "bn"; walk_at "bn"; (first | assumption | decide | omega); (first | assumption | decide | omega); intros))
def sp_integer_sign (K : PySem.W.Frag) : Sp := fun vs H Q _ => ∃ (x : Int), vs = [.int x] ∧
  (∀ H' r, Same H H' → (x > 0 → r = 1) → (x < 0 → r = -1) → (x = 0 → r = 0) → Q (.int r) H')
theorem u_integer_sign {K : PySem.W.Frag} {H : Hp} {Q : VK} {E : XK} {x : Int} 
  (k : ∀ H' r, Same H H' → (x > 0 → r = 1) → (x < 0 → r = -1) → (x = 0 → r = 0) → Q (.int r) H') : sp_integer_sign K [.int x] H Q E := ⟨x, rfl, k⟩
local macro_rules | `(tactic| walk_at "u") => `(tactic| ((with_reducible apply u_integer_sign); intros))
def sp_sign (K : PySem.W.Frag) : Sp := fun vs H Q _ => ∃ (x : Addr) (x0 x1 : Int), vs = [.ref x] ∧ (SqT K H x [.int x0, .int x1]) ∧
  (∀ H' r, Same H H' → (x0 > 0 → r = 1) → (x0 < 0 → r = -1) → (x0 = 0 → r = 0) → Q (.int r) H')
theorem u_sign {K : PySem.W.Frag} {H : Hp} {Q : VK} {E : XK} {x : Addr} {x0 x1 : Int} (h0 : SqT K H x [.int x0, .int x1])
  (k : ∀ H' r, Same H H' → (x0 > 0 → r = 1) → (x0 < 0 → r = -1) → (x0 = 0 → r = 0) → Q (.int r) H') : sp_sign K [.ref x] H Q E := ⟨x, x0, x1, rfl, h0, k⟩
local macro_rules | `(tactic| walk_at "u") => `(tactic| ((with_reducible apply u_sign); walk_at "sq"; intros))
def sp_vector (K : PySem.W.Frag) : Sp := fun vs H Q _ => ∃ (a b c : V) (p : V3), vs = [a, b, c] ∧ (RvQ K H a p.x) ∧ (RvQ K H b p.y) ∧ (RvQ K H c p.z) ∧
  (∀ H' r, Same H H' → Vc K H' r p → Q (.ref r) H')
theorem u_vector {K : PySem.W.Frag} {H : Hp} {Q : VK} {E : XK} {a b c : V} {p : V3} (h0 : RvQ K H a p.x) (h1 : RvQ K H b p.y) (h2 : RvQ K H c p.z)
  (k : ∀ H' r, Same H H' → Vc K H' r p → Q (.ref r) H') : sp_vector K [a, b, c] H Q E := ⟨a, b, c, p, rfl, h0, h1, h2, k⟩
local macro_rules | `(tactic| walk_at "u") => `(tactic| ((with_reducible apply u_vector); (first | exact Or.inl ⟨_, rfl, rfl⟩ | exact Or.inr ⟨_, rfl, by first | (walk_at "sq") | (apply My.SqT.ofNeg; (focus (walk_at "sq")))⟩); (first | exact Or.inl ⟨_, rfl, rfl⟩ | exact Or.inr ⟨_, rfl, by first | (walk_at "sq") | (apply My.SqT.ofNeg; (focus (walk_at "sq")))⟩); (first | exact Or.inl ⟨_, rfl, rfl⟩ | exact Or.inr ⟨_, rfl, by first | (walk_at "sq") | (apply My.SqT.ofNeg; (focus (walk_at "sq")))⟩); intros))
def sp_is_vector (K : PySem.W.Frag) : Sp := fun vs H Q _ => ∃ (v : V) (d : PyData), vs = [v] ∧ (Dp K H v d) ∧
  (∀ H' b, Same H H' → (b = true ↔ IsV d) → Q (.bl b) H')
theorem u_is_vector {K : PySem.W.Frag} {H : Hp} {Q : VK} {E : XK} {v : V} {d : PyData} (h0 : Dp K H v d)
  (k : ∀ H' b, Same H H' → (b = true ↔ IsV d) → Q (.bl b) H') : sp_is_vector K [v] H Q E := ⟨v, d, rfl, h0, k⟩
local macro_rules | `(tactic| walk_at "u") => `(tactic| ((with_reducible apply u_is_vector); walk_at "dp"; intros))
def sp_plus (K : PySem.W.Frag) : Sp := fun vs H Q _ => ∃ (u v : Addr) (p q : V3) (n1 d1 n2 d2 : Nat), vs = [.ref u, .ref v] ∧ (Vc K H u p) ∧ (Vc K H v q) ∧ (VN n1 d1 p) ∧ (VN n2 d2 q) ∧ (d1 + d2 ≤ 8990) ∧ (n1 + n2 + d1 + d2 ≤ 400000) ∧
  (∀ H' r, Same H H' → Vc K H' r (va p q) → Q (.ref r) H')
theorem u_plus {K : PySem.W.Frag} {H : Hp} {Q : VK} {E : XK} {u v : Addr} {p q : V3} {n1 d1 n2 d2 : Nat} (h0 : Vc K H u p) (h1 : Vc K H v q) (h2 : VN n1 d1 p) (h3 : VN n2 d2 q) (h4 : d1 + d2 ≤ 8990) (h5 : n1 + n2 + d1 + d2 ≤ 400000)
  (k : ∀ H' r, Same H H' → Vc K H' r (va p q) → Q (.ref r) H') : sp_plus K [.ref u, .ref v] H Q E := ⟨u, v, p, q, n1, d1, n2, d2, rfl, h0, h1, h2, h3, h4, h5, k⟩
local macro_rules | `(tactic| walk_at "u") => `(tactic| ((with_reducible apply u_plus); walk_at "vc"; walk_at "vc"; walk_at "vn"; walk_at "vn"; (first | assumption | decide | omega); (first | assumption | decide | omega); intros))
def sp_scaled (K : PySem.W.Frag) : Sp := fun vs H Q _ => ∃ (t v : Addr) (x : Rat) (q : V3) (n1 d1 n2 d2 : Nat), vs = [.ref t, .ref v] ∧ (SqT K H t [.int x.num, .int (x.den : Int)]) ∧ (Vc K H v q) ∧ (BN n1 d1 x) ∧ (VN n2 d2 q) ∧ (d1 + d2 ≤ 8990) ∧ (n1 + n2 + d1 + d2 ≤ 400000) ∧
  (∀ H' r, Same H H' → Vc K H' r (sc x q) → Q (.ref r) H')
theorem u_scaled {K : PySem.W.Frag} {H : Hp} {Q : VK} {E : XK} {t v : Addr} {x : Rat} {q : V3} {n1 d1 n2 d2 : Nat} (h0 : SqT K H t [.int x.num, .int (x.den : Int)]) (h1 : Vc K H v q) (h2 : BN n1 d1 x) (h3 : VN n2 d2 q) (h4 : d1 + d2 ≤ 8990) (h5 : n1 + n2 + d1 + d2 ≤ 400000)
  (k : ∀ H' r, Same H H' → Vc K H' r (sc x q) → Q (.ref r) H') : sp_scaled K [.ref t, .ref v] H Q E := ⟨t, v, x, q, n1, d1, n2, d2, rfl, h0, h1, h2, h3, h4, h5, k⟩
local macro_rules | `(tactic| walk_at "u") => `(tactic| ((with_reducible apply u_scaled); walk_at "sqI"; walk_at "vc"; walk_at "bn"; walk_at "vn"; (first | assumption | decide | omega); (first | assumption | decide | omega); intros))
def sp_dot (K : PySem.W.Frag) : Sp := fun vs H Q _ => ∃ (u v : Addr) (p q : V3) (n1 d1 n2 d2 : Nat), vs = [.ref u, .ref v] ∧ (Vc K H u p) ∧ (Vc K H v q) ∧ (VN n1 d1 p) ∧ (VN n2 d2 q) ∧ (3 * (d1 + d2) ≤ 8990) ∧ (3 * (n1 + n2) + 5 * (d1 + d2) ≤ 300000) ∧
  (∀ H' r, Same H H' → SqT K H' r [.int (dt p q).num, .int ((dt p q).den : Int)] → Q (.ref r) H')
theorem u_dot {K : PySem.W.Frag} {H : Hp} {Q : VK} {E : XK} {u v : Addr} {p q : V3} {n1 d1 n2 d2 : Nat} (h0 : Vc K H u p) (h1 : Vc K H v q) (h2 : VN n1 d1 p) (h3 : VN n2 d2 q) (h4 : 3 * (d1 + d2) ≤ 8990) (h5 : 3 * (n1 + n2) + 5 * (d1 + d2) ≤ 300000)
  (k : ∀ H' r, Same H H' → SqT K H' r [.int (dt p q).num, .int ((dt p q).den : Int)] → Q (.ref r) H') : sp_dot K [.ref u, .ref v] H Q E := ⟨u, v, p, q, n1, d1, n2, d2, rfl, h0, h1, h2, h3, h4, h5, k⟩
local macro_rules | `(tactic| walk_at "u") => `(tactic| ((with_reducible apply u_dot); walk_at "vc"; walk_at "vc"; walk_at "vn"; walk_at "vn"; (first | assumption | decide | omega); (first | assumption | decide | omega); intros))
def sp_cross (K : PySem.W.Frag) : Sp := fun vs H Q _ => ∃ (u v : Addr) (p q : V3) (n1 d1 n2 d2 : Nat), vs = [.ref u, .ref v] ∧ (Vc K H u p) ∧ (Vc K H v q) ∧ (VN n1 d1 p) ∧ (VN n2 d2 q) ∧ (2 * (d1 + d2) ≤ 8990) ∧ (2 * (n1 + n2) + 2 * (d1 + d2) ≤ 300000) ∧
  (∀ H' r, Same H H' → Vc K H' r (cr p q) → Q (.ref r) H')
theorem u_cross {K : PySem.W.Frag} {H : Hp} {Q : VK} {E : XK} {u v : Addr} {p q : V3} {n1 d1 n2 d2 : Nat} (h0 : Vc K H u p) (h1 : Vc K H v q) (h2 : VN n1 d1 p) (h3 : VN n2 d2 q) (h4 : 2 * (d1 + d2) ≤ 8990) (h5 : 2 * (n1 + n2) + 2 * (d1 + d2) ≤ 300000)
  (k : ∀ H' r, Same H H' → Vc K H' r (cr p q) → Q (.ref r) H') : sp_cross K [.ref u, .ref v] H Q E := ⟨u, v, p, q, n1, d1, n2, d2, rfl, h0, h1, h2, h3, h4, h5, k⟩
local macro_rules | `(tactic| walk_at "u") => `(tactic| ((with_reducible apply u_cross); walk_at "vc"; walk_at "vc"; walk_at "vn"; walk_at "vn"; (first | assumption | decide | omega); (first | assumption | decide | omega); intros))
def sp_triple (K : PySem.W.Frag) : Sp := fun vs H Q _ => ∃ (u v w' : Addr) (p q r : V3) (n1 d1 : Nat), vs = [.ref u, .ref v, .ref w'] ∧ (Vc K H u p) ∧ (Vc K H v q) ∧ (Vc K H w' r) ∧ (VN n1 d1 p) ∧ (VN n1 d1 q) ∧ (VN n1 d1 r) ∧ (15 * d1 ≤ 8990) ∧ (n1 + d1 ≤ 5000) ∧
  (∀ H' r', Same H H' → SqT K H' r' [.int (dt p (cr q r)).num, .int ((dt p (cr q r)).den : Int)] → Q (.ref r') H')
theorem u_triple {K : PySem.W.Frag} {H : Hp} {Q : VK} {E : XK} {u v w' : Addr} {p q r : V3} {n1 d1 : Nat} (h0 : Vc K H u p) (h1 : Vc K H v q) (h2 : Vc K H w' r) (h3 : VN n1 d1 p) (h4 : VN n1 d1 q) (h5 : VN n1 d1 r) (h6 : 15 * d1 ≤ 8990) (h7 : n1 + d1 ≤ 5000)
  (k : ∀ H' r', Same H H' → SqT K H' r' [.int (dt p (cr q r)).num, .int ((dt p (cr q r)).den : Int)] → Q (.ref r') H') : sp_triple K [.ref u, .ref v, .ref w'] H Q E := ⟨u, v, w', p, q, r, n1, d1, rfl, h0, h1, h2, h3, h4, h5, h6, h7, k⟩
local macro_rules | `(tactic| walk_at "u") => `(tactic| ((with_reducible apply u_triple); walk_at "vc"; walk_at "vc"; walk_at "vc"; walk_at "vn"; walk_at "vn"; walk_at "vn"; (first | assumption | decide | omega); (first | assumption | decide | omega); intros))
def sp_axis_vector (K : PySem.W.Frag) : Sp := fun vs H Q _ => ∃ (a : Int), vs = [.int a] ∧ (0 ≤ a) ∧ (a ≤ 2) ∧
  (∀ H' r, Same H H' → Vc K H' r (ax a) → Q (.ref r) H')
theorem u_axis_vector {K : PySem.W.Frag} {H : Hp} {Q : VK} {E : XK} {a : Int} (h0 : 0 ≤ a) (h1 : a ≤ 2)
  (k : ∀ H' r, Same H H' → Vc K H' r (ax a) → Q (.ref r) H') : sp_axis_vector K [.int a] H Q E := ⟨a, rfl, h0, h1, k⟩
local macro_rules | `(tactic| walk_at "u") => `(tactic| ((with_reducible apply u_axis_vector); (first | assumption | decide | omega); (first | assumption | decide | omega); intros))
def sp_make_move (K : PySem.W.Frag) : Sp := fun vs H Q _ => ∃ (u v f' g h : Addr) (A : M3) (n1 d1 : Nat), vs = [.ref u, .ref v] ∧ ((SqT K H u [.ref f', .ref g, .ref h] ∨ SqL K H u [.ref f', .ref g, .ref h])) ∧ (RowV K H f' A.a) ∧ (RowV K H g A.b) ∧ (RowV K H h A.c) ∧ (RowV K H v A.s) ∧ (MN n1 d1 A) ∧ (15 * d1 ≤ 8990) ∧ (n1 + d1 ≤ 5000) ∧ (det3 A ≠ 0) ∧
  (∀ H' m, Same H H' → Mv K H' m A → Q (.ref m) H')
theorem u_make_move {K : PySem.W.Frag} {H : Hp} {Q : VK} {E : XK} {u v f' g h : Addr} {A : M3} {n1 d1 : Nat} (h0 : (SqT K H u [.ref f', .ref g, .ref h] ∨ SqL K H u [.ref f', .ref g, .ref h])) (h1 : RowV K H f' A.a) (h2 : RowV K H g A.b) (h3 : RowV K H h A.c) (h4 : RowV K H v A.s) (h5 : MN n1 d1 A) (h6 : 15 * d1 ≤ 8990) (h7 : n1 + d1 ≤ 5000) (h8 : det3 A ≠ 0)
  (k : ∀ H' m, Same H H' → Mv K H' m A → Q (.ref m) H') : sp_make_move K [.ref u, .ref v] H Q E := ⟨u, v, f', g, h, A, n1, d1, rfl, h0, h1, h2, h3, h4, h5, h6, h7, h8, k⟩
local macro_rules | `(tactic| walk_at "u") => `(tactic| ((with_reducible apply u_make_move); assumption; assumption; assumption; assumption; assumption; assumption; assumption; assumption; assumption; intros))
def sp_make_move_X (K : PySem.W.Frag) (ec : Ecl) : Sp := fun vs H Q E => ∃ (u v f' g h : Addr) (A : M3) (n1 d1 : Nat), vs = [.ref u, .ref v] ∧ ((SqT K H u [.ref f', .ref g, .ref h] ∨ SqL K H u [.ref f', .ref g, .ref h])) ∧ (RowV K H f' A.a) ∧ (RowV K H g A.b) ∧ (RowV K H h A.c) ∧ (RowV K H v A.s) ∧ (MN n1 d1 A) ∧ (15 * d1 ≤ 8990) ∧ (n1 + d1 ≤ 5000) ∧ (det3 A = 0) ∧
  (∀ H', Same H H' → E (.ref ec.c_Singular) none H')
theorem u_make_move_X {K : PySem.W.Frag} {ec : Ecl} {H : Hp} {Q : VK} {E : XK} {u v f' g h : Addr} {A : M3} {n1 d1 : Nat} (h0 : (SqT K H u [.ref f', .ref g, .ref h] ∨ SqL K H u [.ref f', .ref g, .ref h])) (h1 : RowV K H f' A.a) (h2 : RowV K H g A.b) (h3 : RowV K H h A.c) (h4 : RowV K H v A.s) (h5 : MN n1 d1 A) (h6 : 15 * d1 ≤ 8990) (h7 : n1 + d1 ≤ 5000) (h8 : det3 A = 0)
  (k : ∀ H', Same H H' → E (.ref ec.c_Singular) none H') : sp_make_move_X K ec [.ref u, .ref v] H Q E := ⟨u, v, f', g, h, A, n1, d1, rfl, h0, h1, h2, h3, h4, h5, h6, h7, h8, k⟩
local macro_rules | `(tactic| walk_at "u") => `(tactic| ((with_reducible apply u_make_move_X); assumption; assumption; assumption; assumption; assumption; assumption; assumption; assumption; assumption; intros))
def sp_is_move (K : PySem.W.Frag) : Sp := fun vs H Q _ => ∃ (v : V) (d : PyData), vs = [v] ∧ (Ob K H v d) ∧ (BdD 200 d) ∧
  (∀ H' b, Same H H' → (b = true ↔ IsM d) → Q (.bl b) H')
theorem u_is_move {K : PySem.W.Frag} {H : Hp} {Q : VK} {E : XK} {v : V} {d : PyData} (h0 : Ob K H v d) (h1 : BdD 200 d)
  (k : ∀ H' b, Same H H' → (b = true ↔ IsM d) → Q (.bl b) H') : sp_is_move K [v] H Q E := ⟨v, d, rfl, h0, h1, k⟩
local macro_rules | `(tactic| walk_at "u") => `(tactic| ((with_reducible apply u_is_move); walk_at "ob"; assumption; intros))
def sp_shift_by (K : PySem.W.Frag) : Sp := fun vs H Q _ => ∃ (v : Addr) (p : V3), vs = [.ref v] ∧ (Vc K H v p) ∧
  (∀ H' m, Same H H' → Mv K H' m ⟨e0, e1, e2, p⟩ → Q (.ref m) H')
theorem u_shift_by {K : PySem.W.Frag} {H : Hp} {Q : VK} {E : XK} {v : Addr} {p : V3} (h0 : Vc K H v p)
  (k : ∀ H' m, Same H H' → Mv K H' m ⟨e0, e1, e2, p⟩ → Q (.ref m) H') : sp_shift_by K [.ref v] H Q E := ⟨v, p, rfl, h0, k⟩
local macro_rules | `(tactic| walk_at "u") => `(tactic| ((with_reducible apply u_shift_by); walk_at "vc"; intros))
def sp_scale_by (K : PySem.W.Frag) : Sp := fun vs H Q _ => ∃ (v x y z : Addr) (p q r : Rat) (n1 d1 : Nat), vs = [.ref v] ∧ (SqT K H v [.ref x, .ref y, .ref z]) ∧ (SqT K H x [.int p.num, .int (p.den : Int)]) ∧ (SqT K H y [.int q.num, .int (q.den : Int)]) ∧ (SqT K H z [.int r.num, .int (r.den : Int)]) ∧ (BN n1 d1 p) ∧ (BN n1 d1 q) ∧ (BN n1 d1 r) ∧ (n1 + d1 ≤ 5000) ∧ (p ≠ 0) ∧ (q ≠ 0) ∧ (r ≠ 0) ∧
  (∀ H' m, Same H H' → Mv K H' m (dg p q r) → Q (.ref m) H')
theorem u_scale_by {K : PySem.W.Frag} {H : Hp} {Q : VK} {E : XK} {v x y z : Addr} {p q r : Rat} {n1 d1 : Nat} (h0 : SqT K H v [.ref x, .ref y, .ref z]) (h1 : SqT K H x [.int p.num, .int (p.den : Int)]) (h2 : SqT K H y [.int q.num, .int (q.den : Int)]) (h3 : SqT K H z [.int r.num, .int (r.den : Int)]) (h4 : BN n1 d1 p) (h5 : BN n1 d1 q) (h6 : BN n1 d1 r) (h7 : n1 + d1 ≤ 5000) (h8 : p ≠ 0) (h9 : q ≠ 0) (h10 : r ≠ 0)
  (k : ∀ H' m, Same H H' → Mv K H' m (dg p q r) → Q (.ref m) H') : sp_scale_by K [.ref v] H Q E := ⟨v, x, y, z, p, q, r, n1, d1, rfl, h0, h1, h2, h3, h4, h5, h6, h7, h8, h9, h10, k⟩
local macro_rules | `(tactic| walk_at "u") => `(tactic| ((with_reducible apply u_scale_by); walk_at "sq"; walk_at "sqI"; walk_at "sqI"; walk_at "sqI"; walk_at "bn"; walk_at "bn"; walk_at "bn"; (first | assumption | decide | omega); assumption; assumption; assumption; intros))
def sp_scale_by_X (K : PySem.W.Frag) (ec : Ecl) : Sp := fun vs H Q E => ∃ (v x y z : Addr) (p q r : Rat), vs = [.ref v] ∧ (SqT K H v [.ref x, .ref y, .ref z]) ∧ (SqT K H x [.int p.num, .int (p.den : Int)]) ∧ (SqT K H y [.int q.num, .int (q.den : Int)]) ∧ (SqT K H z [.int r.num, .int (r.den : Int)]) ∧ (p = 0 ∨ q = 0 ∨ r = 0) ∧
  (∀ H', Same H H' → E (.ref ec.c_Singular) none H')
theorem u_scale_by_X {K : PySem.W.Frag} {ec : Ecl} {H : Hp} {Q : VK} {E : XK} {v x y z : Addr} {p q r : Rat} (h0 : SqT K H v [.ref x, .ref y, .ref z]) (h1 : SqT K H x [.int p.num, .int (p.den : Int)]) (h2 : SqT K H y [.int q.num, .int (q.den : Int)]) (h3 : SqT K H z [.int r.num, .int (r.den : Int)]) (h4 : p = 0 ∨ q = 0 ∨ r = 0)
  (k : ∀ H', Same H H' → E (.ref ec.c_Singular) none H') : sp_scale_by_X K ec [.ref v] H Q E := ⟨v, x, y, z, p, q, r, rfl, h0, h1, h2, h3, h4, k⟩
local macro_rules | `(tactic| walk_at "u") => `(tactic| ((with_reducible apply u_scale_by_X); walk_at "sq"; walk_at "sqI"; walk_at "sqI"; walk_at "sqI"; assumption; intros))
def sp_mirror_axis (K : PySem.W.Frag) : Sp := fun vs H Q _ => ∃ (a : Int), vs = [.int a] ∧ (0 ≤ a) ∧ (a ≤ 2) ∧
  (∀ H' m, Same H H' → Mv K H' m (dg ((if a = 0 then -1 else 1 : Int) : Rat) ((if a = 1 then -1 else 1 : Int) : Rat) ((if a = 2 then -1 else 1 : Int) : Rat)) → Q (.ref m) H')
theorem u_mirror_axis {K : PySem.W.Frag} {H : Hp} {Q : VK} {E : XK} {a : Int} (h0 : 0 ≤ a) (h1 : a ≤ 2)
  (k : ∀ H' m, Same H H' → Mv K H' m (dg ((if a = 0 then -1 else 1 : Int) : Rat) ((if a = 1 then -1 else 1 : Int) : Rat) ((if a = 2 then -1 else 1 : Int) : Rat)) → Q (.ref m) H') : sp_mirror_axis K [.int a] H Q E := ⟨a, rfl, h0, h1, k⟩
local macro_rules | `(tactic| walk_at "u") => `(tactic| ((with_reducible apply u_mirror_axis); (first | assumption | decide | omega); (first | assumption | decide | omega); intros))
def sp_one_turn (K : PySem.W.Frag) : Sp := fun vs H Q _ => ∃ (a : Int), vs = [.int a] ∧ (0 ≤ a) ∧ (a ≤ 2) ∧
  (∀ H' m, Same H H' → Mv K H' m (tn a) → Q (.ref m) H')
theorem u_one_turn {K : PySem.W.Frag} {H : Hp} {Q : VK} {E : XK} {a : Int} (h0 : 0 ≤ a) (h1 : a ≤ 2)
  (k : ∀ H' m, Same H H' → Mv K H' m (tn a) → Q (.ref m) H') : sp_one_turn K [.int a] H Q E := ⟨a, rfl, h0, h1, k⟩
local macro_rules | `(tactic| walk_at "u") => `(tactic| ((with_reducible apply u_one_turn); (first | assumption | decide | omega); (first | assumption | decide | omega); intros))
def sp_quarter_turn (K : PySem.W.Frag) : Sp := fun vs H Q _ => ∃ (a m : Int), vs = [.int a, .int m] ∧ (0 ≤ a) ∧ (a ≤ 2) ∧ (0 ≤ m) ∧ (m ≤ 3) ∧
  (∀ H' r, Same H H' → Mv K H' r (tns a m.toNat) → Q (.ref r) H')
theorem u_quarter_turn {K : PySem.W.Frag} {H : Hp} {Q : VK} {E : XK} {a m : Int} (h0 : 0 ≤ a) (h1 : a ≤ 2) (h2 : 0 ≤ m) (h3 : m ≤ 3)
  (k : ∀ H' r, Same H H' → Mv K H' r (tns a m.toNat) → Q (.ref r) H') : sp_quarter_turn K [.int a, .int m] H Q E := ⟨a, m, rfl, h0, h1, h2, h3, k⟩
local macro_rules | `(tactic| walk_at "u") => `(tactic| ((with_reducible apply u_quarter_turn); (first | assumption | decide | omega); (first | assumption | decide | omega); (first | assumption | decide | omega); (first | assumption | decide | omega); intros))
def sp_moved_point (K : PySem.W.Frag) : Sp := fun vs H Q _ => ∃ (m v : Addr) (A : M3) (p : V3) (n1 d1 n2 d2 : Nat), vs = [.ref m, .ref v] ∧ (Mv K H m A) ∧ (Vc K H v p) ∧ (MN n1 d1 A) ∧ (VN n2 d2 p) ∧ (4 * d1 + 3 * d2 ≤ 8990) ∧ (4 * n1 + 3 * n2 + 9 * d1 + 8 * d2 ≤ 290000) ∧
  (∀ H' r, Same H H' → Vc K H' r (app A p) → Q (.ref r) H')
theorem u_moved_point {K : PySem.W.Frag} {H : Hp} {Q : VK} {E : XK} {m v : Addr} {A : M3} {p : V3} {n1 d1 n2 d2 : Nat} (h0 : Mv K H m A) (h1 : Vc K H v p) (h2 : MN n1 d1 A) (h3 : VN n2 d2 p) (h4 : 4 * d1 + 3 * d2 ≤ 8990) (h5 : 4 * n1 + 3 * n2 + 9 * d1 + 8 * d2 ≤ 290000)
  (k : ∀ H' r, Same H H' → Vc K H' r (app A p) → Q (.ref r) H') : sp_moved_point K [.ref m, .ref v] H Q E := ⟨m, v, A, p, n1, d1, n2, d2, rfl, h0, h1, h2, h3, h4, h5, k⟩
local macro_rules | `(tactic| walk_at "u") => `(tactic| ((with_reducible apply u_moved_point); walk_at "mv"; walk_at "vc"; walk_at "mn"; walk_at "vn"; (first | assumption | decide | omega); (first | assumption | decide | omega); intros))
def sp_moved_vector (K : PySem.W.Frag) : Sp := fun vs H Q _ => ∃ (m v : Addr) (A : M3) (p : V3) (n1 d1 n2 d2 : Nat), vs = [.ref m, .ref v] ∧ (Mv K H m A) ∧ (Vc K H v p) ∧ (MN n1 d1 A) ∧ (VN n2 d2 p) ∧ (3 * (d1 + d2) ≤ 8990) ∧ (3 * (n1 + n2) + 5 * (d1 + d2) ≤ 300000) ∧
  (∀ H' r, Same H H' → Vc K H' r (mvec A p) → Q (.ref r) H')
theorem u_moved_vector {K : PySem.W.Frag} {H : Hp} {Q : VK} {E : XK} {m v : Addr} {A : M3} {p : V3} {n1 d1 n2 d2 : Nat} (h0 : Mv K H m A) (h1 : Vc K H v p) (h2 : MN n1 d1 A) (h3 : VN n2 d2 p) (h4 : 3 * (d1 + d2) ≤ 8990) (h5 : 3 * (n1 + n2) + 5 * (d1 + d2) ≤ 300000)
  (k : ∀ H' r, Same H H' → Vc K H' r (mvec A p) → Q (.ref r) H') : sp_moved_vector K [.ref m, .ref v] H Q E := ⟨m, v, A, p, n1, d1, n2, d2, rfl, h0, h1, h2, h3, h4, h5, k⟩
local macro_rules | `(tactic| walk_at "u") => `(tactic| ((with_reducible apply u_moved_vector); walk_at "mv"; walk_at "vc"; walk_at "mn"; walk_at "vn"; (first | assumption | decide | omega); (first | assumption | decide | omega); intros))
def sp_combine (K : PySem.W.Frag) : Sp := fun vs H Q _ => ∃ (m n : Addr) (A C : M3) (n1 d1 n2 d2 : Nat), vs = [.ref m, .ref n] ∧ (Mv K H m A) ∧ (Mv K H n C) ∧ (MN n1 d1 A) ∧ (MN n2 d2 C) ∧ (n1 + n2 ≤ 20000) ∧ (3 * d1 + 4 * d2 ≤ 8000) ∧
  (∀ H' r, Same H H' → Mv K H' r (comb A C) → Q (.ref r) H')
theorem u_combine {K : PySem.W.Frag} {H : Hp} {Q : VK} {E : XK} {m n : Addr} {A C : M3} {n1 d1 n2 d2 : Nat} (h0 : Mv K H m A) (h1 : Mv K H n C) (h2 : MN n1 d1 A) (h3 : MN n2 d2 C) (h4 : n1 + n2 ≤ 20000) (h5 : 3 * d1 + 4 * d2 ≤ 8000)
  (k : ∀ H' r, Same H H' → Mv K H' r (comb A C) → Q (.ref r) H') : sp_combine K [.ref m, .ref n] H Q E := ⟨m, n, A, C, n1, d1, n2, d2, rfl, h0, h1, h2, h3, h4, h5, k⟩
local macro_rules | `(tactic| walk_at "u") => `(tactic| ((with_reducible apply u_combine); walk_at "mv"; walk_at "mv"; walk_at "mn"; walk_at "mn"; (first | assumption | decide | omega); (first | assumption | decide | omega); intros))
def sp_determinant (K : PySem.W.Frag) : Sp := fun vs H Q _ => ∃ (m : Addr) (A : M3) (n1 d1 : Nat), vs = [.ref m] ∧ (Mv K H m A) ∧ (MN n1 d1 A) ∧ (15 * d1 ≤ 8990) ∧ (n1 + d1 ≤ 5000) ∧
  (∀ H' r, Same H H' → SqT K H' r [.int (det3 A).num, .int ((det3 A).den : Int)] → Q (.ref r) H')
theorem u_determinant {K : PySem.W.Frag} {H : Hp} {Q : VK} {E : XK} {m : Addr} {A : M3} {n1 d1 : Nat} (h0 : Mv K H m A) (h1 : MN n1 d1 A) (h2 : 15 * d1 ≤ 8990) (h3 : n1 + d1 ≤ 5000)
  (k : ∀ H' r, Same H H' → SqT K H' r [.int (det3 A).num, .int ((det3 A).den : Int)] → Q (.ref r) H') : sp_determinant K [.ref m] H Q E := ⟨m, A, n1, d1, rfl, h0, h1, h2, h3, k⟩
local macro_rules | `(tactic| walk_at "u") => `(tactic| ((with_reducible apply u_determinant); walk_at "mv"; walk_at "mn"; (first | assumption | decide | omega); (first | assumption | decide | omega); intros))
def sp_mirrors (K : PySem.W.Frag) : Sp := fun vs H Q _ => ∃ (m : Addr) (A : M3) (n1 d1 : Nat), vs = [.ref m] ∧ (Mv K H m A) ∧ (MN n1 d1 A) ∧ (15 * d1 ≤ 8990) ∧ (n1 + d1 ≤ 5000) ∧
  (∀ H' b, Same H H' → (b = true ↔ det3 A < 0) → Q (.bl b) H')
theorem u_mirrors {K : PySem.W.Frag} {H : Hp} {Q : VK} {E : XK} {m : Addr} {A : M3} {n1 d1 : Nat} (h0 : Mv K H m A) (h1 : MN n1 d1 A) (h2 : 15 * d1 ≤ 8990) (h3 : n1 + d1 ≤ 5000)
  (k : ∀ H' b, Same H H' → (b = true ↔ det3 A < 0) → Q (.bl b) H') : sp_mirrors K [.ref m] H Q E := ⟨m, A, n1, d1, rfl, h0, h1, h2, h3, k⟩
local macro_rules | `(tactic| walk_at "u") => `(tactic| ((with_reducible apply u_mirrors); walk_at "mv"; walk_at "mn"; (first | assumption | decide | omega); (first | assumption | decide | omega); intros))
def sp__law_mix (K : PySem.W.Frag) : Sp := fun vs H Q _ => ∃ (x y : Int), vs = [.int x, .int y] ∧
  (∀ H' r, Same H H' → 0 ≤ r → r < 2305843009213693951 → Q (.int r) H')
theorem u__law_mix {K : PySem.W.Frag} {H : Hp} {Q : VK} {E : XK} {x y : Int} 
  (k : ∀ H' r, Same H H' → 0 ≤ r → r < 2305843009213693951 → Q (.int r) H') : sp__law_mix K [.int x, .int y] H Q E := ⟨x, y, rfl, k⟩
local macro_rules | `(tactic| walk_at "u") => `(tactic| ((with_reducible apply u__law_mix); intros))
def sp__law_store (K : PySem.W.Frag) : Sp := fun vs H Q _ => ∃ (a : Addr) (ns : List Int), vs = [.ref a] ∧ (SqL K H a (ns.map V.int)) ∧ (ns.length ≤ 63) ∧
  (∀ H' p, Same H H' → St K H' p → Q (.ref p) H')
theorem u__law_store {K : PySem.W.Frag} {H : Hp} {Q : VK} {E : XK} {a : Addr} {ns : List Int} (h0 : SqL K H a (ns.map V.int)) (h1 : ns.length ≤ 63)
  (k : ∀ H' p, Same H H' → St K H' p → Q (.ref p) H') : sp__law_store K [.ref a] H Q E := ⟨a, ns, rfl, h0, h1, k⟩
local macro_rules | `(tactic| walk_at "u") => `(tactic| ((with_reducible apply u__law_store); walk_at "sl"; (first | assumption | omega); intros))
def sp__law_take (K : PySem.W.Frag) : Sp := fun vs H Q _ => ∃ (st : Addr) (m : Int), vs = [.ref st, .int m] ∧ (St K H st) ∧ (m ≤ 1000000000000000000) ∧
  (∀ H' r, Fr st H H' → St K H' st → 0 ≤ r → r < max 1 m → Q (.int r) H')
theorem u__law_take {K : PySem.W.Frag} {H : Hp} {Q : VK} {E : XK} {st : Addr} {m : Int} (h0 : St K H st) (h1 : m ≤ 1000000000000000000)
  (k : ∀ H' r, Fr st H H' → St K H' st → 0 ≤ r → r < max 1 m → Q (.int r) H') : sp__law_take K [.ref st, .int m] H Q E := ⟨st, m, rfl, h0, h1, k⟩
local macro_rules | `(tactic| walk_at "u") => `(tactic| ((with_reducible apply u__law_take); walk_at "st"; (first | assumption | omega); intros))
def sp__law_pick (K : PySem.W.Frag) : Sp := fun vs H Q _ => ∃ (st l : Addr) (xs : List V), vs = [.ref st, .ref l] ∧ (St K H st) ∧ (SqL K H l xs) ∧ (0 < xs.length) ∧ (xs.length ≤ 1000) ∧ (notS xs = true) ∧
  (∀ H' (i : Nat) (v : V), Fr st H H' → St K H' st → xs[i]? = some v → Q v H')
theorem u__law_pick {K : PySem.W.Frag} {H : Hp} {Q : VK} {E : XK} {st l : Addr} {xs : List V} (h0 : St K H st) (h1 : SqL K H l xs) (h2 : 0 < xs.length) (h3 : xs.length ≤ 1000) (h4 : notS xs = true)
  (k : ∀ H' (i : Nat) (v : V), Fr st H H' → St K H' st → xs[i]? = some v → Q v H') : sp__law_pick K [.ref st, .ref l] H Q E := ⟨st, l, xs, rfl, h0, h1, h2, h3, h4, k⟩
local macro_rules | `(tactic| walk_at "u") => `(tactic| ((with_reducible apply u__law_pick); walk_at "st"; walk_at "sl"; (first | assumption | (focus (simp; done))); (first | assumption | (focus (simp; done))); (first | assumption | rfl); intros))
def sp__law_wide (K : PySem.W.Frag) : Sp := fun vs H Q _ => ∃ (st : Addr) (m : Int), vs = [.ref st, .int m] ∧ (St K H st) ∧ (0 ≤ m) ∧ (m ≤ 40) ∧
  (∀ H' r, Fr st H H' → St K H' st → 0 ≤ r → r < 10 ^ m.toNat → Q (.int r) H')
theorem u__law_wide {K : PySem.W.Frag} {H : Hp} {Q : VK} {E : XK} {st : Addr} {m : Int} (h0 : St K H st) (h1 : 0 ≤ m) (h2 : m ≤ 40)
  (k : ∀ H' r, Fr st H H' → St K H' st → 0 ≤ r → r < 10 ^ m.toNat → Q (.int r) H') : sp__law_wide K [.ref st, .int m] H Q E := ⟨st, m, rfl, h0, h1, h2, k⟩
local macro_rules | `(tactic| walk_at "u") => `(tactic| ((with_reducible apply u__law_wide); walk_at "st"; (first | assumption | omega); (first | assumption | omega); intros))
def sp__law_gcd (K : PySem.W.Frag) : Sp := fun vs H Q _ => ∃ (x y : Int), vs = [.int x, .int y] ∧
  (∀ H', Same H H' → Q (.int ((Nat.gcd x.natAbs y.natAbs : Nat) : Int)) H')
theorem u__law_gcd {K : PySem.W.Frag} {H : Hp} {Q : VK} {E : XK} {x y : Int} 
  (k : ∀ H', Same H H' → Q (.int ((Nat.gcd x.natAbs y.natAbs : Nat) : Int)) H') : sp__law_gcd K [.int x, .int y] H Q E := ⟨x, y, rfl, k⟩
local macro_rules | `(tactic| walk_at "u") => `(tactic| ((with_reducible apply u__law_gcd); intros))
def sp__law_frac (K : PySem.W.Frag) : Sp := fun vs H Q _ => ∃ (t b : Int), vs = [.int t, .int b] ∧ (b ≠ 0) ∧ (B 8990 b) ∧
  (∀ H' p, Same H H' → SqT K H' p [.int ((t : Rat) / b).num, .int (((t : Rat) / b).den : Int)] → Q (.ref p) H')
theorem u__law_frac {K : PySem.W.Frag} {H : Hp} {Q : VK} {E : XK} {t b : Int} (h0 : b ≠ 0) (h1 : B 8990 b)
  (k : ∀ H' p, Same H H' → SqT K H' p [.int ((t : Rat) / b).num, .int (((t : Rat) / b).den : Int)] → Q (.ref p) H') : sp__law_frac K [.int t, .int b] H Q E := ⟨t, b, rfl, h0, h1, k⟩
local macro_rules | `(tactic| walk_at "u") => `(tactic| ((with_reducible apply u__law_frac); (first | assumption | omega); walk_at "bitsK"; intros))
def sp__law_radd (K : PySem.W.Frag) : Sp := fun vs H Q _ => ∃ (x y : Addr) (p q : Rat) (n1 d1 n2 d2 : Nat), vs = [.ref x, .ref y] ∧ (SqT K H x [.int p.num, .int (p.den : Int)]) ∧ (SqT K H y [.int q.num, .int (q.den : Int)]) ∧ (BN n1 d1 p) ∧ (BN n2 d2 q) ∧ (d1 + d2 ≤ 8990) ∧ (n1 + n2 + d1 + d2 ≤ 400000) ∧
  (∀ H' r, Same H H' → SqT K H' r [.int (p + q).num, .int ((p + q).den : Int)] → Q (.ref r) H')
theorem u__law_radd {K : PySem.W.Frag} {H : Hp} {Q : VK} {E : XK} {x y : Addr} {p q : Rat} {n1 d1 n2 d2 : Nat} (h0 : SqT K H x [.int p.num, .int (p.den : Int)]) (h1 : SqT K H y [.int q.num, .int (q.den : Int)]) (h2 : BN n1 d1 p) (h3 : BN n2 d2 q) (h4 : d1 + d2 ≤ 8990) (h5 : n1 + n2 + d1 + d2 ≤ 400000)
  (k : ∀ H' r, Same H H' → SqT K H' r [.int (p + q).num, .int ((p + q).den : Int)] → Q (.ref r) H') : sp__law_radd K [.ref x, .ref y] H Q E := ⟨x, y, p, q, n1, d1, n2, d2, rfl, h0, h1, h2, h3, h4, h5, k⟩
local macro_rules | `(tactic| walk_at "u") => `(tactic| ((with_reducible apply u__law_radd); walk_at "sqI"; walk_at "sqI"; walk_at "bn"; walk_at "bn"; (first | assumption | decide | omega); (first | assumption | decide | omega); intros))
def sp__law_rsub (K : PySem.W.Frag) : Sp := fun vs H Q _ => ∃ (x y : Addr) (p q : Rat) (n1 d1 n2 d2 : Nat), vs = [.ref x, .ref y] ∧ (SqT K H x [.int p.num, .int (p.den : Int)]) ∧ (SqT K H y [.int q.num, .int (q.den : Int)]) ∧ (BN n1 d1 p) ∧ (BN n2 d2 q) ∧ (d1 + d2 ≤ 8990) ∧ (n1 + n2 + d1 + d2 ≤ 400000) ∧
  (∀ H' r, Same H H' → SqT K H' r [.int (p - q).num, .int ((p - q).den : Int)] → Q (.ref r) H')
theorem u__law_rsub {K : PySem.W.Frag} {H : Hp} {Q : VK} {E : XK} {x y : Addr} {p q : Rat} {n1 d1 n2 d2 : Nat} (h0 : SqT K H x [.int p.num, .int (p.den : Int)]) (h1 : SqT K H y [.int q.num, .int (q.den : Int)]) (h2 : BN n1 d1 p) (h3 : BN n2 d2 q) (h4 : d1 + d2 ≤ 8990) (h5 : n1 + n2 + d1 + d2 ≤ 400000)
  (k : ∀ H' r, Same H H' → SqT K H' r [.int (p - q).num, .int ((p - q).den : Int)] → Q (.ref r) H') : sp__law_rsub K [.ref x, .ref y] H Q E := ⟨x, y, p, q, n1, d1, n2, d2, rfl, h0, h1, h2, h3, h4, h5, k⟩
local macro_rules | `(tactic| walk_at "u") => `(tactic| ((with_reducible apply u__law_rsub); walk_at "sqI"; walk_at "sqI"; walk_at "bn"; walk_at "bn"; (first | assumption | decide | omega); (first | assumption | decide | omega); intros))
def sp__law_rmul (K : PySem.W.Frag) : Sp := fun vs H Q _ => ∃ (x y : Addr) (p q : Rat) (n1 d1 n2 d2 : Nat), vs = [.ref x, .ref y] ∧ (SqT K H x [.int p.num, .int (p.den : Int)]) ∧ (SqT K H y [.int q.num, .int (q.den : Int)]) ∧ (BN n1 d1 p) ∧ (BN n2 d2 q) ∧ (d1 + d2 ≤ 8990) ∧ (n1 + n2 + d1 + d2 ≤ 400000) ∧
  (∀ H' r, Same H H' → SqT K H' r [.int (p * q).num, .int ((p * q).den : Int)] → Q (.ref r) H')
theorem u__law_rmul {K : PySem.W.Frag} {H : Hp} {Q : VK} {E : XK} {x y : Addr} {p q : Rat} {n1 d1 n2 d2 : Nat} (h0 : SqT K H x [.int p.num, .int (p.den : Int)]) (h1 : SqT K H y [.int q.num, .int (q.den : Int)]) (h2 : BN n1 d1 p) (h3 : BN n2 d2 q) (h4 : d1 + d2 ≤ 8990) (h5 : n1 + n2 + d1 + d2 ≤ 400000)
  (k : ∀ H' r, Same H H' → SqT K H' r [.int (p * q).num, .int ((p * q).den : Int)] → Q (.ref r) H') : sp__law_rmul K [.ref x, .ref y] H Q E := ⟨x, y, p, q, n1, d1, n2, d2, rfl, h0, h1, h2, h3, h4, h5, k⟩
local macro_rules | `(tactic| walk_at "u") => `(tactic| ((with_reducible apply u__law_rmul); walk_at "sqI"; walk_at "sqI"; walk_at "bn"; walk_at "bn"; (first | assumption | decide | omega); (first | assumption | decide | omega); intros))
def sp__law_ratio (K : PySem.W.Frag) : Sp := fun vs H Q _ => ∃ (st : Addr), vs = [.ref st] ∧ (St K H st) ∧
  (∀ H' p q, Fr st H H' → St K H' st → SqT K H' p [.int q.num, .int (q.den : Int)] → BQ 6 q → Q (.ref p) H')
theorem u__law_ratio {K : PySem.W.Frag} {H : Hp} {Q : VK} {E : XK} {st : Addr} (h0 : St K H st)
  (k : ∀ H' p q, Fr st H H' → St K H' st → SqT K H' p [.int q.num, .int (q.den : Int)] → BQ 6 q → Q (.ref p) H') : sp__law_ratio K [.ref st] H Q E := ⟨st, rfl, h0, k⟩
local macro_rules | `(tactic| walk_at "u") => `(tactic| ((with_reducible apply u__law_ratio); walk_at "st"; intros))
def sp__law_number (K : PySem.W.Frag) : Sp := fun vs H Q _ => ∃ (st a : Addr) (q : Rat), vs = [.ref st, .ref a] ∧ (St K H st) ∧ (SqT K H a [.int q.num, .int (q.den : Int)]) ∧
  (∀ H' v, Fr st H H' → St K H' st → RvQ K H' v q → Q v H')
theorem u__law_number {K : PySem.W.Frag} {H : Hp} {Q : VK} {E : XK} {st a : Addr} {q : Rat} (h0 : St K H st) (h1 : SqT K H a [.int q.num, .int (q.den : Int)])
  (k : ∀ H' v, Fr st H H' → St K H' st → RvQ K H' v q → Q v H') : sp__law_number K [.ref st, .ref a] H Q E := ⟨st, a, q, rfl, h0, h1, k⟩
local macro_rules | `(tactic| walk_at "u") => `(tactic| ((with_reducible apply u__law_number); walk_at "st"; walk_at "sqI"; intros))
def sp__law_is_integer (K : PySem.W.Frag) : Sp := fun vs H Q _ => ∃ (x : Int), vs = [.int x] ∧
  (∀ H', Same H H' → Q (.bl true) H')
theorem u__law_is_integer {K : PySem.W.Frag} {H : Hp} {Q : VK} {E : XK} {x : Int} 
  (k : ∀ H', Same H H' → Q (.bl true) H') : sp__law_is_integer K [.int x] H Q E := ⟨x, rfl, k⟩
local macro_rules | `(tactic| walk_at "u") => `(tactic| ((with_reducible apply u__law_is_integer); intros))
def sp__law_is_integer_V_P (K : PySem.W.Frag) : Sp := fun vs H Q _ => ∃ (v : V) (d : PyData), vs = [v] ∧ (Dp K H v d) ∧
  (∀ H' b, Same H H' → (b = true ↔ ∃ i, d = .int i) → Q (.bl b) H')
theorem u__law_is_integer_V_P {K : PySem.W.Frag} {H : Hp} {Q : VK} {E : XK} {v : V} {d : PyData} (h0 : Dp K H v d)
  (k : ∀ H' b, Same H H' → (b = true ↔ ∃ i, d = .int i) → Q (.bl b) H') : sp__law_is_integer_V_P K [v] H Q E := ⟨v, d, rfl, h0, k⟩
local macro_rules | `(tactic| walk_at "u") => `(tactic| ((with_reducible apply u__law_is_integer_V_P); walk_at "dp"; intros))
def sp__law_same (K : PySem.W.Frag) (dep : Nat) : Sp := fun vs H Q _ => ∃ (a b : V) (d : PyData), vs = [a, b] ∧ (Dp K H a d) ∧ (Dp K H b d) ∧ (Pe dep d) ∧
  (∀ H', Same H H' → Q (.bl true) H')
theorem u__law_same {K : PySem.W.Frag} {dep : Nat} {H : Hp} {Q : VK} {E : XK} {a b : V} {d : PyData} (h0 : Dp K H a d) (h1 : Dp K H b d) (h2 : Pe dep d)
  (k : ∀ H', Same H H' → Q (.bl true) H') : sp__law_same K dep [a, b] H Q E := ⟨a, b, d, rfl, h0, h1, h2, k⟩
local macro_rules | `(tactic| walk_at "u") => `(tactic| ((with_reducible apply u__law_same); walk_at "dp"; walk_at "dp"; (first | exact My.pe_m _ | assumption | exact My.pe_vv _ _ | exact My.pe_q _ | exact My.pe_v _ | exact trivial | (simp [My.Pe, My.pe_v, My.pe_q]; done)); intros))
def sp__law_inner (K : PySem.W.Frag) (dep : Nat) : Sp := fun vs H Q _ => ∃ (v : V) (d : PyData) (N : List Addr), vs = [v] ∧ (Dn K N H v d) ∧ (Sz dep d) ∧ (Al H N) ∧ (dep ≤ 6) ∧
  (∀ H' r acc, Same H H' → H r = none → H' r = some (.lst acc) → acc.length ≤ 4 ^ dep → Gd N r H' acc → Q (.ref r) H')
theorem u__law_inner {K : PySem.W.Frag} {dep : Nat} {H : Hp} {Q : VK} {E : XK} {v : V} {d : PyData} {N : List Addr} (h0 : Dn K N H v d) (h1 : Sz dep d) (h2 : Al H N) (h3 : dep ≤ 6)
  (k : ∀ H' r acc, Same H H' → H r = none → H' r = some (.lst acc) → acc.length ≤ 4 ^ dep → Gd N r H' acc → Q (.ref r) H') : sp__law_inner K dep [v] H Q E := ⟨v, d, N, rfl, h0, h1, h2, h3, k⟩
local macro_rules | `(tactic| walk_at "u") => `(tactic| ((with_reducible apply u__law_inner); walk_at "dn"; assumption; walk_at "al"; (first | assumption | decide | omega); intros))
def sp__law_spoil (K : PySem.W.Frag) : Sp := fun vs H Q _ => ∃ (p : Addr) (xs : List V) (ds : List PyData) (N : List Addr), vs = [.ref p] ∧ (p ∉ N) ∧ (H p = some (.lst xs)) ∧ (DnA K N H xs ds) ∧ (Sz 6 (.list ds)) ∧ (Al H N) ∧
  (∀ H' n, TK K H H' → (∀ a, a ∈ N → H' a = H a) → Q (.int n) H')
theorem u__law_spoil {K : PySem.W.Frag} {H : Hp} {Q : VK} {E : XK} {p : Addr} {xs : List V} {ds : List PyData} {N : List Addr} (h0 : p ∉ N) (h1 : H p = some (.lst xs)) (h2 : DnA K N H xs ds) (h3 : Sz 6 (.list ds)) (h4 : Al H N)
  (k : ∀ H' n, TK K H H' → (∀ a, a ∈ N → H' a = H a) → Q (.int n) H') : sp__law_spoil K [.ref p] H Q E := ⟨p, xs, ds, N, rfl, h0, h1, h2, h3, h4, k⟩
local macro_rules | `(tactic| walk_at "u") => `(tactic| ((with_reducible apply u__law_spoil); assumption; assumption; assumption; assumption; assumption; intros))
def sp__law_vadd (K : PySem.W.Frag) : Sp := fun vs H Q _ => ∃ (u v : Addr) (p q : V3) (n1 d1 n2 d2 : Nat), vs = [.ref u, .ref v] ∧ (Vc K H u p) ∧ (Vc K H v q) ∧ (VN n1 d1 p) ∧ (VN n2 d2 q) ∧ (d1 + d2 ≤ 8990) ∧ (n1 + n2 + d1 + d2 ≤ 400000) ∧
  (∀ H' r, Same H H' → Vc K H' r (va p q) → Q (.ref r) H')
theorem u__law_vadd {K : PySem.W.Frag} {H : Hp} {Q : VK} {E : XK} {u v : Addr} {p q : V3} {n1 d1 n2 d2 : Nat} (h0 : Vc K H u p) (h1 : Vc K H v q) (h2 : VN n1 d1 p) (h3 : VN n2 d2 q) (h4 : d1 + d2 ≤ 8990) (h5 : n1 + n2 + d1 + d2 ≤ 400000)
  (k : ∀ H' r, Same H H' → Vc K H' r (va p q) → Q (.ref r) H') : sp__law_vadd K [.ref u, .ref v] H Q E := ⟨u, v, p, q, n1, d1, n2, d2, rfl, h0, h1, h2, h3, h4, h5, k⟩
local macro_rules | `(tactic| walk_at "u") => `(tactic| ((with_reducible apply u__law_vadd); walk_at "vc"; walk_at "vc"; walk_at "vn"; walk_at "vn"; (first | assumption | decide | omega); (first | assumption | decide | omega); intros))
def sp__law_vmul (K : PySem.W.Frag) : Sp := fun vs H Q _ => ∃ (t v : Addr) (x : Rat) (q : V3) (n1 d1 n2 d2 : Nat), vs = [.ref t, .ref v] ∧ (SqT K H t [.int x.num, .int (x.den : Int)]) ∧ (Vc K H v q) ∧ (BN n1 d1 x) ∧ (VN n2 d2 q) ∧ (d1 + d2 ≤ 8990) ∧ (n1 + n2 + d1 + d2 ≤ 400000) ∧
  (∀ H' r, Same H H' → Vc K H' r (sc x q) → Q (.ref r) H')
theorem u__law_vmul {K : PySem.W.Frag} {H : Hp} {Q : VK} {E : XK} {t v : Addr} {x : Rat} {q : V3} {n1 d1 n2 d2 : Nat} (h0 : SqT K H t [.int x.num, .int (x.den : Int)]) (h1 : Vc K H v q) (h2 : BN n1 d1 x) (h3 : VN n2 d2 q) (h4 : d1 + d2 ≤ 8990) (h5 : n1 + n2 + d1 + d2 ≤ 400000)
  (k : ∀ H' r, Same H H' → Vc K H' r (sc x q) → Q (.ref r) H') : sp__law_vmul K [.ref t, .ref v] H Q E := ⟨t, v, x, q, n1, d1, n2, d2, rfl, h0, h1, h2, h3, h4, h5, k⟩
local macro_rules | `(tactic| walk_at "u") => `(tactic| ((with_reducible apply u__law_vmul); walk_at "sqI"; walk_at "vc"; walk_at "bn"; walk_at "vn"; (first | assumption | decide | omega); (first | assumption | decide | omega); intros))
def sp__law_vdot (K : PySem.W.Frag) : Sp := fun vs H Q _ => ∃ (u v : Addr) (p q : V3) (n1 d1 n2 d2 : Nat), vs = [.ref u, .ref v] ∧ (Vc K H u p) ∧ (Vc K H v q) ∧ (VN n1 d1 p) ∧ (VN n2 d2 q) ∧ (3 * (d1 + d2) ≤ 8990) ∧ (3 * (n1 + n2) + 5 * (d1 + d2) ≤ 300000) ∧
  (∀ H' r, Same H H' → SqT K H' r [.int (dt p q).num, .int ((dt p q).den : Int)] → Q (.ref r) H')
theorem u__law_vdot {K : PySem.W.Frag} {H : Hp} {Q : VK} {E : XK} {u v : Addr} {p q : V3} {n1 d1 n2 d2 : Nat} (h0 : Vc K H u p) (h1 : Vc K H v q) (h2 : VN n1 d1 p) (h3 : VN n2 d2 q) (h4 : 3 * (d1 + d2) ≤ 8990) (h5 : 3 * (n1 + n2) + 5 * (d1 + d2) ≤ 300000)
  (k : ∀ H' r, Same H H' → SqT K H' r [.int (dt p q).num, .int ((dt p q).den : Int)] → Q (.ref r) H') : sp__law_vdot K [.ref u, .ref v] H Q E := ⟨u, v, p, q, n1, d1, n2, d2, rfl, h0, h1, h2, h3, h4, h5, k⟩
local macro_rules | `(tactic| walk_at "u") => `(tactic| ((with_reducible apply u__law_vdot); walk_at "vc"; walk_at "vc"; walk_at "vn"; walk_at "vn"; (first | assumption | decide | omega); (first | assumption | decide | omega); intros))
def sp__law_vcross (K : PySem.W.Frag) : Sp := fun vs H Q _ => ∃ (u v : Addr) (p q : V3) (n1 d1 n2 d2 : Nat), vs = [.ref u, .ref v] ∧ (Vc K H u p) ∧ (Vc K H v q) ∧ (VN n1 d1 p) ∧ (VN n2 d2 q) ∧ (2 * (d1 + d2) ≤ 8990) ∧ (2 * (n1 + n2) + 2 * (d1 + d2) ≤ 300000) ∧
  (∀ H' r, Same H H' → Vc K H' r (cr p q) → Q (.ref r) H')
theorem u__law_vcross {K : PySem.W.Frag} {H : Hp} {Q : VK} {E : XK} {u v : Addr} {p q : V3} {n1 d1 n2 d2 : Nat} (h0 : Vc K H u p) (h1 : Vc K H v q) (h2 : VN n1 d1 p) (h3 : VN n2 d2 q) (h4 : 2 * (d1 + d2) ≤ 8990) (h5 : 2 * (n1 + n2) + 2 * (d1 + d2) ≤ 300000)
  (k : ∀ H' r, Same H H' → Vc K H' r (cr p q) → Q (.ref r) H') : sp__law_vcross K [.ref u, .ref v] H Q E := ⟨u, v, p, q, n1, d1, n2, d2, rfl, h0, h1, h2, h3, h4, h5, k⟩
local macro_rules | `(tactic| walk_at "u") => `(tactic| ((with_reducible apply u__law_vcross); walk_at "vc"; walk_at "vc"; walk_at "vn"; walk_at "vn"; (first | assumption | decide | omega); (first | assumption | decide | omega); intros))
def sp__law_point (K : PySem.W.Frag) : Sp := fun vs H Q _ => ∃ (st : Addr), vs = [.ref st] ∧ (St K H st) ∧
  (∀ H' a q, Fr st H H' → St K H' st → Vc K H' a q → VN 6 6 q → Q (.ref a) H')
theorem u__law_point {K : PySem.W.Frag} {H : Hp} {Q : VK} {E : XK} {st : Addr} (h0 : St K H st)
  (k : ∀ H' a q, Fr st H H' → St K H' st → Vc K H' a q → VN 6 6 q → Q (.ref a) H') : sp__law_point K [.ref st] H Q E := ⟨st, rfl, h0, k⟩
local macro_rules | `(tactic| walk_at "u") => `(tactic| ((with_reducible apply u__law_point); walk_at "st"; intros))
def sp__law_is_ratio (K : PySem.W.Frag) : Sp := fun vs H Q _ => ∃ (v : V) (d : PyData), vs = [v] ∧ (Dp K H v d) ∧
  (∀ H' b, Same H H' → (b = true ↔ IsR d) → Q (.bl b) H')
theorem u__law_is_ratio {K : PySem.W.Frag} {H : Hp} {Q : VK} {E : XK} {v : V} {d : PyData} (h0 : Dp K H v d)
  (k : ∀ H' b, Same H H' → (b = true ↔ IsR d) → Q (.bl b) H') : sp__law_is_ratio K [v] H Q E := ⟨v, d, rfl, h0, k⟩
local macro_rules | `(tactic| walk_at "u") => `(tactic| ((with_reducible apply u__law_is_ratio); walk_at "dp"; intros))
def sp__law_is_vector (K : PySem.W.Frag) : Sp := fun vs H Q _ => ∃ (v : V) (d : PyData), vs = [v] ∧ (Dp K H v d) ∧
  (∀ H' b, Same H H' → (b = true ↔ IsV d) → Q (.bl b) H')
theorem u__law_is_vector {K : PySem.W.Frag} {H : Hp} {Q : VK} {E : XK} {v : V} {d : PyData} (h0 : Dp K H v d)
  (k : ∀ H' b, Same H H' → (b = true ↔ IsV d) → Q (.bl b) H') : sp__law_is_vector K [v] H Q E := ⟨v, d, rfl, h0, k⟩
local macro_rules | `(tactic| walk_at "u") => `(tactic| ((with_reducible apply u__law_is_vector); walk_at "dp"; intros))
def sp__law_is_move (K : PySem.W.Frag) : Sp := fun vs H Q _ => ∃ (v : V) (d : PyData), vs = [v] ∧ (Ob K H v d) ∧ (BdD 200 d) ∧
  (∀ H' b, Same H H' → (b = true ↔ IsM d) → Q (.bl b) H')
theorem u__law_is_move {K : PySem.W.Frag} {H : Hp} {Q : VK} {E : XK} {v : V} {d : PyData} (h0 : Ob K H v d) (h1 : BdD 200 d)
  (k : ∀ H' b, Same H H' → (b = true ↔ IsM d) → Q (.bl b) H') : sp__law_is_move K [v] H Q E := ⟨v, d, rfl, h0, h1, k⟩
local macro_rules | `(tactic| walk_at "u") => `(tactic| ((with_reducible apply u__law_is_move); walk_at "ob"; assumption; intros))
def sp__law_whole_vector (K : PySem.W.Frag) : Sp := fun vs H Q _ => ∃ (a b c : Int), vs = [.int a, .int b, .int c] ∧
  (∀ H' r, Same H H' → Vc K H' r (⟨((a : Int) : Rat), ((b : Int) : Rat), ((c : Int) : Rat)⟩) → Q (.ref r) H')
theorem u__law_whole_vector {K : PySem.W.Frag} {H : Hp} {Q : VK} {E : XK} {a b c : Int} 
  (k : ∀ H' r, Same H H' → Vc K H' r (⟨((a : Int) : Rat), ((b : Int) : Rat), ((c : Int) : Rat)⟩) → Q (.ref r) H') : sp__law_whole_vector K [.int a, .int b, .int c] H Q E := ⟨a, b, c, rfl, k⟩
local macro_rules | `(tactic| walk_at "u") => `(tactic| ((with_reducible apply u__law_whole_vector); intros))
def sp__law_turn_rows (K : PySem.W.Frag) : Sp := fun vs H Q _ => ∃ (a : Int), vs = [.int a] ∧ (0 ≤ a) ∧ (a ≤ 2) ∧
  (∀ H' m p q r, Same H H' → Rw K H' m p q r → HalfRow p → HalfRow q → HalfRow r → dt p (cr q r) ≠ 0 → Q (.ref m) H')
theorem u__law_turn_rows {K : PySem.W.Frag} {H : Hp} {Q : VK} {E : XK} {a : Int} (h0 : 0 ≤ a) (h1 : a ≤ 2)
  (k : ∀ H' m p q r, Same H H' → Rw K H' m p q r → HalfRow p → HalfRow q → HalfRow r → dt p (cr q r) ≠ 0 → Q (.ref m) H') : sp__law_turn_rows K [.int a] H Q E := ⟨a, rfl, h0, h1, k⟩
local macro_rules | `(tactic| walk_at "u") => `(tactic| ((with_reducible apply u__law_turn_rows); (first | assumption | decide | omega); (first | assumption | decide | omega); intros))
def sp__law_matrix (K : PySem.W.Frag) : Sp := fun vs H Q _ => ∃ (st : Addr), vs = [.ref st] ∧ (St K H st) ∧
  (∀ H' m p q r, Fr st H H' → St K H' st → Rw K H' m p q r → HalfRow p → HalfRow q → HalfRow r → dt p (cr q r) ≠ 0 → Q (.ref m) H')
theorem u__law_matrix {K : PySem.W.Frag} {H : Hp} {Q : VK} {E : XK} {st : Addr} (h0 : St K H st)
  (k : ∀ H' m p q r, Fr st H H' → St K H' st → Rw K H' m p q r → HalfRow p → HalfRow q → HalfRow r → dt p (cr q r) ≠ 0 → Q (.ref m) H') : sp__law_matrix K [.ref st] H Q E := ⟨st, rfl, h0, k⟩
local macro_rules | `(tactic| walk_at "u") => `(tactic| ((with_reducible apply u__law_matrix); walk_at "st"; intros))
def sp__law_move (K : PySem.W.Frag) : Sp := fun vs H Q _ => ∃ (st : Addr), vs = [.ref st] ∧ (St K H st) ∧
  (∀ H' m A, Fr st H H' → St K H' st → Mv K H' m A → SmM A → Q (.ref m) H')
theorem u__law_move {K : PySem.W.Frag} {H : Hp} {Q : VK} {E : XK} {st : Addr} (h0 : St K H st)
  (k : ∀ H' m A, Fr st H H' → St K H' st → Mv K H' m A → SmM A → Q (.ref m) H') : sp__law_move K [.ref st] H Q E := ⟨st, rfl, h0, k⟩
local macro_rules | `(tactic| walk_at "u") => `(tactic| ((with_reducible apply u__law_move); walk_at "st"; intros))
def sp__law_singular (K : PySem.W.Frag) : Sp := fun vs H Q _ => ∃ (st : Addr), vs = [.ref st] ∧ (St K H st) ∧
  (∀ H' m p q r, Fr st H H' → St K H' st → Rw K H' m p q r → VN 100 40 p → VN 100 40 q → VN 100 40 r → dt p (cr q r) = 0 → Q (.ref m) H')
theorem u__law_singular {K : PySem.W.Frag} {H : Hp} {Q : VK} {E : XK} {st : Addr} (h0 : St K H st)
  (k : ∀ H' m p q r, Fr st H H' → St K H' st → Rw K H' m p q r → VN 100 40 p → VN 100 40 q → VN 100 40 r → dt p (cr q r) = 0 → Q (.ref m) H') : sp__law_singular K [.ref st] H Q E := ⟨st, rfl, h0, k⟩
local macro_rules | `(tactic| walk_at "u") => `(tactic| ((with_reducible apply u__law_singular); walk_at "st"; intros))
def sp__law_moved_vector (K : PySem.W.Frag) : Sp := fun vs H Q _ => ∃ (m v : Addr) (A : M3) (p : V3) (n1 d1 n2 d2 : Nat), vs = [.ref m, .ref v] ∧ (Mv K H m A) ∧ (Vc K H v p) ∧ (MN n1 d1 A) ∧ (VN n2 d2 p) ∧ (3 * (d1 + d2) ≤ 8990) ∧ (3 * (n1 + n2) + 5 * (d1 + d2) ≤ 300000) ∧
  (∀ H' r, Same H H' → Vc K H' r (mvec A p) → Q (.ref r) H')
theorem u__law_moved_vector {K : PySem.W.Frag} {H : Hp} {Q : VK} {E : XK} {m v : Addr} {A : M3} {p : V3} {n1 d1 n2 d2 : Nat} (h0 : Mv K H m A) (h1 : Vc K H v p) (h2 : MN n1 d1 A) (h3 : VN n2 d2 p) (h4 : 3 * (d1 + d2) ≤ 8990) (h5 : 3 * (n1 + n2) + 5 * (d1 + d2) ≤ 300000)
  (k : ∀ H' r, Same H H' → Vc K H' r (mvec A p) → Q (.ref r) H') : sp__law_moved_vector K [.ref m, .ref v] H Q E := ⟨m, v, A, p, n1, d1, n2, d2, rfl, h0, h1, h2, h3, h4, h5, k⟩
local macro_rules | `(tactic| walk_at "u") => `(tactic| ((with_reducible apply u__law_moved_vector); walk_at "mv"; walk_at "vc"; walk_at "mn"; walk_at "vn"; (first | assumption | decide | omega); (first | assumption | decide | omega); intros))
def sp__law_moved (K : PySem.W.Frag) : Sp := fun vs H Q _ => ∃ (m v : Addr) (A : M3) (p : V3) (n1 d1 n2 d2 : Nat), vs = [.ref m, .ref v] ∧ (Mv K H m A) ∧ (Vc K H v p) ∧ (MN n1 d1 A) ∧ (VN n2 d2 p) ∧ (4 * d1 + 3 * d2 ≤ 8990) ∧ (4 * n1 + 3 * n2 + 9 * d1 + 8 * d2 ≤ 290000) ∧
  (∀ H' r, Same H H' → Vc K H' r (app A p) → Q (.ref r) H')
theorem u__law_moved {K : PySem.W.Frag} {H : Hp} {Q : VK} {E : XK} {m v : Addr} {A : M3} {p : V3} {n1 d1 n2 d2 : Nat} (h0 : Mv K H m A) (h1 : Vc K H v p) (h2 : MN n1 d1 A) (h3 : VN n2 d2 p) (h4 : 4 * d1 + 3 * d2 ≤ 8990) (h5 : 4 * n1 + 3 * n2 + 9 * d1 + 8 * d2 ≤ 290000)
  (k : ∀ H' r, Same H H' → Vc K H' r (app A p) → Q (.ref r) H') : sp__law_moved K [.ref m, .ref v] H Q E := ⟨m, v, A, p, n1, d1, n2, d2, rfl, h0, h1, h2, h3, h4, h5, k⟩
local macro_rules | `(tactic| walk_at "u") => `(tactic| ((with_reducible apply u__law_moved); walk_at "mv"; walk_at "vc"; walk_at "mn"; walk_at "vn"; (first | assumption | decide | omega); (first | assumption | decide | omega); intros))
def sp__law_det (K : PySem.W.Frag) : Sp := fun vs H Q _ => ∃ (m : Addr) (A : M3) (n1 d1 : Nat), vs = [.ref m] ∧ (Mv K H m A) ∧ (MN n1 d1 A) ∧ (15 * d1 ≤ 8990) ∧ (n1 + d1 ≤ 5000) ∧
  (∀ H' r, Same H H' → SqT K H' r [.int (det3 A).num, .int ((det3 A).den : Int)] → Q (.ref r) H')
theorem u__law_det {K : PySem.W.Frag} {H : Hp} {Q : VK} {E : XK} {m : Addr} {A : M3} {n1 d1 : Nat} (h0 : Mv K H m A) (h1 : MN n1 d1 A) (h2 : 15 * d1 ≤ 8990) (h3 : n1 + d1 ≤ 5000)
  (k : ∀ H' r, Same H H' → SqT K H' r [.int (det3 A).num, .int ((det3 A).den : Int)] → Q (.ref r) H') : sp__law_det K [.ref m] H Q E := ⟨m, A, n1, d1, rfl, h0, h1, h2, h3, k⟩
local macro_rules | `(tactic| walk_at "u") => `(tactic| ((with_reducible apply u__law_det); walk_at "mv"; walk_at "mn"; (first | assumption | decide | omega); (first | assumption | decide | omega); intros))
def sp__law_only_E_Singular (K : PySem.W.Frag) (ec : Ecl) : Sp := fun vs H Q E => ∃ (a : Addr), vs = [.ref a] ∧
  (∀ H', Same H H' → Q (.bl true) H')
theorem u__law_only_E_Singular {K : PySem.W.Frag} {ec : Ecl} {H : Hp} {Q : VK} {E : XK} {a : Addr} 
  (k : ∀ H', Same H H' → Q (.bl true) H') : sp__law_only_E_Singular K ec [.ref a] H Q E := ⟨a, rfl, k⟩
local macro_rules | `(tactic| walk_at "u") => `(tactic| ((with_reducible apply u__law_only_E_Singular); intros))
def sp__law_refused (K : PySem.W.Frag) : Sp := fun vs H Q _ => ∃ (u v f' g h : Addr) (A : M3) (n1 d1 : Nat), vs = [.ref u, .ref v, .non] ∧ ((SqT K H u [.ref f', .ref g, .ref h] ∨ SqL K H u [.ref f', .ref g, .ref h])) ∧ (RowV K H f' A.a) ∧ (RowV K H g A.b) ∧ (RowV K H h A.c) ∧ (RowV K H v A.s) ∧ (MN n1 d1 A) ∧ (15 * d1 ≤ 8990) ∧ (n1 + d1 ≤ 5000) ∧ (det3 A = 0) ∧
  (∀ H', Same H H' → Q (.bl true) H')
theorem u__law_refused {K : PySem.W.Frag} {H : Hp} {Q : VK} {E : XK} {u v f' g h : Addr} {A : M3} {n1 d1 : Nat} (h0 : (SqT K H u [.ref f', .ref g, .ref h] ∨ SqL K H u [.ref f', .ref g, .ref h])) (h1 : RowV K H f' A.a) (h2 : RowV K H g A.b) (h3 : RowV K H h A.c) (h4 : RowV K H v A.s) (h5 : MN n1 d1 A) (h6 : 15 * d1 ≤ 8990) (h7 : n1 + d1 ≤ 5000) (h8 : det3 A = 0)
  (k : ∀ H', Same H H' → Q (.bl true) H') : sp__law_refused K [.ref u, .ref v, .non] H Q E := ⟨u, v, f', g, h, A, n1, d1, rfl, h0, h1, h2, h3, h4, h5, h6, h7, h8, k⟩
local macro_rules | `(tactic| walk_at "u") => `(tactic| ((with_reducible apply u__law_refused); assumption; assumption; assumption; assumption; assumption; assumption; assumption; assumption; assumption; intros))
def sp__law_refused_V_B (K : PySem.W.Frag) : Sp := fun vs H Q _ => ∃ (v x y z : Addr) (p q r : Rat), vs = [.non, .non, .ref v] ∧ (SqT K H v [.ref x, .ref y, .ref z]) ∧ (SqT K H x [.int p.num, .int (p.den : Int)]) ∧ (SqT K H y [.int q.num, .int (q.den : Int)]) ∧ (SqT K H z [.int r.num, .int (r.den : Int)]) ∧ (p = 0 ∨ q = 0 ∨ r = 0) ∧
  (∀ H', Same H H' → Q (.bl true) H')
theorem u__law_refused_V_B {K : PySem.W.Frag} {H : Hp} {Q : VK} {E : XK} {v x y z : Addr} {p q r : Rat} (h0 : SqT K H v [.ref x, .ref y, .ref z]) (h1 : SqT K H x [.int p.num, .int (p.den : Int)]) (h2 : SqT K H y [.int q.num, .int (q.den : Int)]) (h3 : SqT K H z [.int r.num, .int (r.den : Int)]) (h4 : p = 0 ∨ q = 0 ∨ r = 0)
  (k : ∀ H', Same H H' → Q (.bl true) H') : sp__law_refused_V_B K [.non, .non, .ref v] H Q E := ⟨v, x, y, z, p, q, r, rfl, h0, h1, h2, h3, h4, k⟩
local macro_rules | `(tactic| walk_at "u") => `(tactic| ((with_reducible apply u__law_refused_V_B); walk_at "sq"; walk_at "sqI"; walk_at "sqI"; walk_at "sqI"; assumption; intros))
def sp__law_great (K : PySem.W.Frag) : Sp := fun vs H Q _ => ∃ (st : Addr), vs = [.ref st] ∧ (St K H st) ∧
  (∀ H' r p, Fr st H H' → St K H' st → Vc K H' r p → VN 134 134 p → Q (.ref r) H')
theorem u__law_great {K : PySem.W.Frag} {H : Hp} {Q : VK} {E : XK} {st : Addr} (h0 : St K H st)
  (k : ∀ H' r p, Fr st H H' → St K H' st → Vc K H' r p → VN 134 134 p → Q (.ref r) H') : sp__law_great K [.ref st] H Q E := ⟨st, rfl, h0, k⟩
local macro_rules | `(tactic| walk_at "u") => `(tactic| ((with_reducible apply u__law_great); walk_at "st"; intros))
def sp__law_either (K : PySem.W.Frag) : Sp := fun vs H Q _ => ∃ (st l : Addr) (xs : List V), vs = [.ref st, .ref l] ∧ (St K H st) ∧ (H l = some (.lst xs)) ∧ (xs.length ≤ 100) ∧ (notS xs = true) ∧
  (∀ H' r, Fr st H H' → St K H' st → (SqT K H' r xs ∨ (H r = none ∧ H' r = some (.lst xs))) → Q (.ref r) H')
theorem u__law_either {K : PySem.W.Frag} {H : Hp} {Q : VK} {E : XK} {st l : Addr} {xs : List V} (h0 : St K H st) (h1 : H l = some (.lst xs)) (h2 : xs.length ≤ 100) (h3 : notS xs = true)
  (k : ∀ H' r, Fr st H H' → St K H' st → (SqT K H' r xs ∨ (H r = none ∧ H' r = some (.lst xs))) → Q (.ref r) H') : sp__law_either K [.ref st, .ref l] H Q E := ⟨st, l, xs, rfl, h0, h1, h2, h3, k⟩
local macro_rules | `(tactic| walk_at "u") => `(tactic| ((with_reducible apply u__law_either); walk_at "st"; walk_at "ls"; (first | assumption | decide | omega | (focus (simp; done))); (first | assumption | rfl | exact My.notS_len rfl); intros))
def sp__law_turned (K : PySem.W.Frag) : Sp := fun vs H Q _ => ∃ (a : Addr) (p : V3) (m : Int), vs = [.int m, .ref a] ∧ (Vc K H a p) ∧ (0 ≤ m) ∧ (m ≤ 2) ∧
  (∀ H' r, Same H H' → Vc K H' r (trn m p) → Q (.ref r) H')
theorem u__law_turned {K : PySem.W.Frag} {H : Hp} {Q : VK} {E : XK} {a : Addr} {p : V3} {m : Int} (h0 : Vc K H a p) (h1 : 0 ≤ m) (h2 : m ≤ 2)
  (k : ∀ H' r, Same H H' → Vc K H' r (trn m p) → Q (.ref r) H') : sp__law_turned K [.int m, .ref a] H Q E := ⟨a, p, m, rfl, h0, h1, h2, k⟩
local macro_rules | `(tactic| walk_at "u") => `(tactic| ((with_reducible apply u__law_turned); walk_at "vc"; (first | assumption | decide | omega); (first | assumption | decide | omega); intros))
def sp__law_turns (K : PySem.W.Frag) : Sp := fun vs H Q _ => ∃ (a m : Int), vs = [.int a, .int m] ∧ (0 ≤ a) ∧ (a ≤ 2) ∧ (0 ≤ m) ∧ (m ≤ 3) ∧
  (∀ H' r, Same H H' → Mv K H' r (tns a m.toNat) → Q (.ref r) H')
theorem u__law_turns {K : PySem.W.Frag} {H : Hp} {Q : VK} {E : XK} {a m : Int} (h0 : 0 ≤ a) (h1 : a ≤ 2) (h2 : 0 ≤ m) (h3 : m ≤ 3)
  (k : ∀ H' r, Same H H' → Mv K H' r (tns a m.toNat) → Q (.ref r) H') : sp__law_turns K [.int a, .int m] H Q E := ⟨a, m, rfl, h0, h1, h2, h3, k⟩
local macro_rules | `(tactic| walk_at "u") => `(tactic| ((with_reducible apply u__law_turns); (first | assumption | decide | omega); (first | assumption | decide | omega); (first | assumption | decide | omega); (first | assumption | decide | omega); intros))
def sp__law_scaled (K : PySem.W.Frag) : Sp := fun vs H Q _ => ∃ (l x y z : Addr) (p q r : Rat), vs = [.ref l] ∧ (SqL K H l [.ref x, .ref y, .ref z]) ∧ (SqT K H x [.int p.num, .int (p.den : Int)]) ∧ (SqT K H y [.int q.num, .int (q.den : Int)]) ∧ (SqT K H z [.int r.num, .int (r.den : Int)]) ∧
  (∀ H' m, Same H H' → Mv K H' m (dg p q r) → Q (.ref m) H')
theorem u__law_scaled {K : PySem.W.Frag} {H : Hp} {Q : VK} {E : XK} {l x y z : Addr} {p q r : Rat} (h0 : SqL K H l [.ref x, .ref y, .ref z]) (h1 : SqT K H x [.int p.num, .int (p.den : Int)]) (h2 : SqT K H y [.int q.num, .int (q.den : Int)]) (h3 : SqT K H z [.int r.num, .int (r.den : Int)])
  (k : ∀ H' m, Same H H' → Mv K H' m (dg p q r) → Q (.ref m) H') : sp__law_scaled K [.ref l] H Q E := ⟨l, x, y, z, p, q, r, rfl, h0, h1, h2, h3, k⟩
local macro_rules | `(tactic| walk_at "u") => `(tactic| ((with_reducible apply u__law_scaled); walk_at "sl"; walk_at "sqI"; walk_at "sqI"; walk_at "sqI"; intros))
def sp__law_bent (K : PySem.W.Frag) : Sp := fun vs H Q _ => ∃ (st m : Addr) (A : M3), vs = [.ref st, .ref m] ∧ (St K H st) ∧ (Mv K H m A) ∧ (MN 150 150 A) ∧
  (∀ H' v d, Fr st H H' → St K H' st → Ob K H' v d → BdD 200 d → Q v H')
theorem u__law_bent {K : PySem.W.Frag} {H : Hp} {Q : VK} {E : XK} {st m : Addr} {A : M3} (h0 : St K H st) (h1 : Mv K H m A) (h2 : MN 150 150 A)
  (k : ∀ H' v d, Fr st H H' → St K H' st → Ob K H' v d → BdD 200 d → Q v H') : sp__law_bent K [.ref st, .ref m] H Q E := ⟨st, m, A, rfl, h0, h1, h2, k⟩
local macro_rules | `(tactic| walk_at "u") => `(tactic| ((with_reducible apply u__law_bent); walk_at "st"; walk_at "mv"; walk_at "mn"; intros))
def sp__law_made_right (K : PySem.W.Frag) : Sp := fun vs H Q _ => ∃ (st r v : Addr) (A : M3), vs = [.ref st, .ref r, .ref v] ∧ (St K H st) ∧ (Rw K H r A.a A.b A.c) ∧ (Vc K H v A.s) ∧ (MN 150 150 A) ∧
  (∀ H', TK K H H' → St K H' st → Q (.bl true) H')
theorem u__law_made_right {K : PySem.W.Frag} {H : Hp} {Q : VK} {E : XK} {st r v : Addr} {A : M3} (h0 : St K H st) (h1 : Rw K H r A.a A.b A.c) (h2 : Vc K H v A.s) (h3 : MN 150 150 A)
  (k : ∀ H', TK K H H' → St K H' st → Q (.bl true) H') : sp__law_made_right K [.ref st, .ref r, .ref v] H Q E := ⟨st, r, v, A, rfl, h0, h1, h2, h3, k⟩
local macro_rules | `(tactic| walk_at "u") => `(tactic| ((with_reducible apply u__law_made_right); walk_at "st"; assumption; walk_at "vc"; walk_at "mn"; intros))
def sp__law_named_right (K : PySem.W.Frag) : Sp := fun vs H Q _ => ∃ (st : Addr), vs = [.ref st] ∧ (St K H st) ∧
  (∀ H', TK K H H' → St K H' st → Q (.bl true) H')
theorem u__law_named_right {K : PySem.W.Frag} {H : Hp} {Q : VK} {E : XK} {st : Addr} (h0 : St K H st)
  (k : ∀ H', TK K H H' → St K H' st → Q (.bl true) H') : sp__law_named_right K [.ref st] H Q E := ⟨st, rfl, h0, k⟩
local macro_rules | `(tactic| walk_at "u") => `(tactic| ((with_reducible apply u__law_named_right); walk_at "st"; intros))
def sp_law (K : PySem.W.Frag) : Sp := fun vs H Q _ => ∃ (sa : Addr) (ns : List Int), vs = [.ref sa] ∧ (SqL K H sa (ns.map V.int)) ∧ (ns.length ≤ 63) ∧
  (∀ H', Q (.bl true) H')
theorem u_law {K : PySem.W.Frag} {H : Hp} {Q : VK} {E : XK} {sa : Addr} {ns : List Int} (h0 : SqL K H sa (ns.map V.int)) (h1 : ns.length ≤ 63)
  (k : ∀ H', Q (.bl true) H') : sp_law K [.ref sa] H Q E := ⟨sa, ns, rfl, h0, h1, k⟩
local macro_rules | `(tactic| walk_at "u") => `(tactic| ((with_reducible apply u_law); walk_at "sl"; (first | assumption | omega); intros))
section
variable {P : Program} {w : World} {K : PySem.W.Frag} {mg : Str → Option Value} {base : Heap}
abbrev s_is_integer : Stmt := top 20
theorem sc_is_integer : FnScope ["value"] ["value"] (defScope s_is_integer) := ⟨rfl, rfl, rfl, by decide +kernel, rfl, by decide +kernel, by decide +kernel⟩
set_option Elab.async true in
set_option maxHeartbeats 4000000 in
theorem ok_is_integer {f : Addr} {fd : FuncData} (F : FunA K "is_integer" "is_integer" s_is_integer f fd) (T : Blt mg) : FnOk P w K mg base CX0 1 f fd ["value"] (sp_is_integer K) := by
  refine F.ok sc_is_integer (fun vs H Q E h => ?_) (fun cdv A outer s H vs Q E hr h => ?_)
  · obtain ⟨_, _, rfl, _⟩ := h
    rfl
  · obtain ⟨v, d, rfl, h0, k⟩ := h
    refine ⟨_, (pss_one (ps_ret (pe_and (pe_callB (kc_isi (K := K) rfl) (by rfl) T.isinstance (by decide +kernel) (pa_cons (pv 0) (pa_cons (pe_bltn (v := .ty "int") (u := .type "int") (by rfl) T.int (by decide +kernel) rfl) pa_nil))) (pe_one (pe_not (pe_callB (kc_isi (K := K) rfl) (by rfl) T.isinstance (by decide +kernel) (pa_cons (pv 0) (pa_cons (pe_bltn (v := .ty "bool") (u := .type "bool") (by rfl) T.bool (by decide +kernel) rfl) pa_nil)))))))), ?_⟩
    cases h0
    all_goals
      walk_at "a"
      exact k _ _ (by walk_at "same") (by simp)
in #guard_msgs in universe u_z
abbrev s_ratio : Stmt := top 21
theorem sc_ratio : FnScope ["top", "bottom", "shared"] ["top", "bottom"] (defScope s_ratio) := ⟨rfl, rfl, rfl, by decide +kernel, rfl, by decide +kernel, by decide +kernel⟩
set_option Elab.async true in
set_option maxHeartbeats 4000000 in
theorem ok_ratio {f : Addr} {fd : FuncData} (F : FunA K "ratio" "ratio" s_ratio f fd) (T : Blt mg) : FnOk P w K mg base CX0 1 f fd ["top", "bottom"] (sp_ratio K) := by
  refine F.ok sc_ratio (fun vs H Q E h => ?_) (fun cdv A outer s H vs Q E hr h => ?_)
  · obtain ⟨_, _, rfl, _⟩ := h
    rfl
  · obtain ⟨t, b, rfl, h0, h1, k⟩ := h
    refine ⟨_, (pss_cons (ps_if (pt_cmpR op_eq (pv 1) pe_int (nomark _))
 (pss_one ps_never)
 pss_nil)
 (pss_cons (ps_set (i := 2) sc_ratio.nd rfl (.inl rfl) (pe_callBfun cr_gcd (by rfl) T.gcd (pa_cons (pv 0) (pa_cons (pv 1) pa_nil))))
 (pss_cons (ps_if (pt_cmpR op_lt (pv 1) pe_int (nomark _))
 (pss_one (ps_set (i := 2) sc_ratio.nd rfl (.inl rfl) (pe_un un_neg (pv 2))))
 pss_nil)
 (pss_one (ps_ret (pe_tup (pa_cons (pe_op op_fdivZ (pv 0) (pv 2)) (pa_cons (pe_op op_fdivZ (pv 1) (pv 2)) pa_nil)))))))), ?_⟩
    have hg : 0 < Nat.gcd t.natAbs b.natAbs := Nat.gcd_pos_of_pos_right _ (by omega)
    have gB : B 8990 ((Nat.gcd t.natAbs b.natAbs : Nat) : Int) := B.of_le (y := b) (by have := Nat.gcd_le_right t.natAbs (n := b.natAbs) (by omega); omega) h1
    have c1 : CDivZ t ((Nat.gcd t.natAbs b.natAbs : Nat) : Int) := B.cdiv (by omega) gB (by decide)
    have c2 : CDivZ t (-((Nat.gcd t.natAbs b.natAbs : Nat) : Int)) := B.cdiv (by omega) gB.neg (by decide)
    have go : ∀ (H' : Hp) p n d, Same H H' → H' p = some (.tup [.int n, .int d]) → Red t b n d → Q (.ref p) H' := fun H' p n d s1 hp r => by
      obtain ⟨rfl, rfl⟩ := red_q h0 r
      exact k _ _ s1 (SqT.of hp)
    walk_at "a"
    · omega
    · exact go _ _ _ _ (by walk_at "same") (by assumption) (red_of h0 (fun q => absurd q (by omega)) (fun _ => rfl))
    · exact go _ _ _ _ (by walk_at "same") (by assumption) (red_of h0 (fun _ => rfl) (fun q => absurd q (by omega)))
in #guard_msgs in universe u_z
abbrev s_is_ratio : Stmt := top 22
theorem sc_is_ratio : FnScope ["value", "top", "bottom"] ["value"] (defScope s_is_ratio) := ⟨rfl, rfl, rfl, by decide +kernel, rfl, by decide +kernel, by decide +kernel⟩
set_option Elab.async true in
set_option maxHeartbeats 4000000 in
theorem ok_is_ratio {f : Addr} {fd : FuncData} (F : FunA K "is_ratio" "is_ratio" s_is_ratio f fd) (T : Blt mg) (C_is_integer : Cal P w K mg base "is_integer" 1 ["value"] (sp_is_integer K)) : FnOk P w K mg base CX0 2 f fd ["value"] (sp_is_ratio K) := by
  refine F.ok sc_is_ratio (fun vs H Q E h => ?_) (fun cdv A outer s H vs Q E hr h => ?_)
  · obtain ⟨_, _, rfl, _⟩ := h
    rfl
  · obtain ⟨v, d, rfl, h0, k⟩ := h
    refine ⟨_, (pss_cons (ps_if (PW.pt (pw_or (pt_not (pt_val (pe_callB (kc_isi (K := K) rfl) (by rfl) T.isinstance (by decide +kernel) (pa_cons (pv 0) (pa_cons (pe_bltn (v := .ty "tuple") (u := .type "tuple") (by rfl) T.tuple (by decide +kernel) rfl) pa_nil))))) (pw_or1 (pt_cmpR op_ne (pe_callB (kc_len (K := K) rfl) (by rfl) T.len (by decide +kernel) (pa_cons (pv 0) pa_nil)) pe_int (nomark _)))))
 (pss_one (ps_ret pe_bl))
 pss_nil)
 (pss_cons (ps_asg (pv 0) (kg_tup (K := K) (n := 2) rfl rfl (pgs_cons (pg_name (i := 1) sc_is_ratio.nd rfl (.inl rfl)) (pgs_cons (pg_name (i := 2) sc_is_ratio.nd rfl (.inl rfl)) pgs_nil))))
 (pss_cons (ps_if (PW.pt (pw_or (pt_not (pt_val (pc C_is_integer (hr.mono (by decide)) (by rfl) (pa_cons (pv 1) pa_nil)))) (pw_or1 (pt_not (pt_val (pc C_is_integer (hr.mono (by decide)) (by rfl) (pa_cons (pv 2) pa_nil)))))))
 (pss_one (ps_ret pe_bl))
 pss_nil)
 (pss_one (ps_ret (pe_and (pe_cmpR op_ge (pv 2) pe_int (nomark _)) (pe_one (pe_cmpR op_eq (pe_callBfun cr_gcd (by rfl) T.gcd (pa_cons (pv 1) (pa_cons (pv 2) pa_nil))) pe_int (nomark _))))))))), ?_⟩
    rcases Dp.tupC h0 with ⟨a, xs, ds, rfl, rfl, hq, ha⟩ | ⟨hk, hn⟩
    · walk_at "g"
      refine r_lenT (by walk_at "sq") ?_
      walk_at "g"
      refine if_neI (fun e => ?_) (fun e => ?_)
      · walk_at "g"
        exact k _ _ (by walk_at "same") ⟨(fun q => nomatch q), fun ⟨n, m, q, _⟩ => by cases q; exact absurd (My.DpAll.len ha) (by simp only [List.length_cons, List.length_nil]; omega)⟩
      · obtain ⟨x, y, d, e, rfl, rfl, dx, dy⟩ := My.DpAll.two ha (by omega)
        walk_at "g"
        rename_i b1 s1 e1
        refine if_nb (fun q => ?_) (fun q => ?_)
        · walk_at "g"
          exact k _ _ (by walk_at "same") ⟨(fun q => nomatch q), fun ⟨n, m, z, _⟩ => by cases z; simp [q] at e1⟩
        · walk_at "g"
          rename_i b2 s2 e2
          refine if_nb (fun q2 => ?_) (fun q2 => ?_)
          · walk_at "g"
            exact k _ _ (by walk_at "same") ⟨(fun q => nomatch q), fun ⟨n, m, z, _⟩ => by cases z; simp [q2] at e2⟩
          · obtain ⟨n, rfl⟩ := e1.1 q
            obtain ⟨m, rfl⟩ := e2.1 q2
            cases dx
            cases dy
            walk_at "a"
            · exact k _ _ (by walk_at "same") (by
                rename_i hm
                simp only [decide_eq_true_eq, V.int.injEq]
                exact ⟨fun q => ⟨n, m, rfl, hm, by omega⟩, fun ⟨_, _, z, _, g⟩ => by cases z; omega⟩)
            · exact k _ _ (by walk_at "same") ⟨(fun q => nomatch q), fun ⟨n, m, z, l, _⟩ => by cases z; omega⟩
    · walk_at "g"
      refine r_isD (by walk_at "dp") hk ?_
      walk_at "g"
      exact k _ _ (by walk_at "same") ⟨(fun q => nomatch q), fun ⟨n, m, z, _⟩ => absurd z (hn _)⟩
in #guard_msgs in universe u_z
abbrev s_as_ratio : Stmt := top 23
theorem sc_as_ratio : FnScope ["number"] ["number"] (defScope s_as_ratio) := ⟨rfl, rfl, rfl, by decide +kernel, rfl, by decide +kernel, by decide +kernel⟩
set_option Elab.async true in
set_option maxHeartbeats 4000000 in
theorem ok_as_ratio {f : Addr} {fd : FuncData} (F : FunA K "as_ratio" "as_ratio" s_as_ratio f fd) (T : Blt mg) : FnOk P w K mg base CX0 1 f fd ["number"] (sp_as_ratio K) := by
  refine F.ok sc_as_ratio (fun vs H Q E h => ?_) (fun cdv A outer s H vs Q E hr h => ?_)
  · obtain ⟨_, _, rfl, _⟩ := h
    rfl
  · obtain ⟨v, q, rfl, h0, k⟩ := h
    refine ⟨_, (pss_cons (ps_if (pt_val (pe_callB (kc_isi (K := K) rfl) (by rfl) T.isinstance (by decide +kernel) (pa_cons (pv 0) (pa_cons (pe_bltn (v := .ty "int") (u := .type "int") (by rfl) T.int (by decide +kernel) rfl) pa_nil))))
 (pss_one (ps_ret (pe_tup (pa_cons (pv 0) (pa_cons pe_int pa_nil)))))
 pss_nil)
 (pss_one (ps_ret (pv 0)))), ?_⟩
    rcases h0 with ⟨z, rfl, rfl⟩ | ⟨a, rfl, ha⟩
    · walk_at "g"
      exact k _ _ (by walk_at "same") (SqT.ofInt (by walk_at "sq"))
    · walk_at "g"
      exact k _ _ (by walk_at "same") (by walk_at "sq")
in #guard_msgs in universe u_z
abbrev s_add : Stmt := top 24
theorem sc_add : FnScope ["x", "y"] ["x", "y"] (defScope s_add) := ⟨rfl, rfl, rfl, by decide +kernel, rfl, by decide +kernel, by decide +kernel⟩
set_option Elab.async true in
set_option maxHeartbeats 4000000 in
theorem ok_add {f : Addr} {fd : FuncData} (F : FunA K "add" "add" s_add f fd) (T : Blt mg) (C_ratio : Cal P w K mg base "ratio" 1 ["top", "bottom"] (sp_ratio K)) : FnOk P w K mg base CX0 2 f fd ["x", "y"] (sp_add K) := by
  refine F.ok sc_add (fun vs H Q E h => ?_) (fun cdv A outer s H vs Q E hr h => ?_)
  · obtain ⟨_, _, _, _, _, _, _, _, rfl, _⟩ := h
    rfl
  · obtain ⟨x, y, p, q, n1, d1, n2, d2, rfl, h0, h1, h2, h3, h4, h5, k⟩ := h
    refine ⟨_, (pss_one (ps_ret (pc C_ratio (hr.mono (by decide)) (by rfl) (pa_cons (pe_op op_add (pe_op op_mulW (pe_ix (kx_tup (K := K) rfl) (pv 0) pe_int (fun _ _ => rfl)) (pe_ix (kx_tup (K := K) rfl) (pv 1) pe_int (fun _ _ => rfl))) (pe_op op_mulW (pe_ix (kx_tup (K := K) rfl) (pv 1) pe_int (fun _ _ => rfl)) (pe_ix (kx_tup (K := K) rfl) (pv 0) pe_int (fun _ _ => rfl)))) (pa_cons (pe_op op_mulW (pe_ix (kx_tup (K := K) rfl) (pv 0) pe_int (fun _ _ => rfl)) (pe_ix (kx_tup (K := K) rfl) (pv 1) pe_int (fun _ _ => rfl))) pa_nil))))), ?_⟩
    have nz := mul0 (denI p) (denI q)
    have bd : B 8990 ((p.den : Int) * (q.den : Int)) := (B.mul h2.d h3.d).le (by omega)
    walk_at "a"
    rename_i hr
    rw [add_q] at hr
    exact k _ _ (by walk_at "same") hr
in #guard_msgs in universe u_z
abbrev s_subtract : Stmt := top 25
theorem sc_subtract : FnScope ["x", "y"] ["x", "y"] (defScope s_subtract) := ⟨rfl, rfl, rfl, by decide +kernel, rfl, by decide +kernel, by decide +kernel⟩
set_option Elab.async true in
set_option maxHeartbeats 4000000 in
theorem ok_subtract {f : Addr} {fd : FuncData} (F : FunA K "subtract" "subtract" s_subtract f fd) (T : Blt mg) (C_ratio : Cal P w K mg base "ratio" 1 ["top", "bottom"] (sp_ratio K)) : FnOk P w K mg base CX0 2 f fd ["x", "y"] (sp_subtract K) := by
  refine F.ok sc_subtract (fun vs H Q E h => ?_) (fun cdv A outer s H vs Q E hr h => ?_)
  · obtain ⟨_, _, _, _, _, _, _, _, rfl, _⟩ := h
    rfl
  · obtain ⟨x, y, p, q, n1, d1, n2, d2, rfl, h0, h1, h2, h3, h4, h5, k⟩ := h
    refine ⟨_, (pss_one (ps_ret (pc C_ratio (hr.mono (by decide)) (by rfl) (pa_cons (pe_op op_sub (pe_op op_mulW (pe_ix (kx_tup (K := K) rfl) (pv 0) pe_int (fun _ _ => rfl)) (pe_ix (kx_tup (K := K) rfl) (pv 1) pe_int (fun _ _ => rfl))) (pe_op op_mulW (pe_ix (kx_tup (K := K) rfl) (pv 1) pe_int (fun _ _ => rfl)) (pe_ix (kx_tup (K := K) rfl) (pv 0) pe_int (fun _ _ => rfl)))) (pa_cons (pe_op op_mulW (pe_ix (kx_tup (K := K) rfl) (pv 0) pe_int (fun _ _ => rfl)) (pe_ix (kx_tup (K := K) rfl) (pv 1) pe_int (fun _ _ => rfl))) pa_nil))))), ?_⟩
    have nz := mul0 (denI p) (denI q)
    have bd : B 8990 ((p.den : Int) * (q.den : Int)) := (B.mul h2.d h3.d).le (by omega)
    walk_at "a"
    rename_i hr
    rw [sub_q] at hr
    exact k _ _ (by walk_at "same") hr
in #guard_msgs in universe u_z
abbrev s_multiply : Stmt := top 26
theorem sc_multiply : FnScope ["x", "y"] ["x", "y"] (defScope s_multiply) := ⟨rfl, rfl, rfl, by decide +kernel, rfl, by decide +kernel, by decide +kernel⟩
set_option Elab.async true in
set_option maxHeartbeats 4000000 in
theorem ok_multiply {f : Addr} {fd : FuncData} (F : FunA K "multiply" "multiply" s_multiply f fd) (T : Blt mg) (C_ratio : Cal P w K mg base "ratio" 1 ["top", "bottom"] (sp_ratio K)) : FnOk P w K mg base CX0 2 f fd ["x", "y"] (sp_multiply K) := by
  refine F.ok sc_multiply (fun vs H Q E h => ?_) (fun cdv A outer s H vs Q E hr h => ?_)
  · obtain ⟨_, _, _, _, _, _, _, _, rfl, _⟩ := h
    rfl
  · obtain ⟨x, y, p, q, n1, d1, n2, d2, rfl, h0, h1, h2, h3, h4, h5, k⟩ := h
    refine ⟨_, (pss_one (ps_ret (pc C_ratio (hr.mono (by decide)) (by rfl) (pa_cons (pe_op op_mulW (pe_ix (kx_tup (K := K) rfl) (pv 0) pe_int (fun _ _ => rfl)) (pe_ix (kx_tup (K := K) rfl) (pv 1) pe_int (fun _ _ => rfl))) (pa_cons (pe_op op_mulW (pe_ix (kx_tup (K := K) rfl) (pv 0) pe_int (fun _ _ => rfl)) (pe_ix (kx_tup (K := K) rfl) (pv 1) pe_int (fun _ _ => rfl))) pa_nil))))), ?_⟩
    have nz := mul0 (denI p) (denI q)
    have bd : B 8990 ((p.den : Int) * (q.den : Int)) := (B.mul h2.d h3.d).le (by omega)
    walk_at "a"
    rename_i hr
    rw [mul_q] at hr
    exact k _ _ (by walk_at "same") hr
in #guard_msgs in universe u_z
abbrev s_integer_sign : Stmt := top 27
theorem sc_integer_sign : FnScope ["number"] ["number"] (defScope s_integer_sign) := ⟨rfl, rfl, rfl, by decide +kernel, rfl, by decide +kernel, by decide +kernel⟩
set_option Elab.async true in
set_option maxHeartbeats 4000000 in
theorem ok_integer_sign {f : Addr} {fd : FuncData} (F : FunA K "integer_sign" "integer_sign" s_integer_sign f fd) (T : Blt mg) : FnOk P w K mg base CX0 1 f fd ["number"] (sp_integer_sign K) := by
  refine F.ok sc_integer_sign (fun vs H Q E h => ?_) (fun cdv A outer s H vs Q E hr h => ?_)
  · obtain ⟨_, rfl, _⟩ := h
    rfl
  · obtain ⟨x, rfl, k⟩ := h
    refine ⟨_, (pss_cons (ps_if (pt_cmpR op_gt (pv 0) pe_int (nomark _))
 (pss_one (ps_ret pe_int))
 pss_nil)
 (pss_cons (ps_if (pt_cmpR op_lt (pv 0) pe_int (nomark _))
 (pss_one (ps_ret (pe_un un_neg pe_int)))
 pss_nil)
 (pss_one (ps_ret pe_int)))), ?_⟩
    walk_at "a"
    all_goals exact k _ _ (by walk_at "same") (by omega) (by omega) (by omega)
in #guard_msgs in universe u_z
abbrev s_sign : Stmt := top 28
theorem sc_sign : FnScope ["x"] ["x"] (defScope s_sign) := ⟨rfl, rfl, rfl, by decide +kernel, rfl, by decide +kernel, by decide +kernel⟩
set_option Elab.async true in
set_option maxHeartbeats 4000000 in
theorem ok_sign {f : Addr} {fd : FuncData} (F : FunA K "sign" "sign" s_sign f fd) (T : Blt mg) (C_integer_sign : Cal P w K mg base "integer_sign" 1 ["number"] (sp_integer_sign K)) : FnOk P w K mg base CX0 2 f fd ["x"] (sp_sign K) := by
  refine F.ok sc_sign (fun vs H Q E h => ?_) (fun cdv A outer s H vs Q E hr h => ?_)
  · obtain ⟨_, _, _, rfl, _⟩ := h
    rfl
  · obtain ⟨x, x0, x1, rfl, h0, k⟩ := h
    refine ⟨_, (pss_one (ps_ret (pc C_integer_sign (hr.mono (by decide)) (by rfl) (pa_cons (pe_ix (kx_tup (K := K) rfl) (pv 0) pe_int (fun _ _ => rfl)) pa_nil)))), ?_⟩
    walk_at "a"
    exact k _ _ (by walk_at "same") (by assumption) (by assumption) (by assumption)
in #guard_msgs in universe u_z
abbrev s_vector : Stmt := top 30
theorem sc_vector : FnScope ["x", "y", "z"] ["x", "y", "z"] (defScope s_vector) := ⟨rfl, rfl, rfl, by decide +kernel, rfl, by decide +kernel, by decide +kernel⟩
set_option Elab.async true in
set_option maxHeartbeats 4000000 in
theorem ok_vector {f : Addr} {fd : FuncData} (F : FunA K "vector" "vector" s_vector f fd) (T : Blt mg) (C_as_ratio : Cal P w K mg base "as_ratio" 1 ["number"] (sp_as_ratio K)) : FnOk P w K mg base CX0 2 f fd ["x", "y", "z"] (sp_vector K) := by
  refine F.ok sc_vector (fun vs H Q E h => ?_) (fun cdv A outer s H vs Q E hr h => ?_)
  · obtain ⟨_, _, _, _, rfl, _⟩ := h
    rfl
  · obtain ⟨a, b, c, p, rfl, h0, h1, h2, k⟩ := h
    refine ⟨_, (pss_one (ps_ret (pe_tup (pa_cons (pc C_as_ratio (hr.mono (by decide)) (by rfl) (pa_cons (pv 0) pa_nil)) (pa_cons (pc C_as_ratio (hr.mono (by decide)) (by rfl) (pa_cons (pv 1) pa_nil)) (pa_cons (pc C_as_ratio (hr.mono (by decide)) (by rfl) (pa_cons (pv 2) pa_nil)) pa_nil)))))), ?_⟩
    walk_at "g"
    refine u_as_ratio h0 ?_
    intro H1 x s1 hx
    walk_at "g"
    refine u_as_ratio (h1.same (by walk_at "same")) ?_
    intro H2 y s2 hy
    walk_at "g"
    refine u_as_ratio (h2.same (by walk_at "same")) ?_
    intro H3 z s3 hz
    walk_at "g"
    exact k _ _ (by walk_at "same") ⟨_, _, _, by walk_at "sq", by walk_at "sq", by walk_at "sq", by walk_at "sq"⟩
in #guard_msgs in universe u_z
abbrev s_is_vector : Stmt := top 31
theorem sc_is_vector : FnScope ["value", "part"] ["value"] (defScope s_is_vector) := ⟨rfl, rfl, rfl, by decide +kernel, rfl, by decide +kernel, by decide +kernel⟩
set_option Elab.async true in
set_option maxHeartbeats 4000000 in
theorem ok_is_vector {f : Addr} {fd : FuncData} (F : FunA K "is_vector" "is_vector" s_is_vector f fd) (T : Blt mg) (C_is_ratio : Cal P w K mg base "is_ratio" 2 ["value"] (sp_is_ratio K)) (TB_all : mg "all" = none) : FnOk P w K mg base CX0 3 f fd ["value"] (sp_is_vector K) := by
  refine F.ok sc_is_vector (fun vs H Q E h => ?_) (fun cdv A outer s H vs Q E hr h => ?_)
  · obtain ⟨_, _, rfl, _⟩ := h
    rfl
  · obtain ⟨v, d, rfl, h0, k⟩ := h
    refine ⟨_, (pss_one (ps_ret (pe_and (pe_callB (kc_isi (K := K) rfl) (by rfl) T.isinstance (by decide +kernel) (pa_cons (pv 0) (pa_cons (pe_bltn (v := .ty "tuple") (u := .type "tuple") (by rfl) T.tuple (by decide +kernel) rfl) pa_nil))) (pe_and (pe_cmpR op_eq (pe_callB (kc_len (K := K) rfl) (by rfl) T.len (by decide +kernel) (pa_cons (pv 0) pa_nil)) pe_int (nomark _)) (pe_one (pe_callB (kc_all (K := K) rfl rfl) (by rfl) TB_all (by decide +kernel) (pa_cons (pe_lc (own := [("part", 1)]) rfl sc_is_vector.nd (kp_tup (K := K) rfl (pv 0)) (blkOk_by (own := [("part", 1)]) (N := ["value", "part"]) (sc := defScope s_is_vector) (by decide +kernel)) (fun _ _ _ _ _ => (pg_name (i := 1) sc_is_vector.nd rfl (.inl rfl))) (fun _ _ _ _ _ => pts_nil) (fun _ _ _ _ _ => (pc C_is_ratio (hr.mono (by decide)) (by rfl) (pa_cons (pv 1) pa_nil)))) pa_nil))))))), ?_⟩
    rcases Dp.tupC h0 with ⟨a, xs, ds, rfl, rfl, hq, ha⟩ | ⟨hk, hn⟩
    · walk_at "g"
      refine r_lenT (by walk_at "sq") ?_
      walk_at "g"
      refine if_eqI (fun e => ?_) (fun e => ?_)
      · have l3 : ds.length = 3 := by
          have := (My.DpAll.len ha)
          omega
        walk_at "g"
        intro Da hD
        refine lc_tupH (K := K) (xs := xs) (Same H) (fun i acc _ => BsD IsR (ds.take i) acc) (Same.new hD) BsD.nil (fun H1 acc _ g => by walk_at "sq") (fun _ => rfl) ?_ ?_
        · rintro i x acc H1 hi hacc hDa g J
          obtain ⟨d1, ed, dx⟩ := My.DpAll.getV ha hi
          have hi2 := (List.getElem?_eq_some_iff.1 hi).1
          walk_at "g"
          rename_i b s1 hb
          exact r_lcQ2 (by omega) hacc (s1 _ _ hDa) (Same.mut (by walk_at "same") hD) (J.snoc ed hb)
        · rintro acc H1 hacc hDa g J
          rw [My.DpAll.len ha, List.take_length] at J
          obtain ⟨bs, rfl, hb⟩ := J.all
          walk_at "g"
          refine r_all (SqL.of hDa) ?_
          exact k _ _ (by walk_at "same") (hb.trans ⟨fun h => ⟨ds, rfl, l3, h⟩, fun ⟨_, z, _, h⟩ => by cases z; exact h⟩)
      · exact k _ _ (by walk_at "same") ⟨(fun q => nomatch q), fun ⟨n, z, l, _⟩ => by cases z; exact absurd (My.DpAll.len ha) (by omega)⟩
    · walk_at "g"
      refine r_isD (by walk_at "dp") hk ?_
      walk_at "g"
      exact k _ _ (by walk_at "same") ⟨(fun q => nomatch q), fun ⟨n, z, _⟩ => absurd z (hn _)⟩
in #guard_msgs in universe u_z
abbrev s_plus : Stmt := top 32
theorem sc_plus : FnScope ["u", "v"] ["u", "v"] (defScope s_plus) := ⟨rfl, rfl, rfl, by decide +kernel, rfl, by decide +kernel, by decide +kernel⟩
set_option Elab.async true in
set_option maxHeartbeats 4000000 in
theorem ok_plus {f : Addr} {fd : FuncData} (F : FunA K "plus" "plus" s_plus f fd) (T : Blt mg) (C_add : Cal P w K mg base "add" 2 ["x", "y"] (sp_add K)) : FnOk P w K mg base CX0 3 f fd ["u", "v"] (sp_plus K) := by
  refine F.ok sc_plus (fun vs H Q E h => ?_) (fun cdv A outer s H vs Q E hr h => ?_)
  · obtain ⟨_, _, _, _, _, _, _, _, rfl, _⟩ := h
    rfl
  · obtain ⟨u, v, p, q, n1, d1, n2, d2, rfl, h0, h1, h2, h3, h4, h5, k⟩ := h
    refine ⟨_, (pss_one (ps_ret (pe_tup (pa_cons (pc C_add (hr.mono (by decide)) (by rfl) (pa_cons (pe_ix (kx_tup (K := K) rfl) (pv 0) pe_int (fun _ _ => rfl)) (pa_cons (pe_ix (kx_tup (K := K) rfl) (pv 1) pe_int (fun _ _ => rfl)) pa_nil))) (pa_cons (pc C_add (hr.mono (by decide)) (by rfl) (pa_cons (pe_ix (kx_tup (K := K) rfl) (pv 0) pe_int (fun _ _ => rfl)) (pa_cons (pe_ix (kx_tup (K := K) rfl) (pv 1) pe_int (fun _ _ => rfl)) pa_nil))) (pa_cons (pc C_add (hr.mono (by decide)) (by rfl) (pa_cons (pe_ix (kx_tup (K := K) rfl) (pv 0) pe_int (fun _ _ => rfl)) (pa_cons (pe_ix (kx_tup (K := K) rfl) (pv 1) pe_int (fun _ _ => rfl)) pa_nil))) pa_nil)))))), ?_⟩
    obtain ⟨u0, u1, u2, ut, ua, ub, uc⟩ := h0
    obtain ⟨v0, v1, v2, vt, va, vb, vc⟩ := h1
    walk_at "a"
    exact k _ _ (by walk_at "same") (Vc.mk (by walk_at "sq") (by walk_at "sq") (by walk_at "sq") (by walk_at "sq"))
in #guard_msgs in universe u_z
abbrev s_scaled : Stmt := top 33
theorem sc_scaled : FnScope ["factor", "v"] ["factor", "v"] (defScope s_scaled) := ⟨rfl, rfl, rfl, by decide +kernel, rfl, by decide +kernel, by decide +kernel⟩
set_option Elab.async true in
set_option maxHeartbeats 4000000 in
theorem ok_scaled {f : Addr} {fd : FuncData} (F : FunA K "scaled" "scaled" s_scaled f fd) (T : Blt mg) (C_multiply : Cal P w K mg base "multiply" 2 ["x", "y"] (sp_multiply K)) : FnOk P w K mg base CX0 3 f fd ["factor", "v"] (sp_scaled K) := by
  refine F.ok sc_scaled (fun vs H Q E h => ?_) (fun cdv A outer s H vs Q E hr h => ?_)
  · obtain ⟨_, _, _, _, _, _, _, _, rfl, _⟩ := h
    rfl
  · obtain ⟨t, v, x, q, n1, d1, n2, d2, rfl, h0, h1, h2, h3, h4, h5, k⟩ := h
    refine ⟨_, (pss_one (ps_ret (pe_tup (pa_cons (pc C_multiply (hr.mono (by decide)) (by rfl) (pa_cons (pv 0) (pa_cons (pe_ix (kx_tup (K := K) rfl) (pv 1) pe_int (fun _ _ => rfl)) pa_nil))) (pa_cons (pc C_multiply (hr.mono (by decide)) (by rfl) (pa_cons (pv 0) (pa_cons (pe_ix (kx_tup (K := K) rfl) (pv 1) pe_int (fun _ _ => rfl)) pa_nil))) (pa_cons (pc C_multiply (hr.mono (by decide)) (by rfl) (pa_cons (pv 0) (pa_cons (pe_ix (kx_tup (K := K) rfl) (pv 1) pe_int (fun _ _ => rfl)) pa_nil))) pa_nil)))))), ?_⟩
    obtain ⟨v0, v1, v2, vt, va, vb, vc⟩ := h1
    walk_at "a"
    exact k _ _ (by walk_at "same") (Vc.mk (by walk_at "sq") (by walk_at "sq") (by walk_at "sq") (by walk_at "sq"))
in #guard_msgs in universe u_z
abbrev s_dot : Stmt := top 34
theorem sc_dot : FnScope ["u", "v"] ["u", "v"] (defScope s_dot) := ⟨rfl, rfl, rfl, by decide +kernel, rfl, by decide +kernel, by decide +kernel⟩
set_option Elab.async true in
set_option maxHeartbeats 4000000 in
theorem ok_dot {f : Addr} {fd : FuncData} (F : FunA K "dot" "dot" s_dot f fd) (T : Blt mg) (C_add : Cal P w K mg base "add" 2 ["x", "y"] (sp_add K)) (C_multiply : Cal P w K mg base "multiply" 2 ["x", "y"] (sp_multiply K)) : FnOk P w K mg base CX0 3 f fd ["u", "v"] (sp_dot K) := by
  refine F.ok sc_dot (fun vs H Q E h => ?_) (fun cdv A outer s H vs Q E hr h => ?_)
  · obtain ⟨_, _, _, _, _, _, _, _, rfl, _⟩ := h
    rfl
  · obtain ⟨u, v, p, q, n1, d1, n2, d2, rfl, h0, h1, h2, h3, h4, h5, k⟩ := h
    refine ⟨_, (pss_one (ps_ret (pc C_add (hr.mono (by decide)) (by rfl) (pa_cons (pc C_add (hr.mono (by decide)) (by rfl) (pa_cons (pc C_multiply (hr.mono (by decide)) (by rfl) (pa_cons (pe_ix (kx_tup (K := K) rfl) (pv 0) pe_int (fun _ _ => rfl)) (pa_cons (pe_ix (kx_tup (K := K) rfl) (pv 1) pe_int (fun _ _ => rfl)) pa_nil))) (pa_cons (pc C_multiply (hr.mono (by decide)) (by rfl) (pa_cons (pe_ix (kx_tup (K := K) rfl) (pv 0) pe_int (fun _ _ => rfl)) (pa_cons (pe_ix (kx_tup (K := K) rfl) (pv 1) pe_int (fun _ _ => rfl)) pa_nil))) pa_nil))) (pa_cons (pc C_multiply (hr.mono (by decide)) (by rfl) (pa_cons (pe_ix (kx_tup (K := K) rfl) (pv 0) pe_int (fun _ _ => rfl)) (pa_cons (pe_ix (kx_tup (K := K) rfl) (pv 1) pe_int (fun _ _ => rfl)) pa_nil))) pa_nil))))), ?_⟩
    obtain ⟨u0, u1, u2, ut, ua, ub, uc⟩ := h0
    obtain ⟨v0, v1, v2, vt, va, vb, vc⟩ := h1
    walk_at "a"
    exact k _ _ (by walk_at "same") (show SqT K _ _ [.int (p.x * q.x + p.y * q.y + p.z * q.z).num, .int ((p.x * q.x + p.y * q.y + p.z * q.z).den : Int)] by walk_at "sq")
in #guard_msgs in universe u_z
abbrev s_cross : Stmt := top 35
theorem sc_cross : FnScope ["u", "v"] ["u", "v"] (defScope s_cross) := ⟨rfl, rfl, rfl, by decide +kernel, rfl, by decide +kernel, by decide +kernel⟩
set_option Elab.async true in
set_option maxHeartbeats 4000000 in
theorem ok_cross {f : Addr} {fd : FuncData} (F : FunA K "cross" "cross" s_cross f fd) (T : Blt mg) (C_subtract : Cal P w K mg base "subtract" 2 ["x", "y"] (sp_subtract K)) (C_multiply : Cal P w K mg base "multiply" 2 ["x", "y"] (sp_multiply K)) : FnOk P w K mg base CX0 3 f fd ["u", "v"] (sp_cross K) := by
  refine F.ok sc_cross (fun vs H Q E h => ?_) (fun cdv A outer s H vs Q E hr h => ?_)
  · obtain ⟨_, _, _, _, _, _, _, _, rfl, _⟩ := h
    rfl
  · obtain ⟨u, v, p, q, n1, d1, n2, d2, rfl, h0, h1, h2, h3, h4, h5, k⟩ := h
    refine ⟨_, (pss_one (ps_ret (pe_tup (pa_cons (pc C_subtract (hr.mono (by decide)) (by rfl) (pa_cons (pc C_multiply (hr.mono (by decide)) (by rfl) (pa_cons (pe_ix (kx_tup (K := K) rfl) (pv 0) pe_int (fun _ _ => rfl)) (pa_cons (pe_ix (kx_tup (K := K) rfl) (pv 1) pe_int (fun _ _ => rfl)) pa_nil))) (pa_cons (pc C_multiply (hr.mono (by decide)) (by rfl) (pa_cons (pe_ix (kx_tup (K := K) rfl) (pv 0) pe_int (fun _ _ => rfl)) (pa_cons (pe_ix (kx_tup (K := K) rfl) (pv 1) pe_int (fun _ _ => rfl)) pa_nil))) pa_nil))) (pa_cons (pc C_subtract (hr.mono (by decide)) (by rfl) (pa_cons (pc C_multiply (hr.mono (by decide)) (by rfl) (pa_cons (pe_ix (kx_tup (K := K) rfl) (pv 0) pe_int (fun _ _ => rfl)) (pa_cons (pe_ix (kx_tup (K := K) rfl) (pv 1) pe_int (fun _ _ => rfl)) pa_nil))) (pa_cons (pc C_multiply (hr.mono (by decide)) (by rfl) (pa_cons (pe_ix (kx_tup (K := K) rfl) (pv 0) pe_int (fun _ _ => rfl)) (pa_cons (pe_ix (kx_tup (K := K) rfl) (pv 1) pe_int (fun _ _ => rfl)) pa_nil))) pa_nil))) (pa_cons (pc C_subtract (hr.mono (by decide)) (by rfl) (pa_cons (pc C_multiply (hr.mono (by decide)) (by rfl) (pa_cons (pe_ix (kx_tup (K := K) rfl) (pv 0) pe_int (fun _ _ => rfl)) (pa_cons (pe_ix (kx_tup (K := K) rfl) (pv 1) pe_int (fun _ _ => rfl)) pa_nil))) (pa_cons (pc C_multiply (hr.mono (by decide)) (by rfl) (pa_cons (pe_ix (kx_tup (K := K) rfl) (pv 0) pe_int (fun _ _ => rfl)) (pa_cons (pe_ix (kx_tup (K := K) rfl) (pv 1) pe_int (fun _ _ => rfl)) pa_nil))) pa_nil))) pa_nil)))))), ?_⟩
    obtain ⟨u0, u1, u2, ut, ua, ub, uc⟩ := h0
    obtain ⟨v0, v1, v2, vt, va, vb, vc⟩ := h1
    walk_at "a"
    exact k _ _ (by walk_at "same") (Vc.mk (by walk_at "sq") (by walk_at "sq") (by walk_at "sq") (by walk_at "sq"))
in #guard_msgs in universe u_z
abbrev s_triple : Stmt := top 36
theorem sc_triple : FnScope ["u", "v", "w"] ["u", "v", "w"] (defScope s_triple) := ⟨rfl, rfl, rfl, by decide +kernel, rfl, by decide +kernel, by decide +kernel⟩
set_option Elab.async true in
set_option maxHeartbeats 4000000 in
theorem ok_triple {f : Addr} {fd : FuncData} (F : FunA K "triple" "triple" s_triple f fd) (T : Blt mg) (C_dot : Cal P w K mg base "dot" 3 ["u", "v"] (sp_dot K)) (C_cross : Cal P w K mg base "cross" 3 ["u", "v"] (sp_cross K)) : FnOk P w K mg base CX0 4 f fd ["u", "v", "w"] (sp_triple K) := by
  refine F.ok sc_triple (fun vs H Q E h => ?_) (fun cdv A outer s H vs Q E hr h => ?_)
  · obtain ⟨_, _, _, _, _, _, _, _, rfl, _⟩ := h
    rfl
  · obtain ⟨u, v, w', p, q, r, n1, d1, rfl, h0, h1, h2, h3, h4, h5, h6, h7, k⟩ := h
    refine ⟨_, (pss_one (ps_ret (pc C_dot (hr.mono (by decide)) (by rfl) (pa_cons (pv 0) (pa_cons (pc C_cross (hr.mono (by decide)) (by rfl) (pa_cons (pv 1) (pa_cons (pv 2) pa_nil))) pa_nil))))), ?_⟩
    walk_at "g"
    exact k _ _ (by walk_at "same") (by walk_at "sq")
in #guard_msgs in universe u_z
abbrev s_axis_vector : Stmt := top 37
theorem sc_axis_vector : FnScope ["axis"] ["axis"] (defScope s_axis_vector) := ⟨rfl, rfl, rfl, by decide +kernel, rfl, by decide +kernel, by decide +kernel⟩
set_option Elab.async true in
set_option maxHeartbeats 4000000 in
theorem ok_axis_vector {f : Addr} {fd : FuncData} (F : FunA K "axis_vector" "axis_vector" s_axis_vector f fd) (T : Blt mg) (C_vector : Cal P w K mg base "vector" 2 ["x", "y", "z"] (sp_vector K)) : FnOk P w K mg base CX0 3 f fd ["axis"] (sp_axis_vector K) := by
  refine F.ok sc_axis_vector (fun vs H Q E h => ?_) (fun cdv A outer s H vs Q E hr h => ?_)
  · obtain ⟨_, rfl, _⟩ := h
    rfl
  · obtain ⟨a, rfl, h0, h1, k⟩ := h
    refine ⟨_, (pss_one (ps_ret (pc C_vector (hr.mono (by decide)) (by rfl) (pa_cons (pe_callTy kc_int (by rfl) T.int (by decide +kernel) (pa_cons (pe_cmpR op_eq (pv 0) pe_int (nomark _)) pa_nil)) (pa_cons (pe_callTy kc_int (by rfl) T.int (by decide +kernel) (pa_cons (pe_cmpR op_eq (pv 0) pe_int (nomark _)) pa_nil)) (pa_cons (pe_callTy kc_int (by rfl) T.int (by decide +kernel) (pa_cons (pe_cmpR op_eq (pv 0) pe_int (nomark _)) pa_nil)) pa_nil)))))), ?_⟩
    walk_at "g"
    refine u_vector (p := ax a) (.inl ⟨_, rfl, by simp [ax]⟩) (.inl ⟨_, rfl, by simp [ax]⟩) (.inl ⟨_, rfl, by simp [ax]⟩) ?_
    intro H1 r s1 hr
    exact k _ _ s1 hr
in #guard_msgs in universe u_z
abbrev s_make_move : Stmt := top 40
theorem sc_make_move : FnScope ["rows", "shift", "first", "second", "third", "matrix"] ["rows", "shift"] (defScope s_make_move) := ⟨rfl, rfl, rfl, by decide +kernel, rfl, by decide +kernel, by decide +kernel⟩
set_option Elab.async true in
set_option maxHeartbeats 4000000 in
theorem ok_make_move {f : Addr} {fd : FuncData} (F : FunA K "make_move" "make_move" s_make_move f fd) (T : Blt mg) (C_vector : Cal P w K mg base "vector" 2 ["x", "y", "z"] (sp_vector K)) (C_triple : Cal P w K mg base "triple" 4 ["u", "v", "w"] (sp_triple K)) : FnOk P w K mg base CX0 5 f fd ["rows", "shift"] (sp_make_move K) := by
  refine F.ok sc_make_move (fun vs H Q E h => ?_) (fun cdv A outer s H vs Q E hr h => ?_)
  · obtain ⟨_, _, _, _, _, _, _, _, rfl, _⟩ := h
    rfl
  · obtain ⟨u, v, f', g, h, A, n1, d1, rfl, h0, h1, h2, h3, h4, h5, h6, h7, h8, k⟩ := h
    refine ⟨_, (pss_cons (ps_asg (pv 0) (kg_any (K := K) (n := 3) rfl rfl (pgs_cons (pg_name (i := 2) sc_make_move.nd rfl (.inl rfl)) (pgs_cons (pg_name (i := 3) sc_make_move.nd rfl (.inl rfl)) (pgs_cons (pg_name (i := 4) sc_make_move.nd rfl (.inl rfl)) pgs_nil)))))
 (pss_cons (ps_set (i := 5) sc_make_move.nd rfl (.inl rfl) (pe_tup (pa_cons (pcT (K := K) C_vector rfl (hr.mono (by decide)) (by rfl) (pv 2)) (pa_cons (pcT (K := K) C_vector rfl (hr.mono (by decide)) (by rfl) (pv 3)) (pa_cons (pcT (K := K) C_vector rfl (hr.mono (by decide)) (by rfl) (pv 4)) pa_nil)))))
 (pss_cons (ps_if (pt_cmpR (ko_eqD (K := K) rfl (hu_of64 hr)) (pcT (K := K) C_triple rfl (hr.mono (by decide)) (by rfl) (pv 5)) (pe_tup (pa_cons pe_int (pa_cons pe_int pa_nil))) (nomark _))
 (pss_one ps_never)
 pss_nil)
 (pss_one (ps_ret (pe_tup (pa_cons (pv 5) (pa_cons (pcT (K := K) C_vector rfl (hr.mono (by decide)) (by rfl) (pv 1)) pa_nil)))))))), ?_⟩
    walk_at "g"
    refine w_gAny h0 rfl ?_
    walk_at "g"
    obtain ⟨x, y, z, q1, q2, q3, q4⟩ := h1
    refine ⟨_, _, rfl, q1, ?_⟩
    refine u_vector q2 q3 q4 ?_
    intro H1 r1 s1 k1
    walk_at "g"
    obtain ⟨x, y, z, q1, q2, q3, q4⟩ := h2.same s1
    refine ⟨_, _, rfl, q1, ?_⟩
    refine u_vector q2 q3 q4 ?_
    intro H2 r2 s2 k2
    walk_at "g"
    obtain ⟨x, y, z, q1, q2, q3, q4⟩ := h3.same (s1.trans s2)
    refine ⟨_, _, rfl, q1, ?_⟩
    refine u_vector q2 q3 q4 ?_
    intro H3 r3 s3 k3
    walk_at "g"
    rename_i P4 H4 n4 s4 hP
    refine ⟨_, _, rfl, .inl (SqT.of hP), ?_⟩
    refine u_triple (Vc.same ((s2.trans s3).trans s4) k1) (Vc.same (s3.trans s4) k2) (Vc.same s4 k3) h5.a h5.b h5.c h6 h7 ?_
    intro H5 t s5 ht
    have g4 := h4.same (((s1.trans s2).trans s3).trans (s4.trans s5))
    have s05 : Same H H5 := ((s1.trans s2).trans s3).trans (s4.trans s5)
    have m1 := Vc.same (((s2.trans s3).trans s4).trans s5) k1
    have m2 := Vc.same ((s3.trans s4).trans s5) k2
    have m3 := Vc.same (s4.trans s5) k3
    have hP5 : SqT K H5 P4 [.ref r1, .ref r2, .ref r3] := Same.tup s5 (SqT.of hP)
    clear k1 k2 k3 hP s1 s2 s3 s4 s5 q1 q2 q3 q4
    walk_at "g"
    rename_i P6 H6 n6 s6 hP6
    have z0 : (dt A.a (cr A.b A.c)).num ≠ 0 := fun e => h8 (Rat.num_eq_zero.mp e)
    rw [if_neg (by simp [eqv_T, eqv_C, eqv_N, eqv_I, z0])]
    walk_at "g"
    obtain ⟨x', y', z', q1, q2, q3, q4⟩ := g4.same s6
    refine ⟨_, _, rfl, q1, ?_⟩
    refine u_vector q2 q3 q4 ?_
    intro H7 r7 s7 k7
    walk_at "g"
    exact k _ _ (by walk_at "same") ⟨_, _, by walk_at "sq", ⟨_, _, _, by walk_at "sq", by walk_at "vc", by walk_at "vc", by walk_at "vc"⟩, by walk_at "vc"⟩
in #guard_msgs in universe u_z
set_option Elab.async true in
set_option maxHeartbeats 4000000 in
theorem ok_make_move_X {f : Addr} {fd : FuncData} (F : FunA K "make_move" "make_move" s_make_move f fd) (T : Blt mg) {ec : Ecl} (EC : EF K mg ec) (C_vector : Cal P w K mg base "vector" 2 ["x", "y", "z"] (sp_vector K)) (C_triple : Cal P w K mg base "triple" 4 ["u", "v", "w"] (sp_triple K)) : FnOk P w K mg base (L2N.CX P w) 5 f fd ["rows", "shift"] (sp_make_move_X K ec) := by
  refine F.okX sc_make_move (fun vs H Q E h => ?_) (fun cdv A outer s H vs Q E hr h => ?_)
  · obtain ⟨_, _, _, _, _, _, _, _, rfl, _⟩ := h
    rfl
  · obtain ⟨u, v, f', g, h, A, n1, d1, rfl, h0, h1, h2, h3, h4, h5, h6, h7, h8, k⟩ := h
    refine ⟨_, (pss_cons (ps_asg (pv 0) (kg_any (K := K) (n := 3) rfl rfl (pgs_cons (pg_name (i := 2) sc_make_move.nd rfl (.inl rfl)) (pgs_cons (pg_name (i := 3) sc_make_move.nd rfl (.inl rfl)) (pgs_cons (pg_name (i := 4) sc_make_move.nd rfl (.inl rfl)) pgs_nil)))))
 (pss_cons (ps_set (i := 5) sc_make_move.nd rfl (.inl rfl) (pe_tup (pa_cons (pcT (K := K) C_vector rfl (hr.mono (by decide)) (by rfl) (pv 2)) (pa_cons (pcT (K := K) C_vector rfl (hr.mono (by decide)) (by rfl) (pv 3)) (pa_cons (pcT (K := K) C_vector rfl (hr.mono (by decide)) (by rfl) (pv 4)) pa_nil)))))
 (pss_cons (ps_if (pt_cmpR (ko_eqD (K := K) rfl (hu_of64 hr)) (pcT (K := K) C_triple rfl (hr.mono (by decide)) (by rfl) (pv 5)) (pe_tup (pa_cons pe_int (pa_cons pe_int pa_nil))) (nomark _))
 (pss_one (ps_raise0 rfl (L2N.takes_of rfl rfl rfl rfl) PySem.F.excBase_ValueError EC.e_Singular EC.g_Singular EC.k_Singular EC.b_Singular EC.t_Singular (by rfl)))
 pss_nil)
 (pss_one (ps_ret (pe_tup (pa_cons (pv 5) (pa_cons (pcT (K := K) C_vector rfl (hr.mono (by decide)) (by rfl) (pv 1)) pa_nil)))))))), ?_⟩
    walk_at "g"
    refine w_gAny h0 rfl ?_
    walk_at "g"
    obtain ⟨x, y, z, q1, q2, q3, q4⟩ := h1
    refine ⟨_, _, rfl, q1, ?_⟩
    refine u_vector q2 q3 q4 ?_
    intro H1 r1 s1 k1
    walk_at "g"
    obtain ⟨x, y, z, q1, q2, q3, q4⟩ := h2.same s1
    refine ⟨_, _, rfl, q1, ?_⟩
    refine u_vector q2 q3 q4 ?_
    intro H2 r2 s2 k2
    walk_at "g"
    obtain ⟨x, y, z, q1, q2, q3, q4⟩ := h3.same (s1.trans s2)
    refine ⟨_, _, rfl, q1, ?_⟩
    refine u_vector q2 q3 q4 ?_
    intro H3 r3 s3 k3
    walk_at "g"
    rename_i P4 H4 n4 s4 hP
    refine ⟨_, _, rfl, .inl (SqT.of hP), ?_⟩
    refine u_triple (Vc.same ((s2.trans s3).trans s4) k1) (Vc.same (s3.trans s4) k2) (Vc.same s4 k3) h5.a h5.b h5.c h6 h7 ?_
    intro H5 t s5 ht
    have g4 := h4.same (((s1.trans s2).trans s3).trans (s4.trans s5))
    have s05 : Same H H5 := ((s1.trans s2).trans s3).trans (s4.trans s5)
    have m1 := Vc.same (((s2.trans s3).trans s4).trans s5) k1
    have m2 := Vc.same ((s3.trans s4).trans s5) k2
    have m3 := Vc.same (s4.trans s5) k3
    have hP5 : SqT K H5 P4 [.ref r1, .ref r2, .ref r3] := Same.tup s5 (SqT.of hP)
    clear k1 k2 k3 hP s1 s2 s3 s4 s5 q1 q2 q3 q4
    walk_at "g"
    rename_i P6 H6 n6 s6 hP6
    have z0 : (dt A.a (cr A.b A.c)).num = 0 := Rat.num_eq_zero.mpr h8
    have z1 : ((dt A.a (cr A.b A.c)).den : Int) = 1 := by
      have e : dt A.a (cr A.b A.c) = 0 := h8
      rw [e]
      rfl
    rw [if_pos (by simp [eqv_T, eqv_C, eqv_N, eqv_I, z0, z1])]
    walk_at "g"
    exact k _ (by walk_at "same")
in #guard_msgs in universe u_z
abbrev s_is_move : Stmt := top 41
theorem sc_is_move : FnScope ["value", "rows", "shift", "row"] ["value"] (defScope s_is_move) := ⟨rfl, rfl, rfl, by decide +kernel, rfl, by decide +kernel, by decide +kernel⟩
set_option Elab.async true in
set_option maxHeartbeats 4000000 in
theorem ok_is_move {f : Addr} {fd : FuncData} (F : FunA K "is_move" "is_move" s_is_move f fd) (T : Blt mg) (C_is_vector : Cal P w K mg base "is_vector" 3 ["value"] (sp_is_vector K)) (C_triple : Cal P w K mg base "triple" 4 ["u", "v", "w"] (sp_triple K)) (TB_all : mg "all" = none) : FnOk P w K mg base CX0 5 f fd ["value"] (sp_is_move K) := by
  refine F.ok sc_is_move (fun vs H Q E h => ?_) (fun cdv A outer s H vs Q E hr h => ?_)
  · obtain ⟨_, _, rfl, _⟩ := h
    rfl
  · obtain ⟨v, d, rfl, h0, h1, k⟩ := h
    refine ⟨_, (pss_cons (ps_if (PW.pt (pw_or (pt_not (pt_val (pe_callB (kc_isi (K := K) rfl) (by rfl) T.isinstance (by decide +kernel) (pa_cons (pv 0) (pa_cons (pe_bltn (v := .ty "tuple") (u := .type "tuple") (by rfl) T.tuple (by decide +kernel) rfl) pa_nil))))) (pw_or1 (pt_cmpR op_ne (pe_callB (kc_len (K := K) rfl) (by rfl) T.len (by decide +kernel) (pa_cons (pv 0) pa_nil)) pe_int (nomark _)))))
 (pss_one (ps_ret pe_bl))
 pss_nil)
 (pss_cons (ps_asg (pv 0) (kg_tup (K := K) (n := 2) rfl rfl (pgs_cons (pg_name (i := 1) sc_is_move.nd rfl (.inl rfl)) (pgs_cons (pg_name (i := 2) sc_is_move.nd rfl (.inl rfl)) pgs_nil))))
 (pss_cons (ps_if (PW.pt (pw_or (pt_not (pt_val (pe_callB (kc_isi (K := K) rfl) (by rfl) T.isinstance (by decide +kernel) (pa_cons (pv 1) (pa_cons (pe_bltn (v := .ty "tuple") (u := .type "tuple") (by rfl) T.tuple (by decide +kernel) rfl) pa_nil))))) (pw_or (pt_cmpR op_ne (pe_callB (kc_len (K := K) rfl) (by rfl) T.len (by decide +kernel) (pa_cons (pv 1) pa_nil)) pe_int (nomark _)) (pw_or1 (pt_not (pt_val (pe_callB (kc_all (K := K) rfl rfl) (by rfl) TB_all (by decide +kernel) (pa_cons (pe_lc (own := [("row", 3)]) rfl sc_is_move.nd (kp_tup (K := K) rfl (pv 1)) (blkOk_by (own := [("row", 3)]) (N := ["value", "rows", "shift", "row"]) (sc := defScope s_is_move) (by decide +kernel)) (fun _ _ _ _ _ => (pg_name (i := 3) sc_is_move.nd rfl (.inl rfl))) (fun _ _ _ _ _ => pts_nil) (fun _ _ _ _ _ => (pc C_is_vector (hr.mono (by decide)) (by rfl) (pa_cons (pv 3) pa_nil)))) pa_nil))))))))
 (pss_one (ps_ret pe_bl))
 pss_nil)
 (pss_one (ps_ret (pe_and (pc C_is_vector (hr.mono (by decide)) (by rfl) (pa_cons (pv 2) pa_nil)) (pe_one (pe_cmpR (ko_neD (K := K) rfl (hu_of64 hr)) (pcT (K := K) C_triple rfl (hr.mono (by decide)) (by rfl) (pv 1)) (pe_tup (pa_cons pe_int (pa_cons pe_int pa_nil))) (nomark _))))))))), ?_⟩
    rcases Ob.tupC h0 with ⟨a, xs, ds, rfl, rfl, hq, ha⟩ | ⟨hk, hn⟩
    · walk_at "g"
      refine r_lenT (by walk_at "sq") ?_
      walk_at "g"
      refine if_neI (fun e => ?_) (fun e => ?_)
      · walk_at "g"
        exact k _ _ (by walk_at "same") ⟨(fun q => nomatch q), fun ⟨A, z, _⟩ => by cases z; exact absurd (My.DpAll.len ha) (by simp only [List.length_cons, List.length_nil]; omega)⟩
      · obtain ⟨x, y, d0, d1, rfl, rfl, dx, dy⟩ := My.DpAll.two ha (by omega)
        walk_at "g"
        rcases Dp.tupC dx with ⟨b, ys, es, rfl, rfl, hq2, ha2⟩ | ⟨hk2, hn2⟩
        · walk_at "g"
          refine r_lenT (by walk_at "sq") ?_
          walk_at "g"
          refine if_neI (fun e2 => ?_) (fun e2 => ?_)
          · walk_at "g"
            exact k _ _ (by walk_at "same") ⟨(fun q => nomatch q), fun ⟨A, z, _⟩ => by cases z; exact absurd (My.DpAll.len ha2) (by simp only [List.length_cons, List.length_nil]; omega)⟩
          · obtain ⟨r0, r1, r2, g0, g1, g2, rfl, rfl, q0, q1, q2⟩ := My.DpAll.three ha2 (by omega)
            have go : ∀ (b : Bool) H', Same H H' → (b = true ↔ IsV g0 ∧ IsV g1 ∧ IsV g2 ∧ IsV d1 ∧ ∀ A : M3, g0 = vD A.a → g1 = vD A.b → g2 = vD A.c → d1 = vD A.s → det3 A ≠ 0) → Q (.bl b) H' := fun b H' s h => k _ _ s (h.trans ⟨fun ⟨v0, v1, v2, v3, h⟩ => by
              obtain ⟨p0, rfl⟩ := isV_iff.1 v0
              obtain ⟨p1, rfl⟩ := isV_iff.1 v1
              obtain ⟨p2, rfl⟩ := isV_iff.1 v2
              obtain ⟨p3, rfl⟩ := isV_iff.1 v3
              exact isM_iff.2 ⟨⟨p0, p1, p2, p3⟩, rfl, rfl, rfl, rfl, h _ rfl rfl rfl rfl⟩, fun h => by
              obtain ⟨A, rfl, rfl, rfl, rfl, hd⟩ := isM_iff.1 h
              refine ⟨isV_iff.2 ⟨_, rfl⟩, isV_iff.2 ⟨_, rfl⟩, isV_iff.2 ⟨_, rfl⟩, isV_iff.2 ⟨_, rfl⟩, fun B b0 b1 b2 b3 => ?_⟩
              have e0 := vD_inj b0
              have e1 := vD_inj b1
              have e2 := vD_inj b2
              unfold det3 at *
              rw [← e0, ← e1, ← e2]
              exact hd⟩)
            walk_at "g"
            intro Da hD
            refine lc_tupH (K := K) (xs := [r0, r1, r2]) (Same H) (fun i acc _ => BsD IsV (([g0, g1, g2] : List PyData).take i) acc) (Same.new hD) BsD.nil (fun H1 acc _ g => by walk_at "sq") (fun _ => rfl) ?_ ?_
            · rintro i x acc H1 hi hacc hDa g J
              obtain ⟨d1, ed, dx⟩ := My.DpAll.getV ha2 hi
              have hi2 : i < 3 := (List.getElem?_eq_some_iff.1 hi).1
              walk_at "g"
              rename_i b s1 hb
              exact r_lcQ2 (by omega) hacc (s1 _ _ hDa) (Same.mut (by walk_at "same") hD) (J.snoc ed hb)
            · rintro acc H1 hacc hDa g J
              rw [show [r0, r1, r2].length = ([g0, g1, g2] : List PyData).length from rfl, List.take_length] at J
              obtain ⟨bs, rfl, hb⟩ := J.all
              have hb3 : bs.all id = true ↔ IsV g0 ∧ IsV g1 ∧ IsV g2 := hb.trans ⟨fun h => ⟨h _ (by simp), h _ (by simp), h _ (by simp)⟩, fun ⟨h0, h1, h2⟩ x hx => by
                simp only [List.mem_cons, List.not_mem_nil, or_false] at hx
                rcases hx with rfl | rfl | rfl <;> assumption⟩
              walk_at "g"
              refine r_all (SqL.of hDa) ?_
              walk_at "g"
              refine if_nb (fun c => ?_) (fun c => ?_)
              · walk_at "g"
                exact go _ _ (by walk_at "same") ⟨(fun q => nomatch q), fun ⟨v0, v1, v2, _⟩ => by rw [hb3.2 ⟨v0, v1, v2⟩] at c; cases c⟩
              · obtain ⟨v0, v1, v2⟩ := hb3.1 c
                walk_at "g"
                rename_i H2 b3 s2 hb4
                refine if_b (fun c3 => ?_) (fun c3 => ?_)
                · have v3 := hb4.1 c3
                  obtain ⟨p0, rfl⟩ := isV_iff.1 v0
                  obtain ⟨p1, rfl⟩ := isV_iff.1 v1
                  obtain ⟨p2, rfl⟩ := isV_iff.1 v2
                  obtain ⟨p3, rfl⟩ := isV_iff.1 v3
                  obtain ⟨m0, rfl, w0⟩ := Dp.vcV q0
                  obtain ⟨m1, rfl, w1⟩ := Dp.vcV q1
                  obtain ⟨m2, rfl, w2⟩ := Dp.vcV q2
                  have hrow : BdD 200 (.tuple [vD p0, vD p1, vD p2]) := h1.tup (by simp)
                  have n0 := (hrow.tup (d := vD p0) (by simp)).v
                  have n1 := (hrow.tup (d := vD p1) (by simp)).v
                  have n2 := (hrow.tup (d := vD p2) (by simp)).v
                  walk_at "g"
                  refine ⟨_, _, rfl, .inl (by walk_at "sq"), ?_⟩
                  walk_at "g"
                  refine go _ _ (by walk_at "same") ?_
                  have ez : ∀ q : Rat, PyData.eqv (.tuple [.int q.num, .int (q.den : Int)]) (.tuple [.int 0, .int 1]) = decide (q = 0) := fun q => by
                    rw [show (PyData.tuple [.int 0, .int 1]) = .tuple [.int (0 : Rat).num, .int ((0 : Rat).den : Int)] from rfl, eqv_Q]
                  rw [ez, Bool.not_eq_true', decide_eq_false_iff_not]
                  constructor
                  · intro h
                    refine ⟨v0, v1, v2, v3, fun B b0 b1 b2 b3 => ?_⟩
                    unfold det3
                    rw [← vD_inj b0, ← vD_inj b1, ← vD_inj b2]
                    exact h
                  · rintro ⟨_, _, _, _, h⟩
                    exact h ⟨p0, p1, p2, p3⟩ rfl rfl rfl rfl
                · exact go _ _ (by walk_at "same") ⟨(fun q => nomatch q), fun ⟨_, _, _, v3, _⟩ => by rw [hb4.2 v3] at c3; cases c3⟩
        · refine r_isD dx hk2 ?_
          walk_at "g"
          exact k _ _ (by walk_at "same") ⟨(fun q => nomatch q), fun ⟨A, z, _⟩ => by cases z; exact absurd rfl (hn2 _)⟩
    · walk_at "g"
      refine r_isO (by walk_at "ob") hk ?_
      walk_at "g"
      exact k _ _ (by walk_at "same") ⟨(fun q => nomatch q), fun ⟨A, z, _⟩ => absurd z (hn _)⟩
in #guard_msgs in universe u_z
abbrev s_shift_by : Stmt := top 42
theorem sc_shift_by : FnScope ["step"] ["step"] (defScope s_shift_by) := ⟨rfl, rfl, rfl, by decide +kernel, rfl, by decide +kernel, by decide +kernel⟩
set_option Elab.async true in
set_option maxHeartbeats 4000000 in
theorem ok_shift_by {f : Addr} {fd : FuncData} (F : FunA K "shift_by" "shift_by" s_shift_by f fd) (T : Blt mg) (GT_STILL : GMD K mg "STILL" stD) : FnOk P w K mg base CX0 1 f fd ["step"] (sp_shift_by K) := by
  refine F.ok sc_shift_by (fun vs H Q E h => ?_) (fun cdv A outer s H vs Q E hr h => ?_)
  · obtain ⟨_, _, rfl, _⟩ := h
    rfl
  · obtain ⟨v, p, rfl, h0, k⟩ := h
    refine ⟨_, (pss_one (ps_ret (pe_tup (pa_cons (pe_ix (kx_tup (K := K) rfl) (pe_gd GT_STILL (by rfl)) pe_int (fun _ _ => rfl)) (pa_cons (pv 0) pa_nil))))), ?_⟩
    walk_at "g"
    exact k _ _ (by walk_at "same") ⟨_, _, by walk_at "sq", ⟨_, _, _, by walk_at "sq", by walk_at "vc", by walk_at "vc", by walk_at "vc"⟩, by walk_at "vc"⟩
in #guard_msgs in universe u_z
abbrev s_scale_by : Stmt := top 43
theorem sc_scale_by : FnScope ["factors", "factor", "x", "y", "z"] ["factors"] (defScope s_scale_by) := ⟨rfl, rfl, rfl, by decide +kernel, rfl, by decide +kernel, by decide +kernel⟩
set_option Elab.async true in
set_option maxHeartbeats 4000000 in
theorem ok_scale_by {f : Addr} {fd : FuncData} (F : FunA K "scale_by" "scale_by" s_scale_by f fd) (T : Blt mg) (C_scaled : Cal P w K mg base "scaled" 3 ["factor", "v"] (sp_scaled K)) (C_sign : Cal P w K mg base "sign" 2 ["x"] (sp_sign K)) (C_axis_vector : Cal P w K mg base "axis_vector" 3 ["axis"] (sp_axis_vector K)) (TB_any : mg "any" = none) (GT_STILL : GMD K mg "STILL" stD) : FnOk P w K mg base CX0 4 f fd ["factors"] (sp_scale_by K) := by
  refine F.ok sc_scale_by (fun vs H Q E h => ?_) (fun cdv A outer s H vs Q E hr h => ?_)
  · obtain ⟨_, _, _, _, _, _, _, _, _, rfl, _⟩ := h
    rfl
  · obtain ⟨v, x, y, z, p, q, r, n1, d1, rfl, h0, h1, h2, h3, h4, h5, h6, h7, h8, h9, h10, k⟩ := h
    refine ⟨_, (pss_cons (ps_if (pt_val (pe_callB (kc_any (K := K) rfl rfl) (by rfl) TB_any (by decide +kernel) (pa_cons (pe_lc (own := [("factor", 1)]) rfl sc_scale_by.nd (kp_tup (K := K) rfl (pv 0)) (blkOk_by (own := [("factor", 1)]) (N := ["factors", "factor", "x", "y", "z"]) (sc := defScope s_scale_by) (by decide +kernel)) (fun _ _ _ _ _ => (pg_name (i := 1) sc_scale_by.nd rfl (.inl rfl))) (fun _ _ _ _ _ => pts_nil) (fun _ _ _ _ _ => (pe_cmpR op_eq (pc C_sign (hr.mono (by decide)) (by rfl) (pa_cons (pv 1) pa_nil)) pe_int (nomark _)))) pa_nil)))
 (pss_one ps_never)
 pss_nil)
 (pss_cons (ps_asg (pv 0) (kg_tup (K := K) (n := 3) rfl rfl (pgs_cons (pg_name (i := 2) sc_scale_by.nd rfl (.inl rfl)) (pgs_cons (pg_name (i := 3) sc_scale_by.nd rfl (.inl rfl)) (pgs_cons (pg_name (i := 4) sc_scale_by.nd rfl (.inl rfl)) pgs_nil)))))
 (pss_one (ps_ret (pe_tup (pa_cons (pe_tup (pa_cons (pc C_scaled (hr.mono (by decide)) (by rfl) (pa_cons (pv 2) (pa_cons (pc C_axis_vector (hr.mono (by decide)) (by rfl) (pa_cons pe_int pa_nil)) pa_nil))) (pa_cons (pc C_scaled (hr.mono (by decide)) (by rfl) (pa_cons (pv 3) (pa_cons (pc C_axis_vector (hr.mono (by decide)) (by rfl) (pa_cons pe_int pa_nil)) pa_nil))) (pa_cons (pc C_scaled (hr.mono (by decide)) (by rfl) (pa_cons (pv 4) (pa_cons (pc C_axis_vector (hr.mono (by decide)) (by rfl) (pa_cons pe_int pa_nil)) pa_nil))) pa_nil)))) (pa_cons (pe_ix (kx_tup (K := K) rfl) (pe_gd GT_STILL (by rfl)) pe_int (fun _ _ => rfl)) pa_nil))))))), ?_⟩
    have z8 : p.num ≠ 0 := fun e => h8 (Rat.num_eq_zero.mp e)
    have z9 : q.num ≠ 0 := fun e => h9 (Rat.num_eq_zero.mp e)
    have z10 : r.num ≠ 0 := fun e => h10 (Rat.num_eq_zero.mp e)
    walk_at "g"
    intro Da hD
    have LG := lcG_same (K := K) (H := H) (J := fun i acc _ => acc = ([.bl false, .bl false, .bl false] : List V).take i) hD (fun _ _ _ _ _ h => h)
    refine lc_tupA (K := K) (xs := [.ref x, .ref y, .ref z]) (Same H) (fun i acc _ => acc = ([.bl false, .bl false, .bl false] : List V).take i) (Same.new hD) rfl (fun H1 acc _ g => by walk_at "sq") ?_ ?_
    · rintro i t acc H1 hx ha hDa g ej
      rcases i with _ | _ | _ | i
      rotate_left 3
      · simp at hx
      all_goals
        cases hx
        walk_at "g"
        refine ⟨rfl, ?_⟩
        walk_at "g"
        rename_i H2 u s2 u0 u1 u2
        have hu : u ≠ 0 := by
          intro e
          have a1 : ¬ (0 : Int) < _ := fun e1 => by have := u0 e1; omega
          have a2 : ¬ _ < (0 : Int) := fun e1 => by have := u1 e1; omega
          omega
        rw [show decide (V.int u = V.int 0) = false from decide_eq_false (fun e => hu (by cases e; rfl))]
        exact r_lcQ (K := K) LG (by decide) ha (by walk_at "ls") (by walk_at "same") (by rw [ej]; rfl)
    · rintro acc H1 ha hDa g ej
      subst ej
      walk_at "g"
      refine ⟨Da, [false, false, false], rfl, SqL.of hDa, ?_⟩
      refine ⟨false, rfl, ?_⟩
      have v0 := VN.ax 0
      have v1 := VN.ax 1
      have v2 := VN.ax 2
      clear LG ha hDa z8 z9 z10
      walk_at "g"
      exact k _ _ (by walk_at "same") (mk_dg (by walk_at "sq") (by walk_at "sq") (by walk_at "vc") (by walk_at "vc") (by walk_at "vc") (by walk_at "vc"))
in #guard_msgs in universe u_z
set_option Elab.async true in
set_option maxHeartbeats 4000000 in
theorem ok_scale_by_X {f : Addr} {fd : FuncData} (F : FunA K "scale_by" "scale_by" s_scale_by f fd) (T : Blt mg) {ec : Ecl} (EC : EF K mg ec) (C_scaled : Cal P w K mg base "scaled" 3 ["factor", "v"] (sp_scaled K)) (C_sign : Cal P w K mg base "sign" 2 ["x"] (sp_sign K)) (C_axis_vector : Cal P w K mg base "axis_vector" 3 ["axis"] (sp_axis_vector K)) (TB_any : mg "any" = none) (GT_STILL : GMD K mg "STILL" stD) : FnOk P w K mg base (L2N.CX P w) 4 f fd ["factors"] (sp_scale_by_X K ec) := by
  refine F.okX sc_scale_by (fun vs H Q E h => ?_) (fun cdv A outer s H vs Q E hr h => ?_)
  · obtain ⟨_, _, _, _, _, _, _, rfl, _⟩ := h
    rfl
  · obtain ⟨v, x, y, z, p, q, r, rfl, h0, h1, h2, h3, h4, k⟩ := h
    refine ⟨_, (pss_cons (ps_if (pt_val (pe_callB (kc_any (K := K) rfl rfl) (by rfl) TB_any (by decide +kernel) (pa_cons (pe_lc (own := [("factor", 1)]) rfl sc_scale_by.nd (kp_tup (K := K) rfl (pv 0)) (blkOk_by (own := [("factor", 1)]) (N := ["factors", "factor", "x", "y", "z"]) (sc := defScope s_scale_by) (by decide +kernel)) (fun _ _ _ _ _ => (pg_name (i := 1) sc_scale_by.nd rfl (.inl rfl))) (fun _ _ _ _ _ => pts_nil) (fun _ _ _ _ _ => (pe_cmpR op_eq (pc C_sign (hr.mono (by decide)) (by rfl) (pa_cons (pv 1) pa_nil)) pe_int (nomark _)))) pa_nil)))
 (pss_one (ps_raise0 rfl (L2N.takes_of rfl rfl rfl rfl) PySem.F.excBase_ValueError EC.e_Singular EC.g_Singular EC.k_Singular EC.b_Singular EC.t_Singular (by rfl)))
 pss_nil)
 (pss_cons (ps_asg (pv 0) (kg_tup (K := K) (n := 3) rfl rfl (pgs_cons (pg_name (i := 2) sc_scale_by.nd rfl (.inl rfl)) (pgs_cons (pg_name (i := 3) sc_scale_by.nd rfl (.inl rfl)) (pgs_cons (pg_name (i := 4) sc_scale_by.nd rfl (.inl rfl)) pgs_nil)))))
 (pss_one (ps_ret (pe_tup (pa_cons (pe_tup (pa_cons (pc C_scaled (hr.mono (by decide)) (by rfl) (pa_cons (pv 2) (pa_cons (pc C_axis_vector (hr.mono (by decide)) (by rfl) (pa_cons pe_int pa_nil)) pa_nil))) (pa_cons (pc C_scaled (hr.mono (by decide)) (by rfl) (pa_cons (pv 3) (pa_cons (pc C_axis_vector (hr.mono (by decide)) (by rfl) (pa_cons pe_int pa_nil)) pa_nil))) (pa_cons (pc C_scaled (hr.mono (by decide)) (by rfl) (pa_cons (pv 4) (pa_cons (pc C_axis_vector (hr.mono (by decide)) (by rfl) (pa_cons pe_int pa_nil)) pa_nil))) pa_nil)))) (pa_cons (pe_ix (kx_tup (K := K) rfl) (pe_gd GT_STILL (by rfl)) pe_int (fun _ _ => rfl)) pa_nil))))))), ?_⟩
    walk_at "g"
    intro Da hD
    have LG := lcG_same (K := K) (H := H) (J := fun i acc _ => acc = ([.bl (decide (p = 0)), .bl (decide (q = 0)), .bl (decide (r = 0))] : List V).take i) hD (fun _ _ _ _ _ h => h)
    refine lc_tupA (K := K) (xs := [.ref x, .ref y, .ref z]) (Same H) (fun i acc _ => acc = ([.bl (decide (p = 0)), .bl (decide (q = 0)), .bl (decide (r = 0))] : List V).take i) (Same.new hD) rfl (fun H1 acc _ g => by walk_at "sq") ?_ ?_
    · rintro i t acc H1 hx ha hDa g ej
      rcases i with _ | _ | _ | i
      rotate_left 3
      · simp at hx
      all_goals
        cases hx
        walk_at "g"
        refine ⟨rfl, ?_⟩
        walk_at "g"
        rename_i H2 u s2 u0 u1 u2
        rw [sg_dec u0 u1 u2]
        exact r_lcQ (K := K) LG (by decide) ha (by walk_at "ls") (by walk_at "same") (by rw [ej]; rfl)
    · rintro acc H1 ha hDa g ej
      subst ej
      walk_at "g"
      refine ⟨Da, [decide (p = 0), decide (q = 0), decide (r = 0)], rfl, SqL.of hDa, ?_⟩
      refine ⟨_, rfl, ?_⟩
      rw [if_pos (by rcases h4 with rfl | rfl | rfl <;> simp)]
      walk_at "g"
      exact k _ (by walk_at "same")
in #guard_msgs in universe u_z
abbrev s_mirror_axis : Stmt := top 44
theorem sc_mirror_axis : FnScope ["axis", "factors", "k"] ["axis"] (defScope s_mirror_axis) := ⟨rfl, rfl, rfl, by decide +kernel, rfl, by decide +kernel, by decide +kernel⟩
set_option Elab.async true in
set_option maxHeartbeats 4000000 in
theorem ok_mirror_axis {f : Addr} {fd : FuncData} (F : FunA K "mirror_axis" "mirror_axis" s_mirror_axis f fd) (T : Blt mg) (C_scale_by : Cal P w K mg base "scale_by" 4 ["factors"] (sp_scale_by K)) : FnOk P w K mg base CX0 5 f fd ["axis"] (sp_mirror_axis K) := by
  refine F.ok sc_mirror_axis (fun vs H Q E h => ?_) (fun cdv A outer s H vs Q E hr h => ?_)
  · obtain ⟨_, rfl, _⟩ := h
    rfl
  · obtain ⟨a, rfl, h0, h1, k⟩ := h
    refine ⟨_, (pss_cons (ps_setLc (i := 1) (own := [("k", 2)]) rfl sc_mirror_axis.nd rfl rfl (sw_true rfl rfl rfl (by decide +kernel)) (pi_range1 (by rfl) T.range (pa_cons pe_int pa_nil)) (blkOk_by (own := [("k", 2)]) (N := ["axis", "factors", "k"]) (sc := defScope s_mirror_axis) (by decide +kernel)) (fun _ _ _ _ _ => (pg_name (i := 2) sc_mirror_axis.nd rfl (.inl rfl))) (fun _ _ _ _ _ => pts_nil) (fun _ _ _ _ _ => (pe_ifExp (pt_cmpR op_eq (pv 2) (pv 0) (nomark _)) (pe_tup (pa_cons (pe_un un_neg pe_int) (pa_cons pe_int pa_nil))) (pe_tup (pa_cons pe_int (pa_cons pe_int pa_nil))))))
 (pss_one (ps_ret (pc C_scale_by (hr.mono (by decide)) (by rfl) (pa_cons (pe_tup (pa_cons (pe_ix (kx_list (K := K) rfl) (pv 1) pe_int (fun _ _ => rfl)) (pa_cons (pe_ix (kx_list (K := K) rfl) (pv 1) pe_int (fun _ _ => rfl)) (pa_cons (pe_ix (kx_list (K := K) rfl) (pv 1) pe_int (fun _ _ => rfl)) pa_nil)))) pa_nil))))), ?_⟩
    walk_at "g"
    intro Da hD
    have LG := lcG_same (K := K) (H := H) (J := fun i acc H' => QtL K H' acc (([((if a = 0 then -1 else 1 : Int) : Rat), ((if a = 1 then -1 else 1 : Int) : Rat), ((if a = 2 then -1 else 1 : Int) : Rat)] : List Rat).take i)) hD (fun _ _ _ _ e h => h.tk e)
    refine lc_rngG (K := K) (n := 3) LG (Same.new hD) .nil (fun _ => rfl) ?_ ?_
    · intro i acc H1 hi ha hDa g ej
      obtain rfl | rfl | rfl : i = 0 ∨ i = 1 ∨ i = 2 := by omega
      all_goals
        walk_at "g"
        refine if_eqI (fun e => ?_) (fun e => ?_)
        · walk_at "g"
          exact r_lcQ (K := K) LG (by decide) ha (by walk_at "ls") (by walk_at "same") (by
            refine QtL.snoc (ej.tk (TK.same (by walk_at "same"))) ?_
            rw [if_pos (by omega)]
            exact SqT.ofInt (by walk_at "sq"))
        · walk_at "g"
          exact r_lcQ (K := K) LG (by decide) ha (by walk_at "ls") (by walk_at "same") (by
            refine QtL.snoc (ej.tk (TK.same (by walk_at "same"))) ?_
            rw [if_neg (by omega)]
            exact SqT.ofInt (by walk_at "sq"))
    · intro acc H1 ha hDa g ej
      obtain ⟨x, y, z, rfl, q0, q1, q2⟩ := QtL.three ej
      clear LG ej ha
      have bn : ∀ c : Int, BN 2 1 ((if a = c then -1 else 1 : Int) : Rat) := fun c => BN.int (by split <;> exact B.lit (by decide +kernel))
      have nz : ∀ c : Int, ((if a = c then -1 else 1 : Int) : Rat) ≠ 0 := fun c => by split <;> decide
      walk_at "g"
      rename_i P2 H2 nP sP hP
      refine u_scale_by (n1 := 2) (d1 := 1) (by walk_at "sq") (Same.tup sP q0) (Same.tup sP q1) (Same.tup sP q2) (bn 0) (bn 1) (bn 2) (by decide) (nz 0) (nz 1) (nz 2) ?_
      intro H3 m s3 hm
      exact k _ _ (by walk_at "same") hm
in #guard_msgs in universe u_z
abbrev s_one_turn : Stmt := top 45
theorem sc_one_turn : FnScope ["axis", "follower", "last", "rows"] ["axis"] (defScope s_one_turn) := ⟨rfl, rfl, rfl, by decide +kernel, rfl, by decide +kernel, by decide +kernel⟩
set_option Elab.async true in
set_option maxHeartbeats 4000000 in
theorem ok_one_turn {f : Addr} {fd : FuncData} (F : FunA K "one_turn" "one_turn" s_one_turn f fd) (T : Blt mg) (C_scaled : Cal P w K mg base "scaled" 3 ["factor", "v"] (sp_scaled K)) (C_axis_vector : Cal P w K mg base "axis_vector" 3 ["axis"] (sp_axis_vector K)) (GT_STILL : GMD K mg "STILL" stD) : FnOk P w K mg base CX0 4 f fd ["axis"] (sp_one_turn K) := by
  refine F.ok sc_one_turn (fun vs H Q E h => ?_) (fun cdv A outer s H vs Q E hr h => ?_)
  · obtain ⟨_, rfl, _⟩ := h
    rfl
  · obtain ⟨a, rfl, h0, h1, k⟩ := h
    refine ⟨_, (pss_cons (ps_set (i := 1) sc_one_turn.nd rfl (.inl rfl) (pe_op op_mod (pe_op op_add (pv 0) pe_int) pe_int))
 (pss_cons (ps_set (i := 2) sc_one_turn.nd rfl (.inl rfl) (pe_op op_mod (pe_op op_add (pv 0) pe_int) pe_int))
 (pss_cons (ps_set (i := 3) sc_one_turn.nd rfl (.inl rfl) (pe_lst (pa_cons (pe_ix (kx_tup (K := K) rfl) (pe_ix (kx_tup (K := K) rfl) (pe_gd GT_STILL (by rfl)) pe_int (fun _ _ => rfl)) pe_int (fun _ _ => rfl)) (pa_cons (pe_ix (kx_tup (K := K) rfl) (pe_ix (kx_tup (K := K) rfl) (pe_gd GT_STILL (by rfl)) pe_int (fun _ _ => rfl)) pe_int (fun _ _ => rfl)) (pa_cons (pe_ix (kx_tup (K := K) rfl) (pe_ix (kx_tup (K := K) rfl) (pe_gd GT_STILL (by rfl)) pe_int (fun _ _ => rfl)) pe_int (fun _ _ => rfl)) pa_nil)))))
 (pss_cons (ps_asg (pc C_scaled (hr.mono (by decide)) (by rfl) (pa_cons (pe_tup (pa_cons (pe_un un_neg pe_int) (pa_cons pe_int pa_nil))) (pa_cons (pc C_axis_vector (hr.mono (by decide)) (by rfl) (pa_cons (pv 2) pa_nil)) pa_nil))) (pg_sub (pv 3) (pv 1) set_list))
 (pss_cons (ps_asg (pc C_axis_vector (hr.mono (by decide)) (by rfl) (pa_cons (pv 1) pa_nil)) (pg_sub (pv 3) (pv 2) set_list))
 (pss_one (ps_ret (pe_tup (pa_cons (pe_callTy (kc_tuple (K := K) rfl) (by rfl) T.tuple (by decide +kernel) (pa_cons (pv 3) pa_nil)) (pa_cons (pe_ix (kx_tup (K := K) rfl) (pe_gd GT_STILL (by rfl)) pe_int (fun _ _ => rfl)) pa_nil)))))))))), ?_⟩
    walk_at "g"
    rename_i l H1 nl s1 hl p2 H2 np s2 hp H3 r s3 hr
    refine u_scaled (x := ((-1 : Int) : Rat)) (SqT.ofInt (by walk_at "sq")) hr (BN.int (n := 2) (B.lit (by decide +kernel))) (VN.ax _) (by decide) (by decide) ?_
    intro H4 w' s4 hw
    have hV : VL K H4 l [e0, e1, e2] := ⟨_, by walk_at "ls", .cons ⟨_, rfl, by walk_at "vc"⟩ (.cons ⟨_, rfl, by walk_at "vc"⟩ (.cons ⟨_, rfl, by walk_at "vc"⟩ .nil))⟩
    walk_at "g"
    refine r_setVp (j := ((a + 1) % 3).toNat) nl (by walk_at "same") hV hw (ix3 h0 h1 1 (by decide)) ?_
    intro H5 s5 t5 hV2
    clear hV t5 hw s4 hr s3 hp s2 np hl s1
    walk_at "g"
    rename_i H6 r2 s6 hr2
    refine r_setVp (j := ((a + 2) % 3).toNat) nl (by walk_at "same") (VL.same s6 hV2) hr2 (by rw [List.length_set]; exact ix3 h0 h1 2 (by decide)) ?_
    intro H7 s7 t7 hV3
    obtain ⟨acc, ha, hacc⟩ := hV3
    have hz : acc.length = 3 := by rw [hacc.len]; simp
    clear t7 hV2 hr2 s6
    walk_at "g"
    exact k _ _ (by walk_at "same") (mk_tn ⟨h0, h1⟩ (by walk_at "sq") (by walk_at "sq") (hacc.tk (TK.same (by walk_at "same"))) (by walk_at "vc"))
in #guard_msgs in universe u_z
abbrev s_quarter_turn : Stmt := top 46
theorem sc_quarter_turn : FnScope ["axis", "times", "move", "_"] ["axis", "times"] (defScope s_quarter_turn) := ⟨rfl, rfl, rfl, by decide +kernel, rfl, by decide +kernel, by decide +kernel⟩
set_option Elab.async true in
set_option maxHeartbeats 4000000 in
theorem ok_quarter_turn {f : Addr} {fd : FuncData} (F : FunA K "quarter_turn" "quarter_turn" s_quarter_turn f fd) (T : Blt mg) (C_combine : Cal P w K mg base "combine" 6 ["first", "second"] (sp_combine K)) (C_one_turn : Cal P w K mg base "one_turn" 4 ["axis"] (sp_one_turn K)) (GT_STILL : GMD K mg "STILL" stD) : FnOk P w K mg base CX0 7 f fd ["axis", "times"] (sp_quarter_turn K) := by
  refine F.ok sc_quarter_turn (fun vs H Q E h => ?_) (fun cdv A outer s H vs Q E hr h => ?_)
  · obtain ⟨_, _, rfl, _⟩ := h
    rfl
  · obtain ⟨a, m, rfl, h0, h1, h2, h3, k⟩ := h
    refine ⟨_, (pss_cons (ps_set (i := 2) sc_quarter_turn.nd rfl (.inl rfl) (pe_gd GT_STILL (by rfl)))
 (pss_cons (ps_for PassesOwn.never rfl (pi_range1 (by rfl) T.range (pa_cons (pv 1) pa_nil)) (pg_name (i := 3) sc_quarter_turn.nd rfl (.inl rfl))
 (pss_one (ps_set (i := 2) sc_quarter_turn.nd rfl (.inl rfl) (pc C_combine (hr.mono (by decide)) (by rfl) (pa_cons (pv 2) (pa_cons (pc C_one_turn (hr.mono (by decide)) (by rfl) (pa_cons (pv 0) pa_nil)) pa_nil))))))
 (pss_one (ps_ret (pv 2))))), ?_⟩
    walk_at "g"
    rename_i mm r s' x y z t0 t1 v0 v1 v2 v3
    have hM : Mv K H mm still := ⟨_, _, t0, ⟨_, _, _, t1, v0, v1, v2⟩, v3⟩
    clear t0 t1 v0 v1 v2 v3
    refine f_range (n := m.toNat) (fun i σ' H' => ∃ (v : Option V) (u : Addr), σ' = [some (.int a), some (.int m), some (.ref u), v] ∧ Same H H' ∧ Mv K H' u (tns a i)) ⟨_, _, rfl, Same.refl _, hM⟩ ?_ ?_
    · rintro i σ' H1 hi ⟨v, u, rfl, s1, h⟩
      have hb := tns_mn a i (by omega)
      have hc := tn_mn a
      walk_at "g"
      exact ⟨_, _, rfl, by walk_at "same", by assumption⟩
    · rintro σ' H1 ⟨v, u, rfl, s1, h⟩
      walk_at "g"
      exact k _ _ s1 h
in #guard_msgs in universe u_z
abbrev s_moved_point : Stmt := top 47
theorem sc_moved_point : FnScope ["move", "point"] ["move", "point"] (defScope s_moved_point) := ⟨rfl, rfl, rfl, by decide +kernel, rfl, by decide +kernel, by decide +kernel⟩
set_option Elab.async true in
set_option maxHeartbeats 4000000 in
theorem ok_moved_point {f : Addr} {fd : FuncData} (F : FunA K "moved_point" "moved_point" s_moved_point f fd) (T : Blt mg) (C_plus : Cal P w K mg base "plus" 3 ["u", "v"] (sp_plus K)) (C_moved_vector : Cal P w K mg base "moved_vector" 4 ["move", "direction"] (sp_moved_vector K)) : FnOk P w K mg base CX0 5 f fd ["move", "point"] (sp_moved_point K) := by
  refine F.ok sc_moved_point (fun vs H Q E h => ?_) (fun cdv A outer s H vs Q E hr h => ?_)
  · obtain ⟨_, _, _, _, _, _, _, _, rfl, _⟩ := h
    rfl
  · obtain ⟨m, v, A, p, n1, d1, n2, d2, rfl, h0, h1, h2, h3, h4, h5, k⟩ := h
    refine ⟨_, (pss_one (ps_ret (pc C_plus (hr.mono (by decide)) (by rfl) (pa_cons (pc C_moved_vector (hr.mono (by decide)) (by rfl) (pa_cons (pv 0) (pa_cons (pv 1) pa_nil))) (pa_cons (pe_ix (kx_tup (K := K) rfl) (pv 0) pe_int (fun _ _ => rfl)) pa_nil))))), ?_⟩
    have hm := h0
    obtain ⟨mr, ms, mt, ⟨m0, m1, m2, mu, ma, mb, mc⟩, md⟩ := h0
    walk_at "a"
    exact k _ _ (by walk_at "same") (show Vc K _ _ (va (mvec A p) A.s) by walk_at "vc")
in #guard_msgs in universe u_z
abbrev s_moved_vector : Stmt := top 48
theorem sc_moved_vector : FnScope ["move", "direction", "rows"] ["move", "direction"] (defScope s_moved_vector) := ⟨rfl, rfl, rfl, by decide +kernel, rfl, by decide +kernel, by decide +kernel⟩
set_option Elab.async true in
set_option maxHeartbeats 4000000 in
theorem ok_moved_vector {f : Addr} {fd : FuncData} (F : FunA K "moved_vector" "moved_vector" s_moved_vector f fd) (T : Blt mg) (C_dot : Cal P w K mg base "dot" 3 ["u", "v"] (sp_dot K)) : FnOk P w K mg base CX0 4 f fd ["move", "direction"] (sp_moved_vector K) := by
  refine F.ok sc_moved_vector (fun vs H Q E h => ?_) (fun cdv A outer s H vs Q E hr h => ?_)
  · obtain ⟨_, _, _, _, _, _, _, _, rfl, _⟩ := h
    rfl
  · obtain ⟨m, v, A, p, n1, d1, n2, d2, rfl, h0, h1, h2, h3, h4, h5, k⟩ := h
    refine ⟨_, (pss_cons (ps_set (i := 2) sc_moved_vector.nd rfl (.inl rfl) (pe_ix (kx_tup (K := K) rfl) (pv 0) pe_int (fun _ _ => rfl)))
 (pss_one (ps_ret (pe_tup (pa_cons (pc C_dot (hr.mono (by decide)) (by rfl) (pa_cons (pe_ix (kx_tup (K := K) rfl) (pv 2) pe_int (fun _ _ => rfl)) (pa_cons (pv 1) pa_nil))) (pa_cons (pc C_dot (hr.mono (by decide)) (by rfl) (pa_cons (pe_ix (kx_tup (K := K) rfl) (pv 2) pe_int (fun _ _ => rfl)) (pa_cons (pv 1) pa_nil))) (pa_cons (pc C_dot (hr.mono (by decide)) (by rfl) (pa_cons (pe_ix (kx_tup (K := K) rfl) (pv 2) pe_int (fun _ _ => rfl)) (pa_cons (pv 1) pa_nil))) pa_nil))))))), ?_⟩
    obtain ⟨mr, ms, mt, ⟨m0, m1, m2, mu, ma, mb, mc⟩, md⟩ := h0
    walk_at "a"
    exact k _ _ (by walk_at "same") (Vc.mk (by walk_at "sq") (by walk_at "sq") (by walk_at "sq") (by walk_at "sq"))
in #guard_msgs in universe u_z
abbrev s_combine : Stmt := top 49
theorem sc_combine : FnScope ["first", "second", "rows", "products", "row"] ["first", "second"] (defScope s_combine) := ⟨rfl, rfl, rfl, by decide +kernel, rfl, by decide +kernel, by decide +kernel⟩
set_option Elab.async true in
set_option maxHeartbeats 4000000 in
theorem ok_combine {f : Addr} {fd : FuncData} (F : FunA K "combine" "combine" s_combine f fd) (T : Blt mg) (C_plus : Cal P w K mg base "plus" 3 ["u", "v"] (sp_plus K)) (C_moved_point : Cal P w K mg base "moved_point" 5 ["move", "point"] (sp_moved_point K)) (C_scaled : Cal P w K mg base "scaled" 3 ["factor", "v"] (sp_scaled K)) : FnOk P w K mg base CX0 6 f fd ["first", "second"] (sp_combine K) := by
  refine F.ok sc_combine (fun vs H Q E h => ?_) (fun cdv A outer s H vs Q E hr h => ?_)
  · obtain ⟨_, _, _, _, _, _, _, _, rfl, _⟩ := h
    rfl
  · obtain ⟨m, n, A, C, n1, d1, n2, d2, rfl, h0, h1, h2, h3, h4, h5, k⟩ := h
    refine ⟨_, (pss_cons (ps_set (i := 2) sc_combine.nd rfl (.inr rfl) (pe_ix (kx_tup (K := K) rfl) (pv 0) pe_int (fun _ _ => rfl)))
 (pss_cons (ps_setLc (i := 3) (own := [("row", 4)]) rfl sc_combine.nd rfl rfl (sw_true rfl rfl rfl (by decide +kernel)) (kp_tup (K := K) rfl (pe_ix (kx_tup (K := K) rfl) (pv 1) pe_int (fun _ _ => rfl))) (blkOk_by (own := [("row", 4)]) (N := ["first", "second", "rows", "products", "row"]) (sc := defScope s_combine) (by decide +kernel)) (fun _ _ _ _ _ => (pg_name (i := 4) sc_combine.nd rfl (.inl rfl))) (fun _ _ _ _ _ => pts_nil) (fun _ _ _ _ _ => (pc C_plus (hr.mono (by decide)) (by rfl) (pa_cons (pc C_plus (hr.mono (by decide)) (by rfl) (pa_cons (pc C_scaled (hr.mono (by decide)) (by rfl) (pa_cons (pe_ix (kx_tup (K := K) rfl) (pv 4) pe_int (fun _ _ => rfl)) (pa_cons (pe_ix (kx_tup (K := K) rfl) (pv 2) pe_int (fun _ _ => rfl)) pa_nil))) (pa_cons (pc C_scaled (hr.mono (by decide)) (by rfl) (pa_cons (pe_ix (kx_tup (K := K) rfl) (pv 4) pe_int (fun _ _ => rfl)) (pa_cons (pe_ix (kx_tup (K := K) rfl) (pv 2) pe_int (fun _ _ => rfl)) pa_nil))) pa_nil))) (pa_cons (pc C_scaled (hr.mono (by decide)) (by rfl) (pa_cons (pe_ix (kx_tup (K := K) rfl) (pv 4) pe_int (fun _ _ => rfl)) (pa_cons (pe_ix (kx_tup (K := K) rfl) (pv 2) pe_int (fun _ _ => rfl)) pa_nil))) pa_nil)))))
 (pss_one (ps_ret (pe_tup (pa_cons (pe_callTy (kc_tuple (K := K) rfl) (by rfl) T.tuple (by decide +kernel) (pa_cons (pv 3) pa_nil)) (pa_cons (pc C_moved_point (hr.mono (by decide)) (by rfl) (pa_cons (pv 1) (pa_cons (pe_ix (kx_tup (K := K) rfl) (pv 0) pe_int (fun _ _ => rfl)) pa_nil))) pa_nil))))))), ?_⟩
    have h1 := h1
    
    obtain ⟨mr, ms, mt, ⟨m0, m1, m2, mu, ma, mb, mc⟩, md⟩ := h0
    obtain ⟨nr, ns, nt, ⟨n0, n1, n2, nu, na, nb, nc⟩, nd⟩ := h1
    walk_at "g"
    intro Da hD
    have LG := lcG_same (K := K) (H := H) (J := fun i acc H' => VcL K H' acc (([rowx C.a A, rowx C.b A, rowx C.c A] : List V3).take i)) hD (fun _ _ _ _ e h => VcL.tk e h)
    refine lc_tupA (K := K) (xs := [.ref n0, .ref n1, .ref n2]) (Same H) (fun i acc H' => VcL K H' acc (([rowx C.a A, rowx C.b A, rowx C.c A] : List V3).take i)) (Same.new hD) VcL.nil (fun H1 acc _ g => by walk_at "sq") ?_ ?_
    · rintro i x acc H1 hx ha hDa g ej
      rcases i with _ | _ | _ | i
      rotate_left 3
      · simp at hx
      · cases hx
        obtain ⟨x0, x1, x2, xt, xa, xb, xc⟩ := na
        have bx := h3.a
        walk_at "g"
        refine ⟨rfl, ?_⟩
        walk_at "g"
        rename_i H6 r s6 hr
        exact r_lcQ (K := K) LG (by decide) ha (by walk_at "ls") (by walk_at "same") (VcL.snoc (ej.tk (TK.same (by walk_at "same"))) (show Vc K H6 r (rowx C.a A) from hr))
      · cases hx
        obtain ⟨x0, x1, x2, xt, xa, xb, xc⟩ := nb
        have bx := h3.b
        walk_at "g"
        refine ⟨rfl, ?_⟩
        walk_at "g"
        rename_i H6 r s6 hr
        exact r_lcQ (K := K) LG (by decide) ha (by walk_at "ls") (by walk_at "same") (VcL.snoc (ej.tk (TK.same (by walk_at "same"))) (show Vc K H6 r (rowx C.b A) from hr))
      · cases hx
        obtain ⟨x0, x1, x2, xt, xa, xb, xc⟩ := nc
        have bx := h3.c
        walk_at "g"
        refine ⟨rfl, ?_⟩
        walk_at "g"
        rename_i H6 r s6 hr
        exact r_lcQ (K := K) LG (by decide) ha (by walk_at "ls") (by walk_at "same") (VcL.snoc (ej.tk (TK.same (by walk_at "same"))) (show Vc K H6 r (rowx C.c A) from hr))
    · rintro acc H1 ha hDa g ej
      obtain ⟨x0, x1, x2, rfl, g0, g1, g2⟩ := VcL.three' ej
      have hn1 : Mv K H n C := h1
      walk_at "g"
      rename_i p H2 np s2 hp H3 r s3 hr q H4 nq s4 hq
      exact k _ _ (by walk_at "same") ⟨_, _, by walk_at "sq", ⟨x0, x1, x2, by walk_at "sq", (show Vc K H4 x0 (rowx C.a A) by walk_at "vc"), (show Vc K H4 x1 (rowx C.b A) by walk_at "vc"), (show Vc K H4 x2 (rowx C.c A) by walk_at "vc")⟩, (show Vc K H4 r (app C A.s) by walk_at "vc")⟩
in #guard_msgs in universe u_z
abbrev s_determinant : Stmt := top 50
theorem sc_determinant : FnScope ["move", "rows"] ["move"] (defScope s_determinant) := ⟨rfl, rfl, rfl, by decide +kernel, rfl, by decide +kernel, by decide +kernel⟩
set_option Elab.async true in
set_option maxHeartbeats 4000000 in
theorem ok_determinant {f : Addr} {fd : FuncData} (F : FunA K "determinant" "determinant" s_determinant f fd) (T : Blt mg) (C_triple : Cal P w K mg base "triple" 4 ["u", "v", "w"] (sp_triple K)) : FnOk P w K mg base CX0 5 f fd ["move"] (sp_determinant K) := by
  refine F.ok sc_determinant (fun vs H Q E h => ?_) (fun cdv A outer s H vs Q E hr h => ?_)
  · obtain ⟨_, _, _, _, rfl, _⟩ := h
    rfl
  · obtain ⟨m, A, n1, d1, rfl, h0, h1, h2, h3, k⟩ := h
    refine ⟨_, (pss_cons (ps_set (i := 1) sc_determinant.nd rfl (.inl rfl) (pe_ix (kx_tup (K := K) rfl) (pv 0) pe_int (fun _ _ => rfl)))
 (pss_one (ps_ret (pcT (K := K) C_triple rfl (hr.mono (by decide)) (by rfl) (pv 1))))), ?_⟩
    obtain ⟨mr, ms, mt, ⟨m0, m1, m2, mu, ma, mb, mc⟩, md⟩ := h0
    walk_at "g"
    refine ⟨_, _, rfl, .inl mu, ?_⟩
    refine u_triple ma mb mc h1.a h1.b h1.c h2 h3 ?_
    intro H1 x s1 hx
    exact k _ _ (by walk_at "same") (show SqT K _ _ [.int (dt A.a (cr A.b A.c)).num, .int ((dt A.a (cr A.b A.c)).den : Int)] by walk_at "sq")
in #guard_msgs in universe u_z
abbrev s_mirrors : Stmt := top 51
theorem sc_mirrors : FnScope ["move"] ["move"] (defScope s_mirrors) := ⟨rfl, rfl, rfl, by decide +kernel, rfl, by decide +kernel, by decide +kernel⟩
set_option Elab.async true in
set_option maxHeartbeats 4000000 in
theorem ok_mirrors {f : Addr} {fd : FuncData} (F : FunA K "mirrors" "mirrors" s_mirrors f fd) (T : Blt mg) (C_sign : Cal P w K mg base "sign" 2 ["x"] (sp_sign K)) (C_determinant : Cal P w K mg base "determinant" 5 ["move"] (sp_determinant K)) : FnOk P w K mg base CX0 6 f fd ["move"] (sp_mirrors K) := by
  refine F.ok sc_mirrors (fun vs H Q E h => ?_) (fun cdv A outer s H vs Q E hr h => ?_)
  · obtain ⟨_, _, _, _, rfl, _⟩ := h
    rfl
  · obtain ⟨m, A, n1, d1, rfl, h0, h1, h2, h3, k⟩ := h
    refine ⟨_, (pss_one (ps_ret (pe_cmpR op_lt (pc C_sign (hr.mono (by decide)) (by rfl) (pa_cons (pc C_determinant (hr.mono (by decide)) (by rfl) (pa_cons (pv 0) pa_nil)) pa_nil)) pe_int (nomark _)))), ?_⟩
    walk_at "g"
    rename_i H1 r s1 hr H2 t s2 t0 t1 t2
    refine k _ _ (by walk_at "same") ?_
    rw [decide_eq_true_eq, ← Rat.not_le, ← Rat.num_nonneg, Int.not_le]
    constructor
    · intro h
      rcases Int.lt_trichotomy (det3 A).num 0 with e | e | e
      · exact e
      · have := t2 e; omega
      · have := t0 e; omega
    · intro h
      have := t1 h
      omega
in #guard_msgs in universe u_z
abbrev s__law_mix : Stmt := top 53
theorem sc__law_mix : FnScope ["one", "two", "once", "twice"] ["one", "two"] (defScope s__law_mix) := ⟨rfl, rfl, rfl, by decide +kernel, rfl, by decide +kernel, by decide +kernel⟩
set_option Elab.async true in
set_option maxHeartbeats 4000000 in
theorem ok__law_mix {f : Addr} {fd : FuncData} (F : FunA K "_law_mix" "_law_mix" s__law_mix f fd) (T : Blt mg) : FnOk P w K mg base CX0 1 f fd ["one", "two"] (sp__law_mix K) := by
  refine F.ok sc__law_mix (fun vs H Q E h => ?_) (fun cdv A outer s H vs Q E hr h => ?_)
  · obtain ⟨_, _, rfl, _⟩ := h
    rfl
  · obtain ⟨x, y, rfl, k⟩ := h
    refine ⟨_, (pss_cons (ps_set (i := 2) sc__law_mix.nd rfl (.inl rfl) (pe_op op_mod (pe_callTy kc_int (by rfl) T.int (by decide +kernel) (pa_cons (pe_op op_add (pe_op op_add (pe_op op_mul (pv 0) pe_int) (pe_op op_mul (pv 1) pe_int)) pe_int) pa_nil)) pe_int))
 (pss_cons (ps_set (i := 3) sc__law_mix.nd rfl (.inl rfl) (pe_op op_mod (pe_callTy kc_int (by rfl) T.int (by decide +kernel) (pa_cons (pe_op op_add (pe_op op_add (pe_op op_mul (pv 2) (pv 2)) (pe_op op_mul (pv 1) pe_int)) pe_int) pa_nil)) pe_int))
 (pss_one (ps_ret (pe_op op_mod (pe_callTy kc_int (by rfl) T.int (by decide +kernel) (pa_cons (pe_op op_add (pe_op op_add (pe_op op_mul (pv 3) (pv 3)) (pe_op op_mul (pv 2) pe_int)) pe_int) pa_nil)) pe_int))))), ?_⟩
    walk_at "a"
    exact k _ _ (by walk_at "same") (by omega) (by omega)
in #guard_msgs in universe u_z
abbrev s__law_store : Stmt := top 54
theorem sc__law_store : FnScope ["script", "seed", "cell"] ["script"] (defScope s__law_store) := ⟨rfl, rfl, rfl, by decide +kernel, rfl, by decide +kernel, by decide +kernel⟩
set_option Elab.async true in
set_option maxHeartbeats 4000000 in
theorem ok__law_store {f : Addr} {fd : FuncData} (F : FunA K "_law_store" "_law_store" s__law_store f fd) (T : Blt mg) (C__law_mix : Cal P w K mg base "_law_mix" 1 ["one", "two"] (sp__law_mix K)) : FnOk P w K mg base CX0 2 f fd ["script"] (sp__law_store K) := by
  refine F.ok sc__law_store (fun vs H Q E h => ?_) (fun cdv A outer s H vs Q E hr h => ?_)
  · obtain ⟨_, _, rfl, _⟩ := h
    rfl
  · obtain ⟨a, ns, rfl, h0, h1, k⟩ := h
    refine ⟨_, (pss_cons (ps_set (i := 1) sc__law_store.nd rfl (.inl rfl) (pe_op op_add pe_int (pe_callB (kc_len (K := K) rfl) (by rfl) T.len (by decide +kernel) (pa_cons (pv 0) pa_nil))))
 (pss_cons (ps_for PassesOwn.never rfl (kp_list (K := K) rfl (pv 0)) (pg_name (i := 2) sc__law_store.nd rfl (.inl rfl))
 (pss_one (ps_set (i := 1) sc__law_store.nd rfl (.inl rfl) (pc C__law_mix (hr.mono (by decide)) (by rfl) (pa_cons (pv 1) (pa_cons (pe_op op_mod (pe_callTy kc_int (by rfl) T.int (by decide +kernel) (pa_cons (pv 2) pa_nil)) pe_int) pa_nil))))))
 (pss_one (ps_ret (pe_lst (pa_cons (pe_callTy (kc_list (K := K) rfl) (by rfl) T.list (by decide +kernel) (pa_cons (pv 0) pa_nil)) (pa_cons pe_int (pa_cons pe_int (pa_cons pe_int (pa_cons pe_int (pa_cons (pv 1) (pa_cons pe_int pa_nil)))))))))))), ?_⟩
    walk_at "g"
    refine f_list (xs := ns.map V.int) (fun i σ' H' => ∃ z c, σ' = [some (.ref a), some (.int z), c] ∧ Same H H') ⟨_, _, rfl, by walk_at "same"⟩ (fun i σ' H' _ ⟨_, _, _, s1⟩ => s1.seq h0) ?_ ?_
    · rintro i x σ' H' hi ⟨z, c, rfl, s1⟩
      obtain ⟨y, rfl, _⟩ := map_get hi
      walk_at "g"
      exact ⟨_, _, rfl, by walk_at "same"⟩
    · rintro σ' H' ⟨z, c, rfl, s1⟩
      have q := s1.seq h0
      walk_at "g"
      rename_i l H1 nl s2 hl p H2 np s3 hp
      exact k _ _ (by walk_at "same") ⟨l, ns, _, _, _, _, _, _, hp, ne_of_none hl np, s3 _ _ hl, by decide⟩
in #guard_msgs in universe u_z
abbrev s__law_take : Stmt := top 55
theorem sc__law_take : FnScope ["store", "many", "cell", "rest"] ["store", "many"] (defScope s__law_take) := ⟨rfl, rfl, rfl, by decide +kernel, rfl, by decide +kernel, by decide +kernel⟩
set_option Elab.async true in
set_option maxHeartbeats 4000000 in
theorem ok__law_take {f : Addr} {fd : FuncData} (F : FunA K "_law_take" "_law_take" s__law_take f fd) (T : Blt mg) (C__law_mix : Cal P w K mg base "_law_mix" 1 ["one", "two"] (sp__law_mix K)) : FnOk P w K mg base CX0 2 f fd ["store", "many"] (sp__law_take K) := by
  refine F.ok sc__law_take (fun vs H Q E h => ?_) (fun cdv A outer s H vs Q E hr h => ?_)
  · obtain ⟨_, _, rfl, _⟩ := h
    rfl
  · obtain ⟨st, m, rfl, h0, h1, k⟩ := h
    refine ⟨_, (pss_cons (ps_set (i := 1) sc__law_take.nd rfl (.inl rfl) (pe_callB (kc_max rfl) (by rfl) T.max (by decide +kernel) (pa_cons pe_int (pa_cons (pv 1) pa_nil))))
 (Evl.pss_cut (ps_if (PW.pt (pw_and (pt_cmpR op_eq (pe_ix (kx_list (K := K) rfl) (pv 0) pe_int (fun _ _ => rfl)) pe_int (nomark _)) (pw_and (pt_cmpR op_eq (pe_ix (kx_list (K := K) rfl) (pv 0) pe_int (fun _ _ => rfl)) pe_int (nomark _)) (pw_and1 (pt_cmpR op_lt (pe_ix (kx_list (K := K) rfl) (pv 0) pe_int (fun _ _ => rfl)) (pe_callB (kc_len (K := K) rfl) (by rfl) T.len (by decide +kernel) (pa_cons (pe_ix (kx_list (K := K) rfl) (pv 0) pe_int (fun _ _ => rfl)) pa_nil)) (nomark _))))))
 (pss_cons (ps_set (i := 2) sc__law_take.nd rfl (.inl rfl) (pe_callTy kc_int (by rfl) T.int (by decide +kernel) (pa_cons (pe_ix (kx_list (K := K) rfl) (pe_ix (kx_list (K := K) rfl) (pv 0) pe_int (fun _ _ => rfl)) (pe_ix (kx_list (K := K) rfl) (pv 0) pe_int (fun _ _ => rfl)) (fun _ _ => rfl)) pa_nil)))
 (pss_cons (ps_asg (pe_op op_add (pe_ix (kx_list (K := K) rfl) (pv 0) pe_int (fun _ _ => rfl)) pe_int) (pg_sub (pv 0) pe_int set_list))
 (pss_one (ps_if (pt_cmpR op_ge (pe_callB kc_abs (by rfl) T.abs (by decide +kernel) (pa_cons (pv 2) pa_nil)) (pe_op op_pow pe_int pe_int) (nomark _))
 (pss_one (ps_asg (pe_callB kc_abs (by rfl) T.abs (by decide +kernel) (pa_cons (pv 2) pa_nil)) (pg_sub (pv 0) pe_int set_list)))
 (pss_cons (ps_asg pe_int (pg_sub (pv 0) pe_int set_list))
 (pss_one (ps_asg (pc C__law_mix (hr.mono (by decide)) (by rfl) (pa_cons (pe_ix (kx_list (K := K) rfl) (pv 0) pe_int (fun _ _ => rfl)) (pa_cons (pv 2) pa_nil))) (pg_sub (pv 0) pe_int set_list))))))))
 pss_nil)
 (pss_cons (ps_if (pt_cmpR op_gt (pe_ix (kx_list (K := K) rfl) (pv 0) pe_int (fun _ _ => rfl)) pe_int (nomark _))
 (pss_cons (ps_set (i := 3) sc__law_take.nd rfl (.inl rfl) (pe_callTy kc_int (by rfl) T.int (by decide +kernel) (pa_cons (pe_ix (kx_list (K := K) rfl) (pv 0) pe_int (fun _ _ => rfl)) pa_nil)))
 (pss_cons (ps_asg (pe_op op_fdivZ (pv 3) (pv 1)) (pg_sub (pv 0) pe_int set_list))
 (pss_one (ps_ret (pe_op op_mod (pv 3) (pv 1))))))
 pss_nil)
 (pss_cons (ps_asg (pe_op op_add (pe_ix (kx_list (K := K) rfl) (pv 0) pe_int (fun _ _ => rfl)) pe_int) (pg_sub (pv 0) pe_int set_list))
 (pss_cons (ps_if (pt_cmpR op_gt (pe_ix (kx_list (K := K) rfl) (pv 0) pe_int (fun _ _ => rfl)) pe_int (nomark _))
 (pss_cons (ps_asg (pe_op op_sub (pe_ix (kx_list (K := K) rfl) (pv 0) pe_int (fun _ _ => rfl)) pe_int) (pg_sub (pv 0) pe_int set_list))
 (pss_one (ps_ret (pe_op op_mod (pe_callTy kc_int (by rfl) T.int (by decide +kernel) (pa_cons (pc C__law_mix (hr.mono (by decide)) (by rfl) (pa_cons (pe_ix (kx_list (K := K) rfl) (pv 0) pe_int (fun _ _ => rfl)) (pa_cons (pe_ix (kx_list (K := K) rfl) (pv 0) pe_int (fun _ _ => rfl)) pa_nil))) pa_nil)) (pv 1)))))
 pss_nil)
 (pss_one (ps_ret (pe_op op_mod (pe_callTy kc_int (by rfl) T.int (by decide +kernel) (pa_cons (pc C__law_mix (hr.mono (by decide)) (by rfl) (pa_cons (pc C__law_mix (hr.mono (by decide)) (by rfl) (pa_cons (pe_ix (kx_list (K := K) rfl) (pv 0) pe_int (fun _ _ => rfl)) (pa_cons (pe_ix (kx_list (K := K) rfl) (pv 0) pe_int (fun _ _ => rfl)) pa_nil))) (pa_cons (pe_ix (kx_list (K := K) rfl) (pv 0) pe_int (fun _ _ => rfl)) pa_nil))) pa_nil)) (pv 1))))))))), ?_⟩
    have hm : CDivZ 0 (max 1 m) := B.cdiv (b := 70) (by omega) (B.rng (by omega) (by omega)) (by decide)
    obtain ⟨l, ns, i1, i2, i3, i4, i5, i6, hst⟩ := h0
    have nn := hst.nn
    walk_at "g"
    refine w_cut (fun σ' H' => ∃ v, σ' = [some (.ref st), some (.int (max 1 m)), v, none] ∧ Fr st H H' ∧ St K H' st) ?_ ?_
    · walk_at "a"
      all_goals exact ⟨_, rfl, by walk_at "fr", by walk_at "st"⟩
    · rintro σ' H' ⟨v, rfl, f1, l, ns, i1, i2, i3, i4, i5, i6, hst⟩
      have nn := hst.nn
      walk_at "a"
      all_goals exact k _ _ (by walk_at "fr") (by walk_at "st") (Int.emod_nonneg _ (by omega)) (Int.emod_lt_of_pos _ (by omega))
in #guard_msgs in universe u_z
abbrev s__law_pick : Stmt := top 56
theorem sc__law_pick : FnScope ["store", "items"] ["store", "items"] (defScope s__law_pick) := ⟨rfl, rfl, rfl, by decide +kernel, rfl, by decide +kernel, by decide +kernel⟩
set_option Elab.async true in
set_option maxHeartbeats 4000000 in
theorem ok__law_pick {f : Addr} {fd : FuncData} (F : FunA K "_law_pick" "_law_pick" s__law_pick f fd) (T : Blt mg) (C__law_take : Cal P w K mg base "_law_take" 2 ["store", "many"] (sp__law_take K)) : FnOk P w K mg base CX0 3 f fd ["store", "items"] (sp__law_pick K) := by
  refine F.ok sc__law_pick (fun vs H Q E h => ?_) (fun cdv A outer s H vs Q E hr h => ?_)
  · obtain ⟨_, _, _, rfl, _⟩ := h
    rfl
  · obtain ⟨st, l, xs, rfl, h0, h1, h2, h3, h4, k⟩ := h
    refine ⟨_, (pss_one (ps_ret (pe_ix (kx_list (K := K) rfl) (pv 1) (pc C__law_take (hr.mono (by decide)) (by rfl) (pa_cons (pv 0) (pa_cons (pe_callB (kc_len (K := K) rfl) (by rfl) T.len (by decide +kernel) (pa_cons (pv 1) pa_nil)) pa_nil))) (fun _ _ => rfl)))), ?_⟩
    walk_at "g"
    rename_i H1 r f1 s1 r0 r1
    obtain ⟨v, ea, _, en⟩ := atI_in (xs := xs) r0 (by omega)
    refine r_ixL (Fr.seqN f1 h0 h1 h4) ea ?_
    walk_at "g"
    exact k _ _ _ (by walk_at "fr") (by walk_at "st") en
in #guard_msgs in universe u_z
abbrev s__law_wide : Stmt := top 57
theorem sc__law_wide : FnScope ["store", "many", "found", "k"] ["store", "many"] (defScope s__law_wide) := ⟨rfl, rfl, rfl, by decide +kernel, rfl, by decide +kernel, by decide +kernel⟩
set_option Elab.async true in
set_option maxHeartbeats 4000000 in
theorem ok__law_wide {f : Addr} {fd : FuncData} (F : FunA K "_law_wide" "_law_wide" s__law_wide f fd) (T : Blt mg) (C__law_take : Cal P w K mg base "_law_take" 2 ["store", "many"] (sp__law_take K)) : FnOk P w K mg base CX0 3 f fd ["store", "many"] (sp__law_wide K) := by
  refine F.ok sc__law_wide (fun vs H Q E h => ?_) (fun cdv A outer s H vs Q E hr h => ?_)
  · obtain ⟨_, _, rfl, _⟩ := h
    rfl
  · obtain ⟨st, m, rfl, h0, h1, h2, k⟩ := h
    refine ⟨_, (pss_cons (ps_set (i := 2) sc__law_wide.nd rfl (.inl rfl) pe_int)
 (pss_cons (ps_for PassesOwn.never rfl (pi_range1 (by rfl) T.range (pa_cons (pv 1) pa_nil)) (pg_name (i := 3) sc__law_wide.nd rfl (.inl rfl))
 (pss_one (ps_set (i := 2) sc__law_wide.nd rfl (.inl rfl) (pe_op op_add (pe_op op_mulW (pv 2) pe_int) (pc C__law_take (hr.mono (by decide)) (by rfl) (pa_cons (pv 0) (pa_cons pe_int pa_nil)))))))
 (pss_one (ps_ret (pv 2))))), ?_⟩
    walk_at "g"
    refine f_range (n := m.toNat) (fun i σ' H' => ∃ z c, σ' = [some (.ref st), some (.int m), some (.int z), c] ∧ Fr st H H' ∧ St K H' st ∧ 0 ≤ z ∧ z < 10 ^ i) ⟨_, _, rfl, by walk_at "fr", by walk_at "st", by omega, by decide⟩ ?_ ?_
    · rintro i σ' H' hi ⟨z, c, rfl, f1, s1, z0, z1⟩
      have cz : CMulW z 10 := by
        have e : (10 : Int) ^ i ≤ 10 ^ 60 := p10 (by omega)
        exact B.cmul (a := 220) (b := 10) (B.rng (by omega) (Int.lt_of_lt_of_le z1 (Int.le_trans e (by decide)))) (B.lit (by decide)) (by decide)
      walk_at "g"
      refine ⟨_, _, rfl, by walk_at "fr", by walk_at "st", by omega, ?_⟩
      rw [Int.pow_succ]
      omega
    · rintro σ' H' ⟨z, c, rfl, f1, s1, z0, z1⟩
      walk_at "g"
      exact k _ _ (by walk_at "fr") (by walk_at "st") z0 z1
in #guard_msgs in universe u_z
abbrev s__law_gcd : Stmt := top 58
theorem sc__law_gcd : FnScope ["one", "two", "rest"] ["one", "two"] (defScope s__law_gcd) := ⟨rfl, rfl, rfl, by decide +kernel, rfl, by decide +kernel, by decide +kernel⟩
set_option Elab.async true in
set_option maxHeartbeats 4000000 in
theorem ok__law_gcd {f : Addr} {fd : FuncData} (F : FunA K "_law_gcd" "_law_gcd" s__law_gcd f fd) (T : Blt mg) : FnOk P w K mg base CX0 1 f fd ["one", "two"] (sp__law_gcd K) := by
  refine F.ok sc__law_gcd (fun vs H Q E h => ?_) (fun cdv A outer s H vs Q E hr h => ?_)
  · obtain ⟨_, _, rfl, _⟩ := h
    rfl
  · obtain ⟨x, y, rfl, k⟩ := h
    refine ⟨_, (pss_cons (ps_set (i := 0) sc__law_gcd.nd rfl (.inl rfl) (pe_callB kc_abs (by rfl) T.abs (by decide +kernel) (pa_cons (pv 0) pa_nil)))
 (pss_cons (ps_set (i := 1) sc__law_gcd.nd rfl (.inl rfl) (pe_callB kc_abs (by rfl) T.abs (by decide +kernel) (pa_cons (pv 1) pa_nil)))
 (pss_cons (ps_while PassesOwn.never (pt_cmpR op_gt (pv 1) pe_int (nomark _))
 (pss_cons (ps_set (i := 2) sc__law_gcd.nd rfl (.inl rfl) (pe_op op_mod (pe_callTy kc_int (by rfl) T.int (by decide +kernel) (pa_cons (pv 0) pa_nil)) (pv 1)))
 (pss_cons (ps_set (i := 0) sc__law_gcd.nd rfl (.inl rfl) (pv 1))
 (pss_one (ps_set (i := 1) sc__law_gcd.nd rfl (.inl rfl) (pv 2))))))
 (pss_one (ps_ret (pv 0)))))), ?_⟩
    walk_at "g"
    refine w_seqW (fun m σ' H' => ∃ a b c, σ' = [some (.int a), some (.int b), c] ∧ Same H H' ∧ 0 ≤ a ∧ 0 ≤ b ∧ m = b.toNat ∧ Nat.gcd a.natAbs b.natAbs = Nat.gcd x.natAbs y.natAbs) _ ⟨_, _, _, rfl, by walk_at "same", by omega, by omega, rfl, by simp⟩ ?_
    rintro m σ' H' ⟨a, b, c, rfl, s1, a0, b0, rfl, e⟩
    walk_at "g"
    refine r_whP (fun hb => ?_) (fun hb => ?_)
    · have hb' : 0 < b := of_decide_eq_true hb
      walk_at "g"
      have h1 := Int.emod_nonneg a (b := b) (by omega)
      have h2 := Int.emod_lt_of_pos a hb'
      refine ⟨(a % b).toNat, by omega, _, _, _, rfl, by walk_at "same", by omega, by omega, rfl, ?_⟩
      rw [← e]
      obtain ⟨n, rfl⟩ := Int.eq_ofNat_of_zero_le a0
      obtain ⟨m, rfl⟩ := Int.eq_ofNat_of_zero_le b0
      have e3 : ((n : Int) % (m : Int)).natAbs = n % m := by
        rw [← Int.natCast_emod]
        rfl
      rw [e3]
      show Nat.gcd m (n % m) = Nat.gcd n m
      rw [Nat.gcd_comm n m, Nat.gcd_rec m n, Nat.gcd_comm]
    · have hb' : ¬ 0 < b := of_decide_eq_false hb
      walk_at "g"
      have e0 : b = 0 := by omega
      subst e0
      have e1 : a = ((Nat.gcd x.natAbs y.natAbs : Nat) : Int) := by
        rw [← e]
        simp
        omega
      rw [e1]
      exact k _ (by walk_at "same")
in #guard_msgs in universe u_z
abbrev s__law_frac : Stmt := top 59
theorem sc__law_frac : FnScope ["top", "bottom", "many"] ["top", "bottom"] (defScope s__law_frac) := ⟨rfl, rfl, rfl, by decide +kernel, rfl, by decide +kernel, by decide +kernel⟩
set_option Elab.async true in
set_option maxHeartbeats 4000000 in
theorem ok__law_frac {f : Addr} {fd : FuncData} (F : FunA K "_law_frac" "_law_frac" s__law_frac f fd) (T : Blt mg) (C__law_gcd : Cal P w K mg base "_law_gcd" 1 ["one", "two"] (sp__law_gcd K)) : FnOk P w K mg base CX0 2 f fd ["top", "bottom"] (sp__law_frac K) := by
  refine F.ok sc__law_frac (fun vs H Q E h => ?_) (fun cdv A outer s H vs Q E hr h => ?_)
  · obtain ⟨_, _, rfl, _⟩ := h
    rfl
  · obtain ⟨t, b, rfl, h0, h1, k⟩ := h
    refine ⟨_, (pss_cons (ps_if (pt_cmpR op_eq (pv 1) pe_int (nomark _))
 (pss_one (ps_ret (pe_tup (pa_cons pe_int (pa_cons pe_int pa_nil)))))
 pss_nil)
 (pss_cons (ps_set (i := 2) sc__law_frac.nd rfl (.inl rfl) (pc C__law_gcd (hr.mono (by decide)) (by rfl) (pa_cons (pv 0) (pa_cons (pv 1) pa_nil))))
 (pss_cons (ps_if (pt_cmpR op_lt (pv 1) pe_int (nomark _))
 (pss_one (ps_set (i := 2) sc__law_frac.nd rfl (.inl rfl) (pe_un un_neg (pv 2))))
 pss_nil)
 (pss_one (ps_ret (pe_tup (pa_cons (pe_op op_fdivZ (pv 0) (pv 2)) (pa_cons (pe_op op_fdivZ (pv 1) (pv 2)) pa_nil)))))))), ?_⟩
    have hg : 0 < Nat.gcd t.natAbs b.natAbs := Nat.gcd_pos_of_pos_right _ (by omega)
    have gB : B 8990 ((Nat.gcd t.natAbs b.natAbs : Nat) : Int) := B.of_le (y := b) (by have := Nat.gcd_le_right t.natAbs (n := b.natAbs) (by omega); omega) h1
    have c1 : CDivZ t ((Nat.gcd t.natAbs b.natAbs : Nat) : Int) := B.cdiv (by omega) gB (by decide)
    have c2 : CDivZ t (-((Nat.gcd t.natAbs b.natAbs : Nat) : Int)) := B.cdiv (by omega) gB.neg (by decide)
    have go : ∀ (H' : Hp) p n d, Same H H' → H' p = some (.tup [.int n, .int d]) → Red t b n d → Q (.ref p) H' := fun H' p n d s1 hp r => by
      obtain ⟨rfl, rfl⟩ := red_q h0 r
      exact k _ _ s1 (SqT.of hp)
    walk_at "a"
    · omega
    · exact go _ _ _ _ (by walk_at "same") (by assumption) (red_of h0 (fun q => absurd q (by omega)) (fun _ => rfl))
    · exact go _ _ _ _ (by walk_at "same") (by assumption) (red_of h0 (fun _ => rfl) (fun q => absurd q (by omega)))
in #guard_msgs in universe u_z
abbrev s__law_radd : Stmt := top 60
theorem sc__law_radd : FnScope ["x", "y"] ["x", "y"] (defScope s__law_radd) := ⟨rfl, rfl, rfl, by decide +kernel, rfl, by decide +kernel, by decide +kernel⟩
set_option Elab.async true in
set_option maxHeartbeats 4000000 in
theorem ok__law_radd {f : Addr} {fd : FuncData} (F : FunA K "_law_radd" "_law_radd" s__law_radd f fd) (T : Blt mg) (C__law_frac : Cal P w K mg base "_law_frac" 2 ["top", "bottom"] (sp__law_frac K)) : FnOk P w K mg base CX0 3 f fd ["x", "y"] (sp__law_radd K) := by
  refine F.ok sc__law_radd (fun vs H Q E h => ?_) (fun cdv A outer s H vs Q E hr h => ?_)
  · obtain ⟨_, _, _, _, _, _, _, _, rfl, _⟩ := h
    rfl
  · obtain ⟨x, y, p, q, n1, d1, n2, d2, rfl, h0, h1, h2, h3, h4, h5, k⟩ := h
    refine ⟨_, (pss_one (ps_ret (pc C__law_frac (hr.mono (by decide)) (by rfl) (pa_cons (pe_op op_add (pe_op op_mulW (pe_ix (kx_tup (K := K) rfl) (pv 0) pe_int (fun _ _ => rfl)) (pe_ix (kx_tup (K := K) rfl) (pv 1) pe_int (fun _ _ => rfl))) (pe_op op_mulW (pe_ix (kx_tup (K := K) rfl) (pv 1) pe_int (fun _ _ => rfl)) (pe_ix (kx_tup (K := K) rfl) (pv 0) pe_int (fun _ _ => rfl)))) (pa_cons (pe_op op_mulW (pe_ix (kx_tup (K := K) rfl) (pv 0) pe_int (fun _ _ => rfl)) (pe_ix (kx_tup (K := K) rfl) (pv 1) pe_int (fun _ _ => rfl))) pa_nil))))), ?_⟩
    have nz := mul0 (denI p) (denI q)
    have bd : B 8990 ((p.den : Int) * (q.den : Int)) := (B.mul h2.d h3.d).le (by omega)
    walk_at "a"
    rename_i hr
    rw [add_q] at hr
    exact k _ _ (by walk_at "same") hr
in #guard_msgs in universe u_z
abbrev s__law_rsub : Stmt := top 61
theorem sc__law_rsub : FnScope ["x", "y"] ["x", "y"] (defScope s__law_rsub) := ⟨rfl, rfl, rfl, by decide +kernel, rfl, by decide +kernel, by decide +kernel⟩
set_option Elab.async true in
set_option maxHeartbeats 4000000 in
theorem ok__law_rsub {f : Addr} {fd : FuncData} (F : FunA K "_law_rsub" "_law_rsub" s__law_rsub f fd) (T : Blt mg) (C__law_frac : Cal P w K mg base "_law_frac" 2 ["top", "bottom"] (sp__law_frac K)) : FnOk P w K mg base CX0 3 f fd ["x", "y"] (sp__law_rsub K) := by
  refine F.ok sc__law_rsub (fun vs H Q E h => ?_) (fun cdv A outer s H vs Q E hr h => ?_)
  · obtain ⟨_, _, _, _, _, _, _, _, rfl, _⟩ := h
    rfl
  · obtain ⟨x, y, p, q, n1, d1, n2, d2, rfl, h0, h1, h2, h3, h4, h5, k⟩ := h
    refine ⟨_, (pss_one (ps_ret (pc C__law_frac (hr.mono (by decide)) (by rfl) (pa_cons (pe_op op_sub (pe_op op_mulW (pe_ix (kx_tup (K := K) rfl) (pv 0) pe_int (fun _ _ => rfl)) (pe_ix (kx_tup (K := K) rfl) (pv 1) pe_int (fun _ _ => rfl))) (pe_op op_mulW (pe_ix (kx_tup (K := K) rfl) (pv 1) pe_int (fun _ _ => rfl)) (pe_ix (kx_tup (K := K) rfl) (pv 0) pe_int (fun _ _ => rfl)))) (pa_cons (pe_op op_mulW (pe_ix (kx_tup (K := K) rfl) (pv 0) pe_int (fun _ _ => rfl)) (pe_ix (kx_tup (K := K) rfl) (pv 1) pe_int (fun _ _ => rfl))) pa_nil))))), ?_⟩
    have nz := mul0 (denI p) (denI q)
    have bd : B 8990 ((p.den : Int) * (q.den : Int)) := (B.mul h2.d h3.d).le (by omega)
    walk_at "a"
    rename_i hr
    rw [sub_q] at hr
    exact k _ _ (by walk_at "same") hr
in #guard_msgs in universe u_z
abbrev s__law_rmul : Stmt := top 62
theorem sc__law_rmul : FnScope ["x", "y"] ["x", "y"] (defScope s__law_rmul) := ⟨rfl, rfl, rfl, by decide +kernel, rfl, by decide +kernel, by decide +kernel⟩
set_option Elab.async true in
set_option maxHeartbeats 4000000 in
theorem ok__law_rmul {f : Addr} {fd : FuncData} (F : FunA K "_law_rmul" "_law_rmul" s__law_rmul f fd) (T : Blt mg) (C__law_frac : Cal P w K mg base "_law_frac" 2 ["top", "bottom"] (sp__law_frac K)) : FnOk P w K mg base CX0 3 f fd ["x", "y"] (sp__law_rmul K) := by
  refine F.ok sc__law_rmul (fun vs H Q E h => ?_) (fun cdv A outer s H vs Q E hr h => ?_)
  · obtain ⟨_, _, _, _, _, _, _, _, rfl, _⟩ := h
    rfl
  · obtain ⟨x, y, p, q, n1, d1, n2, d2, rfl, h0, h1, h2, h3, h4, h5, k⟩ := h
    refine ⟨_, (pss_one (ps_ret (pc C__law_frac (hr.mono (by decide)) (by rfl) (pa_cons (pe_op op_mulW (pe_ix (kx_tup (K := K) rfl) (pv 0) pe_int (fun _ _ => rfl)) (pe_ix (kx_tup (K := K) rfl) (pv 1) pe_int (fun _ _ => rfl))) (pa_cons (pe_op op_mulW (pe_ix (kx_tup (K := K) rfl) (pv 0) pe_int (fun _ _ => rfl)) (pe_ix (kx_tup (K := K) rfl) (pv 1) pe_int (fun _ _ => rfl))) pa_nil))))), ?_⟩
    have nz := mul0 (denI p) (denI q)
    have bd : B 8990 ((p.den : Int) * (q.den : Int)) := (B.mul h2.d h3.d).le (by omega)
    walk_at "a"
    rename_i hr
    rw [mul_q] at hr
    exact k _ _ (by walk_at "same") hr
in #guard_msgs in universe u_z
abbrev s__law_ratio : Stmt := top 63
theorem sc__law_ratio : FnScope ["store", "kind"] ["store"] (defScope s__law_ratio) := ⟨rfl, rfl, rfl, by decide +kernel, rfl, by decide +kernel, by decide +kernel⟩
set_option Elab.async true in
set_option maxHeartbeats 4000000 in
theorem ok__law_ratio {f : Addr} {fd : FuncData} (F : FunA K "_law_ratio" "_law_ratio" s__law_ratio f fd) (T : Blt mg) (C__law_take : Cal P w K mg base "_law_take" 2 ["store", "many"] (sp__law_take K)) (C__law_frac : Cal P w K mg base "_law_frac" 2 ["top", "bottom"] (sp__law_frac K)) : FnOk P w K mg base CX0 3 f fd ["store"] (sp__law_ratio K) := by
  refine F.ok sc__law_ratio (fun vs H Q E h => ?_) (fun cdv A outer s H vs Q E hr h => ?_)
  · obtain ⟨_, rfl, _⟩ := h
    rfl
  · obtain ⟨st, rfl, h0, k⟩ := h
    refine ⟨_, (pss_cons (ps_set (i := 1) sc__law_ratio.nd rfl (.inl rfl) (pc C__law_take (hr.mono (by decide)) (by rfl) (pa_cons (pv 0) (pa_cons pe_int pa_nil))))
 (pss_cons (ps_if (pt_cmpR op_eq (pv 1) pe_int (nomark _))
 (pss_one (ps_ret (pe_tup (pa_cons (pe_op op_sub (pc C__law_take (hr.mono (by decide)) (by rfl) (pa_cons (pv 0) (pa_cons pe_int pa_nil))) pe_int) (pa_cons pe_int pa_nil)))))
 pss_nil)
 (pss_cons (ps_if (pt_cmpR op_eq (pv 1) pe_int (nomark _))
 (pss_one (ps_ret (pe_tup (pa_cons (pe_op op_sub (pc C__law_take (hr.mono (by decide)) (by rfl) (pa_cons (pv 0) (pa_cons pe_int pa_nil))) pe_int) (pa_cons pe_int pa_nil)))))
 pss_nil)
 (pss_one (ps_ret (pc C__law_frac (hr.mono (by decide)) (by rfl) (pa_cons (pe_op op_sub (pc C__law_take (hr.mono (by decide)) (by rfl) (pa_cons (pv 0) (pa_cons pe_int pa_nil))) pe_int) (pa_cons (pe_op op_add pe_int (pc C__law_take (hr.mono (by decide)) (by rfl) (pa_cons (pv 0) (pa_cons pe_int pa_nil)))) pa_nil)))))))), ?_⟩
    walk_at "a"
    · exact k _ _ _ (by walk_at "fr") (by walk_at "st") (SqT.ofInt (by walk_at "sq")) (BQ.ofInt (B.rng (by omega) (by omega)) (by decide))
    · exact k _ _ _ (by walk_at "fr") (by walk_at "st") (SqT.ofInt (by walk_at "sq")) (BQ.ofInt (B.rng (by omega) (by omega)) (by decide))
    · exact k _ _ _ (by walk_at "fr") (by walk_at "st") (by walk_at "sq") (BQ.dv (by omega) (B.rng (by omega) (by omega)) (B.rng (by omega) (by omega)))
in #guard_msgs in universe u_z
abbrev s__law_number : Stmt := top 64
theorem sc__law_number : FnScope ["store", "x"] ["store", "x"] (defScope s__law_number) := ⟨rfl, rfl, rfl, by decide +kernel, rfl, by decide +kernel, by decide +kernel⟩
set_option Elab.async true in
set_option maxHeartbeats 4000000 in
theorem ok__law_number {f : Addr} {fd : FuncData} (F : FunA K "_law_number" "_law_number" s__law_number f fd) (T : Blt mg) (C__law_take : Cal P w K mg base "_law_take" 2 ["store", "many"] (sp__law_take K)) : FnOk P w K mg base CX0 3 f fd ["store", "x"] (sp__law_number K) := by
  refine F.ok sc__law_number (fun vs H Q E h => ?_) (fun cdv A outer s H vs Q E hr h => ?_)
  · obtain ⟨_, _, _, rfl, _⟩ := h
    rfl
  · obtain ⟨st, a, q, rfl, h0, h1, k⟩ := h
    refine ⟨_, (pss_cons (ps_if (PW.pt (pw_and (pt_cmpR op_eq (pe_ix (kx_tup (K := K) rfl) (pv 1) pe_int (fun _ _ => rfl)) pe_int (nomark _)) (pw_and1 (pt_cmpR op_eq (pc C__law_take (hr.mono (by decide)) (by rfl) (pa_cons (pv 0) (pa_cons pe_int pa_nil))) pe_int (nomark _)))))
 (pss_one (ps_ret (pe_ix (kx_tup (K := K) rfl) (pv 1) pe_int (fun _ _ => rfl))))
 pss_nil)
 (pss_one (ps_ret (pv 1)))), ?_⟩
    walk_at "a"
    · refine k _ _ (by walk_at "fr") (by walk_at "st") (.inl ⟨q.num, rfl, ?_⟩)
      have e := numc q
      rename_i hq _ _ _ _ _ _ _
      rw [hq] at e
      grind
    · exact k _ _ (by walk_at "fr") (by walk_at "st") (.inr ⟨a, rfl, by walk_at "sq"⟩)
    · exact k _ _ (by walk_at "fr") (by walk_at "st") (.inr ⟨a, rfl, by walk_at "sq"⟩)
in #guard_msgs in universe u_z
abbrev s__law_is_integer : Stmt := top 65
theorem sc__law_is_integer : FnScope ["value"] ["value"] (defScope s__law_is_integer) := ⟨rfl, rfl, rfl, by decide +kernel, rfl, by decide +kernel, by decide +kernel⟩
set_option Elab.async true in
set_option maxHeartbeats 4000000 in
theorem ok__law_is_integer {f : Addr} {fd : FuncData} (F : FunA K "_law_is_integer" "_law_is_integer" s__law_is_integer f fd) (T : Blt mg) : FnOk P w K mg base CX0 1 f fd ["value"] (sp__law_is_integer K) := by
  refine F.ok sc__law_is_integer (fun vs H Q E h => ?_) (fun cdv A outer s H vs Q E hr h => ?_)
  · obtain ⟨_, rfl, _⟩ := h
    rfl
  · obtain ⟨x, rfl, k⟩ := h
    refine ⟨_, (pss_one (ps_ret (pe_and (pe_callB (kc_isi (K := K) rfl) (by rfl) T.isinstance (by decide +kernel) (pa_cons (pv 0) (pa_cons (pe_bltn (v := .ty "int") (u := .type "int") (by rfl) T.int (by decide +kernel) rfl) pa_nil))) (pe_one (pe_not (pe_callB (kc_isi (K := K) rfl) (by rfl) T.isinstance (by decide +kernel) (pa_cons (pv 0) (pa_cons (pe_bltn (v := .ty "bool") (u := .type "bool") (by rfl) T.bool (by decide +kernel) rfl) pa_nil)))))))), ?_⟩
    walk_at "a"
    exact k _ (by walk_at "same")
in #guard_msgs in universe u_z
set_option Elab.async true in
set_option maxHeartbeats 4000000 in
theorem ok__law_is_integer_V_P {f : Addr} {fd : FuncData} (F : FunA K "_law_is_integer" "_law_is_integer" s__law_is_integer f fd) (T : Blt mg) : FnOk P w K mg base CX0 1 f fd ["value"] (sp__law_is_integer_V_P K) := by
  refine F.ok sc__law_is_integer (fun vs H Q E h => ?_) (fun cdv A outer s H vs Q E hr h => ?_)
  · obtain ⟨_, _, rfl, _⟩ := h
    rfl
  · obtain ⟨v, d, rfl, h0, k⟩ := h
    refine ⟨_, (pss_one (ps_ret (pe_and (pe_callB (kc_isi (K := K) rfl) (by rfl) T.isinstance (by decide +kernel) (pa_cons (pv 0) (pa_cons (pe_bltn (v := .ty "int") (u := .type "int") (by rfl) T.int (by decide +kernel) rfl) pa_nil))) (pe_one (pe_not (pe_callB (kc_isi (K := K) rfl) (by rfl) T.isinstance (by decide +kernel) (pa_cons (pv 0) (pa_cons (pe_bltn (v := .ty "bool") (u := .type "bool") (by rfl) T.bool (by decide +kernel) rfl) pa_nil)))))))), ?_⟩
    cases h0
    all_goals
      walk_at "a"
      exact k _ _ (by walk_at "same") (by simp)
in #guard_msgs in universe u_z
theorem sp0__law_same {K : PySem.W.Frag} {vs : List V} {H : Hp} {Q : VK} {E : XK} (h : sp__law_same K 0 vs H Q E) : False := by
  obtain ⟨a, b, d, _, _, _, t, _⟩ := h
  exact t
abbrev s__law_same : Stmt := top 66
theorem sc__law_same : FnScope ["actual", "due", "k"] ["actual", "due"] (defScope s__law_same) := ⟨rfl, rfl, rfl, by decide +kernel, rfl, by decide +kernel, by decide +kernel⟩
set_option Elab.async true in
set_option maxHeartbeats 4000000 in
theorem ok__law_same {f : Addr} {fd : FuncData} (F : FunA K "_law_same" "_law_same" s__law_same f fd) (T : Blt mg) (C__law_is_integer : Cal P w K mg base "_law_is_integer" 1 ["value"] (sp__law_is_integer K)) {lv dep : Nat} (hlv : 2 ≤ lv) (C__law_same : Cal P w K mg base "_law_same" lv ["actual", "due"] (sp__law_same K dep)) : FnOk P w K mg base CX0 (lv + 1) f fd ["actual", "due"] (sp__law_same K (dep + 1)) := by
  refine F.ok sc__law_same (fun vs H Q E h => ?_) (fun cdv A outer s H vs Q E hr h => ?_)
  · obtain ⟨_, _, _, rfl, _⟩ := h
    rfl
  · obtain ⟨a, b, d, rfl, h0, h1, h2, k⟩ := h
    refine ⟨_, (pss_cons (ps_if (pt_cmpR ko_isN (pv 1) pe_non (nomark _))
 (pss_one (ps_ret (pe_cmpR ko_isN (pv 0) pe_non (nomark _))))
 pss_nil)
 (pss_cons (ps_if (pt_cmpR op_isB (pv 1) pe_bl (nomark _))
 (pss_one (ps_ret (pe_cmpR op_isB (pv 0) pe_bl (nomark _))))
 pss_nil)
 (pss_cons (ps_if (pt_cmpR op_isB (pv 1) pe_bl (nomark _))
 (pss_one (ps_ret (pe_cmpR op_isB (pv 0) pe_bl (nomark _))))
 pss_nil)
 (pss_cons (ps_if (pt_val (pe_callB (kc_isi (K := K) rfl) (by rfl) T.isinstance (by decide +kernel) (pa_cons (pv 1) (pa_cons (pe_bltn (v := .ty "int") (u := .type "int") (by rfl) T.int (by decide +kernel) rfl) pa_nil))))
 (pss_one (ps_ret (pe_and (pc C__law_is_integer (hr.mono (by omega)) (by rfl) (pa_cons (pv 0) pa_nil)) (pe_one (pe_cmpR op_eq (pv 0) (pv 1) (nomark _))))))
 pss_nil)
 (pss_cons (ps_if (pt_val (pe_callB (kc_isi (K := K) rfl) (by rfl) T.isinstance (by decide +kernel) (pa_cons (pv 1) (pa_cons (pe_bltn (v := .ty "str") (u := .type "str") (by rfl) T.str (by decide +kernel) rfl) pa_nil))))
 (pss_one (ps_ret (pe_and (pe_callB (kc_isi (K := K) rfl) (by rfl) T.isinstance (by decide +kernel) (pa_cons (pv 0) (pa_cons (pe_bltn (v := .ty "str") (u := .type "str") (by rfl) T.str (by decide +kernel) rfl) pa_nil))) (pe_one (pe_cmpR op_eq (pv 0) (pv 1) (nomark _))))))
 pss_nil)
 (pss_cons (ps_if (PW.pt (pw_and (pt_val (pe_callB (kc_isi (K := K) rfl) (by rfl) T.isinstance (by decide +kernel) (pa_cons (pv 1) (pa_cons (pe_bltn (v := .ty "list") (u := .type "list") (by rfl) T.list (by decide +kernel) rfl) pa_nil)))) (pw_and1 (pt_not (pt_val (pe_callB (kc_isi (K := K) rfl) (by rfl) T.isinstance (by decide +kernel) (pa_cons (pv 0) (pa_cons (pe_bltn (v := .ty "list") (u := .type "list") (by rfl) T.list (by decide +kernel) rfl) pa_nil))))))))
 (pss_one (ps_ret pe_bl))
 pss_nil)
 (pss_cons (ps_if (PW.pt (pw_and (pt_val (pe_callB (kc_isi (K := K) rfl) (by rfl) T.isinstance (by decide +kernel) (pa_cons (pv 1) (pa_cons (pe_bltn (v := .ty "tuple") (u := .type "tuple") (by rfl) T.tuple (by decide +kernel) rfl) pa_nil)))) (pw_and1 (pt_not (pt_val (pe_callB (kc_isi (K := K) rfl) (by rfl) T.isinstance (by decide +kernel) (pa_cons (pv 0) (pa_cons (pe_bltn (v := .ty "tuple") (u := .type "tuple") (by rfl) T.tuple (by decide +kernel) rfl) pa_nil))))))))
 (pss_one (ps_ret pe_bl))
 pss_nil)
 (pss_cons (ps_if (pt_cmpR op_ne (pe_callB (kc_len (K := K) rfl) (by rfl) T.len (by decide +kernel) (pa_cons (pv 0) pa_nil)) (pe_callB (kc_len (K := K) rfl) (by rfl) T.len (by decide +kernel) (pa_cons (pv 1) pa_nil)) (nomark _))
 (pss_one (ps_ret pe_bl))
 pss_nil)
 (pss_cons (ps_for PassesOwn.never rfl (pi_range1 (by rfl) T.range (pa_cons (pe_callB (kc_len (K := K) rfl) (by rfl) T.len (by decide +kernel) (pa_cons (pv 1) pa_nil)) pa_nil)) (pg_name (i := 2) sc__law_same.nd rfl (.inl rfl))
 (pss_one (ps_if (pt_not (pt_val (pc C__law_same (hr.mono (by omega)) (by rfl) (pa_cons (pe_ix (kx_any (K := K) rfl) (pv 0) (pv 2) (fun _ _ => rfl)) (pa_cons (pe_ix (kx_any (K := K) rfl) (pv 1) (pv 2) (fun _ _ => rfl)) pa_nil)))))
 (pss_one (ps_ret pe_bl))
 pss_nil)))
 (pss_one (ps_ret pe_bl))))))))))), ?_⟩
    cases h0 with
    | non =>
      cases h1
      walk_at "g"
      exact k _ (by walk_at "same")
    | bl c =>
      cases h1
      cases c
      · walk_at "g"
        refine if_decF (by decide) ?_
        walk_at "g"
        refine if_decT rfl ?_
        walk_at "g"
        exact k _ (by walk_at "same")
      · walk_at "g"
        refine if_decT rfl ?_
        walk_at "g"
        exact k _ (by walk_at "same")
    | int i =>
      cases h1
      walk_at "g"
      rw [decide_eq_true rfl]
      exact k _ (by walk_at "same")
    | str x =>
      cases h1
      walk_at "g"
      rw [decide_eq_true rfl]
      exact k _ (by walk_at "same")
    | @tup pa xs ds sa da =>
      cases h1 with
      | @tup pb ys _ sb db =>
        obtain ⟨hl, ht⟩ := h2
        have la := My.DpAll.len da
        have lb := My.DpAll.len db
        walk_at "g"
        refine r_lnT sa ?_
        walk_at "g"
        refine r_lnT sb ?_
        walk_at "g"
        refine if_neI (fun h => absurd (congrArg V.int (show (xs.length : Int) = ys.length by omega)) (by simpa using h)) (fun _ => ?_)
        walk_at "g"
        refine r_lnT sb ?_
        walk_at "g"
        refine f_range (n := (ys.length : Int).toNat) (fun i σ' H' => ∃ c, σ' = [some (.ref pa), some (.ref pb), c] ∧ Same H H') ⟨_, rfl, by walk_at "same"⟩ ?_ ?_
        · rintro i σ' H' hi ⟨c, rfl, s1⟩
          have hd : i < ds.length := by omega
          obtain ⟨x, ex, dx⟩ := My.DpAll.get da (List.getElem?_eq_getElem hd)
          obtain ⟨y, ey, dy⟩ := My.DpAll.get db (List.getElem?_eq_getElem hd)
          have tx := ht _ (List.getElem_mem hd)
          walk_at "g"
          refine r_ixAT (by walk_at "sq") (atI_k ex) ?_
          walk_at "g"
          refine r_ixAT (by walk_at "sq") (atI_k ey) ?_
          walk_at "g"
          exact ⟨_, rfl, by walk_at "same"⟩
        · rintro σ' H' ⟨c, rfl, s1⟩
          walk_at "g"
          exact k _ (by walk_at "same")
    | @lst pa xs ds sa da =>
      cases h1 with
      | @lst pb ys _ sb db =>
        obtain ⟨hl, ht⟩ := h2
        have la := My.DpAll.len da
        have lb := My.DpAll.len db
        walk_at "g"
        walk_at "g"
        walk_at "g"
        refine if_neI (fun h => absurd (congrArg V.int (show (xs.length : Int) = ys.length by omega)) (by simpa using h)) (fun _ => ?_)
        walk_at "g"
        walk_at "g"
        refine f_range (n := (ys.length : Int).toNat) (fun i σ' H' => ∃ c, σ' = [some (.ref pa), some (.ref pb), c] ∧ Same H H') ⟨_, rfl, by walk_at "same"⟩ ?_ ?_
        · rintro i σ' H' hi ⟨c, rfl, s1⟩
          have hd : i < ds.length := by omega
          obtain ⟨x, ex, dx⟩ := My.DpAll.get da (List.getElem?_eq_getElem hd)
          obtain ⟨y, ey, dy⟩ := My.DpAll.get db (List.getElem?_eq_getElem hd)
          have tx := ht _ (List.getElem_mem hd)
          walk_at "g"
          refine r_ixAL (by walk_at "sl") (atI_k ex) ?_
          walk_at "g"
          refine r_ixAL (by walk_at "sl") (atI_k ey) ?_
          walk_at "g"
          exact ⟨_, rfl, by walk_at "same"⟩
        · rintro σ' H' ⟨c, rfl, s1⟩
          walk_at "g"
          exact k _ (by walk_at "same")
in #guard_msgs in universe u_z
theorem sp0__law_inner {K : PySem.W.Frag} {vs : List V} {H : Hp} {Q : VK} {E : XK} (h : sp__law_inner K 0 vs H Q E) : False := by
  obtain ⟨v, d, N, _, _, t, _⟩ := h
  exact t
theorem Nat.pos_pow_of_pos' (n : Nat) : 1 ≤ 4 ^ n := Nat.pow_pos (by decide)
theorem pow4 {n : Nat} (h : n + 1 ≤ 6) : 4 ^ n ≤ 4096 := Nat.le_trans (Nat.pow_le_pow_right (by decide) (show n ≤ 5 by omega)) (by decide)
abbrev s__law_inner : Stmt := top 67
theorem sc__law_inner : FnScope ["value", "found", "part", "kept"] ["value"] (defScope s__law_inner) := ⟨rfl, rfl, rfl, by decide +kernel, rfl, by decide +kernel, by decide +kernel⟩
set_option Elab.async true in
set_option maxHeartbeats 4000000 in
theorem ok__law_inner {f : Addr} {fd : FuncData} (F : FunA K "_law_inner" "_law_inner" s__law_inner f fd) (T : Blt mg) {lv dep : Nat} (hlv : 1 ≤ lv) (C__law_inner : Cal P w K mg base "_law_inner" lv ["value"] (sp__law_inner K dep)) : FnOk P w K mg base CX0 (lv + 1) f fd ["value"] (sp__law_inner K (dep + 1)) := by
  refine F.ok sc__law_inner (fun vs H Q E h => ?_) (fun cdv A outer s H vs Q E hr h => ?_)
  · obtain ⟨_, _, _, rfl, _⟩ := h
    rfl
  · obtain ⟨v, d, N, rfl, h0, h1, h2, h3, k⟩ := h
    refine ⟨_, (pss_cons (ps_set (i := 1) sc__law_inner.nd rfl (.inl rfl) (pe_lst pa_nil))
 (pss_cons (ps_if (pt_val (pe_callB (kc_isi (K := K) rfl) (by rfl) T.isinstance (by decide +kernel) (pa_cons (pv 0) (pa_cons (pe_bltn (v := .ty "list") (u := .type "list") (by rfl) T.list (by decide +kernel) rfl) pa_nil))))
 (pss_one (ps_expr (k_bm (K := K) rfl PySem.F.plainAttrs_list PySem.F.slot_list_append PySem.F.type_list_append mt_append (pv 1) (pa_cons (pv 0) pa_nil))))
 pss_nil)
 (pss_cons (ps_if (pt_val (pe_callB (kc_isiT (K := K) rfl) (by rfl) T.isinstance (by decide +kernel) (pa_cons (pv 0) (pa_cons (pe_tup (pa_cons (pe_bltn (v := .ty "list") (u := .type "list") (by rfl) T.list (by decide +kernel) rfl) (pa_cons (pe_bltn (v := .ty "tuple") (u := .type "tuple") (by rfl) T.tuple (by decide +kernel) rfl) pa_nil))) pa_nil))))
 (pss_one (ps_for PassesOwn.never rfl (kp_any (K := K) rfl (pv 0)) (pg_name (i := 2) sc__law_inner.nd rfl (.inl rfl))
 (pss_one (ps_for PassesOwn.never rfl (kp_list (K := K) rfl (pc C__law_inner (hr.mono (by omega)) (by rfl) (pa_cons (pv 2) pa_nil))) (pg_name (i := 3) sc__law_inner.nd rfl (.inl rfl))
 (pss_one (ps_expr (k_bm (K := K) rfl PySem.F.plainAttrs_list PySem.F.slot_list_append PySem.F.type_list_append mt_append (pv 1) (pa_cons (pv 3) pa_nil))))))))
 pss_nil)
 (pss_one (ps_ret (pv 1)))))), ?_⟩
    have hdep := h3
    walk_at "g"
    rename_i D H1 nD s1 hD
    cases h0 with
    | @lst a xs ds hn hl ha =>
      obtain ⟨hl3, hp⟩ := h1
      have len := ha.len
      have hl1 : H1 a = some (.lst xs) := s1 _ _ hl
      have neD : a ≠ D := fun e => by rw [e, nD] at hl; cases hl
      walk_at "g"
      refine r_app hD (by decide) ?_
      walk_at "g"
      have hx0 : DnA K (D :: N) (upd H1 D (.lst ([] ++ [V.ref a]))) xs ds := ((ha.add nD).same s1).upd (by simp) hD
      have hG0 : Gd N D (upd H1 D (.lst ([] ++ [V.ref a]))) [V.ref a] := Gd.one neD hn ((upd_ne neD).trans hl1) (by omega)
      have hd0 : Dp K (upd H1 D (.lst ([] ++ [V.ref a]))) (.ref a) (.list ds) := .lst (SqL.of ((upd_ne neD).trans hl1)) hx0.dp
      have su : Same H (upd H1 D (.lst ([] ++ [V.ref a]))) := Same.mut s1 nD
      walk_at "g"
      rename_i H2 s2 _
      refine w_iAL ?_
      walk_at "g"
      have p4 : 1 ≤ 4 ^ dep := Nat.pos_pow_of_pos' dep
      have p5 : 4 ^ (dep + 1) = 4 * 4 ^ dep := by rw [Nat.pow_succ, Nat.mul_comm]
      have p6 : 4 ^ dep ≤ 4096 := pow4 hdep
      refine f_list (K := K) (xs := xs) (fun i σ' H' => ∃ (acc : List V) (p q : Option V), σ' = [some (.ref a), some (.ref D), p, q] ∧ Same H H' ∧ H' D = some (.lst acc) ∧ acc.length ≤ 1 + i * 4 ^ dep ∧ DnA K (D :: N) H' xs ds ∧ Gd N D H' acc) ⟨[V.ref a], _, _, rfl, su.trans s2, s2 _ _ upd_same, by simp, hx0.same s2, hG0.same s2⟩ (fun i σ' H' _ ⟨acc, p, q, _, s3, _⟩ => by walk_at "sl") ?_ ?_
      · rintro i x σ' H3 hi ⟨acc, p, q, rfl, s3, hA, la, hx, hG⟩
        obtain ⟨d1, ed, dx⟩ := hx.get hi
        have hi2 := (List.getElem?_eq_some_iff.1 hi).1
        have px := hp d1 (List.mem_of_getElem? ed)
        have aN3 : Al H3 (D :: N) := Al.cons hA (h2.same s3)
        have i4 : i * 4 ^ dep ≤ 2 * 4 ^ dep := Nat.mul_le_mul_right _ (by omega)
        walk_at "g"
        rename_i H4 r ws s4 nr hr4 lw gw
        have hA4 : H4 D = some (.lst acc) := s4 _ _ hA
        have neR : r ≠ D := fun e => by rw [e, hA] at nr; cases nr
        walk_at "g"
        refine f_list (K := K) (xs := ws) (fun j σ' H' => ∃ q, σ' = [some (.ref a), some (.ref D), some x, q] ∧ Same H H' ∧ H' D = some (.lst (acc ++ ws.take j)) ∧ H' r = some (.lst ws) ∧ DnA K (D :: N) H' xs ds ∧ Gd N D H' acc ∧ Gd N D H' ws) ⟨_, rfl, s3.trans s4, by rw [List.take_zero, List.append_nil]; exact hA4, hr4, hx.same s4, hG.same s4, Gd.of (D' := r) gw⟩ (fun j σ' H' _ ⟨q, _, _, _, h, _⟩ => SqL.of h) ?_ ?_
        · rintro j y σ' H5 hj ⟨q, rfl, s5, hA5, hr5, hx5, hG5, hW5⟩
          have hj2 := (List.getElem?_eq_some_iff.1 hj).1
          walk_at "g"
          refine r_app hA5 (by rw [List.length_append, List.length_take]; omega) ?_
          walk_at "g"
          refine ⟨_, rfl, Same.mut s5 nD, ?_, (upd_ne neR).trans hr5, hx5.upd (by simp) hA5, hG5.upd, hW5.upd⟩
          rw [upd_same, List.take_add_one, hj, List.append_assoc]
          rfl
        · rintro σ' H5 ⟨q, rfl, s5, hA5, hr5, hx5, hG5, hW5⟩
          rw [List.take_length] at hA5
          walk_at "g"
          refine ⟨_, _, _, rfl, s5, hA5, ?_, hx5, hG5.app hW5⟩
          rw [List.length_append, Nat.add_mul]
          omega
      · rintro σ' H3 ⟨acc, p, q, rfl, s3, hA, la, hx, hG⟩
        walk_at "g"
        have i4 : xs.length * 4 ^ dep ≤ 3 * 4 ^ dep := Nat.mul_le_mul_right _ (by omega)
        exact k _ _ _ s3 nD hA (by omega) hG
    | @tup a xs ds hq ha =>
      obtain ⟨hl3, hp⟩ := h1
      have len := ha.len
      walk_at "g"
      rename_i H2 s2 _
      have hx0 : DnA K (D :: N) H1 xs ds := (ha.add nD).same s1
      refine w_iAT ?_
      walk_at "g"
      have p4 : 1 ≤ 4 ^ dep := Nat.pos_pow_of_pos' dep
      have p5 : 4 ^ (dep + 1) = 4 * 4 ^ dep := by rw [Nat.pow_succ, Nat.mul_comm]
      have p6 : 4 ^ dep ≤ 4096 := pow4 hdep
      refine f_tup (K := K) (xs := xs) (fun i σ' H' => ∃ (acc : List V) (p q : Option V), σ' = [some (.ref a), some (.ref D), p, q] ∧ Same H H' ∧ H' D = some (.lst acc) ∧ acc.length ≤ 1 + i * 4 ^ dep ∧ DnA K (D :: N) H' xs ds ∧ Gd N D H' acc) ⟨[], _, _, rfl, s1.trans s2, s2 _ _ hD, by simp, hx0.same s2, Gd.nil⟩ (fun i σ' H' _ ⟨acc, p, q, _, s3, _⟩ => by walk_at "sq") ?_ ?_
      · rintro i x σ' H3 hi ⟨acc, p, q, rfl, s3, hA, la, hx, hG⟩
        obtain ⟨d1, ed, dx⟩ := hx.get hi
        have hi2 := (List.getElem?_eq_some_iff.1 hi).1
        have px := hp d1 (List.mem_of_getElem? ed)
        have aN3 : Al H3 (D :: N) := Al.cons hA (h2.same s3)
        have i4 : i * 4 ^ dep ≤ 2 * 4 ^ dep := Nat.mul_le_mul_right _ (by omega)
        walk_at "g"
        rename_i H4 r ws s4 nr hr4 lw gw
        have hA4 : H4 D = some (.lst acc) := s4 _ _ hA
        have neR : r ≠ D := fun e => by rw [e, hA] at nr; cases nr
        walk_at "g"
        refine f_list (K := K) (xs := ws) (fun j σ' H' => ∃ q, σ' = [some (.ref a), some (.ref D), some x, q] ∧ Same H H' ∧ H' D = some (.lst (acc ++ ws.take j)) ∧ H' r = some (.lst ws) ∧ DnA K (D :: N) H' xs ds ∧ Gd N D H' acc ∧ Gd N D H' ws) ⟨_, rfl, s3.trans s4, by rw [List.take_zero, List.append_nil]; exact hA4, hr4, hx.same s4, hG.same s4, Gd.of (D' := r) gw⟩ (fun j σ' H' _ ⟨q, _, _, _, h, _⟩ => SqL.of h) ?_ ?_
        · rintro j y σ' H5 hj ⟨q, rfl, s5, hA5, hr5, hx5, hG5, hW5⟩
          have hj2 := (List.getElem?_eq_some_iff.1 hj).1
          walk_at "g"
          refine r_app hA5 (by rw [List.length_append, List.length_take]; omega) ?_
          walk_at "g"
          refine ⟨_, rfl, Same.mut s5 nD, ?_, (upd_ne neR).trans hr5, hx5.upd (by simp) hA5, hG5.upd, hW5.upd⟩
          rw [upd_same, List.take_add_one, hj, List.append_assoc]
          rfl
        · rintro σ' H5 ⟨q, rfl, s5, hA5, hr5, hx5, hG5, hW5⟩
          rw [List.take_length] at hA5
          walk_at "g"
          refine ⟨_, _, _, rfl, s5, hA5, ?_, hx5, hG5.app hW5⟩
          rw [List.length_append, Nat.add_mul]
          omega
      · rintro σ' H3 ⟨acc, p, q, rfl, s3, hA, la, hx, hG⟩
        walk_at "g"
        have i4 : xs.length * 4 ^ dep ≤ 3 * 4 ^ dep := Nat.mul_le_mul_right _ (by omega)
        exact k _ _ _ s3 nD hA (by omega) hG
    | _ =>
      walk_at "g"
      rename_i H2 s2 _
      exact k _ _ _ (s1.trans s2) nD (s2 _ _ hD) (Nat.zero_le _) Gd.nil
in #guard_msgs in universe u_z
abbrev s__law_spoil : Stmt := top 68
theorem sc__law_spoil : FnScope ["value", "kept"] ["value"] (defScope s__law_spoil) := ⟨rfl, rfl, rfl, by decide +kernel, rfl, by decide +kernel, by decide +kernel⟩
set_option Elab.async true in
set_option maxHeartbeats 4000000 in
theorem ok__law_spoil {f : Addr} {fd : FuncData} (F : FunA K "_law_spoil" "_law_spoil" s__law_spoil f fd) (T : Blt mg) (C__law_inner : Cal P w K mg base "_law_inner" 7 ["value"] (sp__law_inner K 6)) : FnOk P w K mg base CX0 8 f fd ["value"] (sp__law_spoil K) := by
  refine F.ok sc__law_spoil (fun vs H Q E h => ?_) (fun cdv A outer s H vs Q E hr h => ?_)
  · obtain ⟨_, _, _, _, rfl, _⟩ := h
    rfl
  · obtain ⟨p, xs, ds, N, rfl, h0, h1, h2, h3, h4, k⟩ := h
    refine ⟨_, (pss_cons (ps_for PassesOwn.never rfl (kp_list (K := K) rfl (pc C__law_inner (hr.mono (by decide)) (by rfl) (pa_cons (pv 0) pa_nil))) (pg_name (i := 1) sc__law_spoil.nd rfl (.inl rfl))
 (pss_one (ps_expr (k_bm (K := K) rfl PySem.F.plainAttrs_list PySem.F.slot_list_append PySem.F.type_list_append mt_append (pv 1) (pa_cons pe_str pa_nil)))))
 (pss_one (ps_ret (pe_callB (kc_len (K := K) rfl) (by rfl) T.len (by decide +kernel) (pa_cons (pv 0) pa_nil))))), ?_⟩
    walk_at "g"
    refine u__law_inner (dep := 6) (N := N) (Dn.lst h0 h1 h2) h3 h4 (by decide) ?_
    intro H2 r acc s2 nr hr2 la gd
    have npr : p ≠ r := fun e => by rw [e, nr] at h1; cases h1
    walk_at "g"
    refine f_list (K := K) (xs := acc) (fun i σ' H' => ∃ q, σ' = [some (.ref p), q] ∧ TK K H H' ∧ (∀ a, a ∈ N → H' a = H a) ∧ H' r = some (.lst acc) ∧ (∃ zs, H' p = some (.lst zs)) ∧ ∀ x, x ∈ acc → ∃ a ys, x = V.ref a ∧ a ≠ r ∧ a ∉ N ∧ H' a = some (.lst ys) ∧ ys.length ≤ 3 + i) ⟨_, rfl, TK.same s2, fun a ha => ?_, hr2, ⟨_, s2 _ _ h1⟩, gd⟩ (fun i σ' H' _ ⟨q, _, _, _, h, _⟩ => SqL.of h) ?_ ?_
    · rcases e : H a with _ | o
      · exact absurd e (h4 a ha)
      · exact s2 _ _ e
    · rintro i x σ' H3 hi ⟨q, rfl, t3, n3, r3, ⟨zs, p3⟩, g3⟩
      have hi2 := (List.getElem?_eq_some_iff.1 hi).1
      obtain ⟨a, ys, rfl, c1, c2, c3, c4⟩ := g3 x (List.mem_of_getElem? hi)
      walk_at "g"
      refine r_app c3 (by omega) ?_
      walk_at "g"
      refine ⟨_, rfl, TK.trans t3 (TK.upd c3), fun b hb => ?_, (upd_ne (Ne.symm c1)).trans r3, ?_, fun y hy => ?_⟩
      · rw [upd_ne (show b ≠ a from fun e => by subst e; exact c2 hb)]
        exact n3 b hb
      · by_cases e : p = a
        · subst e
          exact ⟨_, upd_same⟩
        · exact ⟨_, (upd_ne e).trans p3⟩
      · obtain ⟨b, ws, rfl, d1, d2, d3, d4⟩ := g3 y hy
        by_cases e : b = a
        · subst e
          refine ⟨_, _, rfl, d1, d2, upd_same, ?_⟩
          rw [List.length_append, List.length_singleton]
          omega
        · exact ⟨_, _, rfl, d1, d2, (upd_ne e).trans d3, by omega⟩
    · rintro σ' H3 ⟨q, rfl, t3, n3, r3, ⟨zs, p3⟩, g3⟩
      walk_at "g"
      exact k _ _ t3 n3
in #guard_msgs in universe u_z
abbrev s__law_vadd : Stmt := top 69
theorem sc__law_vadd : FnScope ["u", "v"] ["u", "v"] (defScope s__law_vadd) := ⟨rfl, rfl, rfl, by decide +kernel, rfl, by decide +kernel, by decide +kernel⟩
set_option Elab.async true in
set_option maxHeartbeats 4000000 in
theorem ok__law_vadd {f : Addr} {fd : FuncData} (F : FunA K "_law_vadd" "_law_vadd" s__law_vadd f fd) (T : Blt mg) (C__law_radd : Cal P w K mg base "_law_radd" 3 ["x", "y"] (sp__law_radd K)) : FnOk P w K mg base CX0 4 f fd ["u", "v"] (sp__law_vadd K) := by
  refine F.ok sc__law_vadd (fun vs H Q E h => ?_) (fun cdv A outer s H vs Q E hr h => ?_)
  · obtain ⟨_, _, _, _, _, _, _, _, rfl, _⟩ := h
    rfl
  · obtain ⟨u, v, p, q, n1, d1, n2, d2, rfl, h0, h1, h2, h3, h4, h5, k⟩ := h
    refine ⟨_, (pss_one (ps_ret (pe_tup (pa_cons (pc C__law_radd (hr.mono (by decide)) (by rfl) (pa_cons (pe_ix (kx_tup (K := K) rfl) (pv 0) pe_int (fun _ _ => rfl)) (pa_cons (pe_ix (kx_tup (K := K) rfl) (pv 1) pe_int (fun _ _ => rfl)) pa_nil))) (pa_cons (pc C__law_radd (hr.mono (by decide)) (by rfl) (pa_cons (pe_ix (kx_tup (K := K) rfl) (pv 0) pe_int (fun _ _ => rfl)) (pa_cons (pe_ix (kx_tup (K := K) rfl) (pv 1) pe_int (fun _ _ => rfl)) pa_nil))) (pa_cons (pc C__law_radd (hr.mono (by decide)) (by rfl) (pa_cons (pe_ix (kx_tup (K := K) rfl) (pv 0) pe_int (fun _ _ => rfl)) (pa_cons (pe_ix (kx_tup (K := K) rfl) (pv 1) pe_int (fun _ _ => rfl)) pa_nil))) pa_nil)))))), ?_⟩
    obtain ⟨u0, u1, u2, ut, ua, ub, uc⟩ := h0
    obtain ⟨v0, v1, v2, vt, va, vb, vc⟩ := h1
    walk_at "a"
    exact k _ _ (by walk_at "same") (Vc.mk (by walk_at "sq") (by walk_at "sq") (by walk_at "sq") (by walk_at "sq"))
in #guard_msgs in universe u_z
abbrev s__law_vmul : Stmt := top 70
theorem sc__law_vmul : FnScope ["t", "v"] ["t", "v"] (defScope s__law_vmul) := ⟨rfl, rfl, rfl, by decide +kernel, rfl, by decide +kernel, by decide +kernel⟩
set_option Elab.async true in
set_option maxHeartbeats 4000000 in
theorem ok__law_vmul {f : Addr} {fd : FuncData} (F : FunA K "_law_vmul" "_law_vmul" s__law_vmul f fd) (T : Blt mg) (C__law_rmul : Cal P w K mg base "_law_rmul" 3 ["x", "y"] (sp__law_rmul K)) : FnOk P w K mg base CX0 4 f fd ["t", "v"] (sp__law_vmul K) := by
  refine F.ok sc__law_vmul (fun vs H Q E h => ?_) (fun cdv A outer s H vs Q E hr h => ?_)
  · obtain ⟨_, _, _, _, _, _, _, _, rfl, _⟩ := h
    rfl
  · obtain ⟨t, v, x, q, n1, d1, n2, d2, rfl, h0, h1, h2, h3, h4, h5, k⟩ := h
    refine ⟨_, (pss_one (ps_ret (pe_tup (pa_cons (pc C__law_rmul (hr.mono (by decide)) (by rfl) (pa_cons (pv 0) (pa_cons (pe_ix (kx_tup (K := K) rfl) (pv 1) pe_int (fun _ _ => rfl)) pa_nil))) (pa_cons (pc C__law_rmul (hr.mono (by decide)) (by rfl) (pa_cons (pv 0) (pa_cons (pe_ix (kx_tup (K := K) rfl) (pv 1) pe_int (fun _ _ => rfl)) pa_nil))) (pa_cons (pc C__law_rmul (hr.mono (by decide)) (by rfl) (pa_cons (pv 0) (pa_cons (pe_ix (kx_tup (K := K) rfl) (pv 1) pe_int (fun _ _ => rfl)) pa_nil))) pa_nil)))))), ?_⟩
    obtain ⟨v0, v1, v2, vt, va, vb, vc⟩ := h1
    walk_at "a"
    exact k _ _ (by walk_at "same") (Vc.mk (by walk_at "sq") (by walk_at "sq") (by walk_at "sq") (by walk_at "sq"))
in #guard_msgs in universe u_z
abbrev s__law_vdot : Stmt := top 71
theorem sc__law_vdot : FnScope ["u", "v"] ["u", "v"] (defScope s__law_vdot) := ⟨rfl, rfl, rfl, by decide +kernel, rfl, by decide +kernel, by decide +kernel⟩
set_option Elab.async true in
set_option maxHeartbeats 4000000 in
theorem ok__law_vdot {f : Addr} {fd : FuncData} (F : FunA K "_law_vdot" "_law_vdot" s__law_vdot f fd) (T : Blt mg) (C__law_radd : Cal P w K mg base "_law_radd" 3 ["x", "y"] (sp__law_radd K)) (C__law_rmul : Cal P w K mg base "_law_rmul" 3 ["x", "y"] (sp__law_rmul K)) : FnOk P w K mg base CX0 4 f fd ["u", "v"] (sp__law_vdot K) := by
  refine F.ok sc__law_vdot (fun vs H Q E h => ?_) (fun cdv A outer s H vs Q E hr h => ?_)
  · obtain ⟨_, _, _, _, _, _, _, _, rfl, _⟩ := h
    rfl
  · obtain ⟨u, v, p, q, n1, d1, n2, d2, rfl, h0, h1, h2, h3, h4, h5, k⟩ := h
    refine ⟨_, (pss_one (ps_ret (pc C__law_radd (hr.mono (by decide)) (by rfl) (pa_cons (pc C__law_radd (hr.mono (by decide)) (by rfl) (pa_cons (pc C__law_rmul (hr.mono (by decide)) (by rfl) (pa_cons (pe_ix (kx_tup (K := K) rfl) (pv 0) pe_int (fun _ _ => rfl)) (pa_cons (pe_ix (kx_tup (K := K) rfl) (pv 1) pe_int (fun _ _ => rfl)) pa_nil))) (pa_cons (pc C__law_rmul (hr.mono (by decide)) (by rfl) (pa_cons (pe_ix (kx_tup (K := K) rfl) (pv 0) pe_int (fun _ _ => rfl)) (pa_cons (pe_ix (kx_tup (K := K) rfl) (pv 1) pe_int (fun _ _ => rfl)) pa_nil))) pa_nil))) (pa_cons (pc C__law_rmul (hr.mono (by decide)) (by rfl) (pa_cons (pe_ix (kx_tup (K := K) rfl) (pv 0) pe_int (fun _ _ => rfl)) (pa_cons (pe_ix (kx_tup (K := K) rfl) (pv 1) pe_int (fun _ _ => rfl)) pa_nil))) pa_nil))))), ?_⟩
    obtain ⟨u0, u1, u2, ut, ua, ub, uc⟩ := h0
    obtain ⟨v0, v1, v2, vt, va, vb, vc⟩ := h1
    walk_at "a"
    exact k _ _ (by walk_at "same") (show SqT K _ _ [.int (p.x * q.x + p.y * q.y + p.z * q.z).num, .int ((p.x * q.x + p.y * q.y + p.z * q.z).den : Int)] by walk_at "sq")
in #guard_msgs in universe u_z
abbrev s__law_vcross : Stmt := top 72
theorem sc__law_vcross : FnScope ["u", "v", "found"] ["u", "v"] (defScope s__law_vcross) := ⟨rfl, rfl, rfl, by decide +kernel, rfl, by decide +kernel, by decide +kernel⟩
set_option Elab.async true in
set_option maxHeartbeats 4000000 in
theorem ok__law_vcross {f : Addr} {fd : FuncData} (F : FunA K "_law_vcross" "_law_vcross" s__law_vcross f fd) (T : Blt mg) (C__law_rsub : Cal P w K mg base "_law_rsub" 3 ["x", "y"] (sp__law_rsub K)) (C__law_rmul : Cal P w K mg base "_law_rmul" 3 ["x", "y"] (sp__law_rmul K)) : FnOk P w K mg base CX0 4 f fd ["u", "v"] (sp__law_vcross K) := by
  refine F.ok sc__law_vcross (fun vs H Q E h => ?_) (fun cdv A outer s H vs Q E hr h => ?_)
  · obtain ⟨_, _, _, _, _, _, _, _, rfl, _⟩ := h
    rfl
  · obtain ⟨u, v, p, q, n1, d1, n2, d2, rfl, h0, h1, h2, h3, h4, h5, k⟩ := h
    refine ⟨_, (pss_cons (ps_set (i := 2) sc__law_vcross.nd rfl (.inl rfl) (pe_lst (pa_cons (pc C__law_rsub (hr.mono (by decide)) (by rfl) (pa_cons (pc C__law_rmul (hr.mono (by decide)) (by rfl) (pa_cons (pe_ix (kx_tup (K := K) rfl) (pv 0) pe_int (fun _ _ => rfl)) (pa_cons (pe_ix (kx_tup (K := K) rfl) (pv 1) pe_int (fun _ _ => rfl)) pa_nil))) (pa_cons (pc C__law_rmul (hr.mono (by decide)) (by rfl) (pa_cons (pe_ix (kx_tup (K := K) rfl) (pv 0) pe_int (fun _ _ => rfl)) (pa_cons (pe_ix (kx_tup (K := K) rfl) (pv 1) pe_int (fun _ _ => rfl)) pa_nil))) pa_nil))) pa_nil)))
 (pss_cons (ps_expr (k_bm (K := K) rfl PySem.F.plainAttrs_list PySem.F.slot_list_append PySem.F.type_list_append mt_append (pv 2) (pa_cons (pc C__law_rsub (hr.mono (by decide)) (by rfl) (pa_cons (pc C__law_rmul (hr.mono (by decide)) (by rfl) (pa_cons (pe_ix (kx_tup (K := K) rfl) (pv 0) pe_int (fun _ _ => rfl)) (pa_cons (pe_ix (kx_tup (K := K) rfl) (pv 1) pe_int (fun _ _ => rfl)) pa_nil))) (pa_cons (pc C__law_rmul (hr.mono (by decide)) (by rfl) (pa_cons (pe_ix (kx_tup (K := K) rfl) (pv 0) pe_int (fun _ _ => rfl)) (pa_cons (pe_ix (kx_tup (K := K) rfl) (pv 1) pe_int (fun _ _ => rfl)) pa_nil))) pa_nil))) pa_nil)))
 (pss_cons (ps_expr (k_bm (K := K) rfl PySem.F.plainAttrs_list PySem.F.slot_list_append PySem.F.type_list_append mt_append (pv 2) (pa_cons (pc C__law_rsub (hr.mono (by decide)) (by rfl) (pa_cons (pc C__law_rmul (hr.mono (by decide)) (by rfl) (pa_cons (pe_ix (kx_tup (K := K) rfl) (pv 0) pe_int (fun _ _ => rfl)) (pa_cons (pe_ix (kx_tup (K := K) rfl) (pv 1) pe_int (fun _ _ => rfl)) pa_nil))) (pa_cons (pc C__law_rmul (hr.mono (by decide)) (by rfl) (pa_cons (pe_ix (kx_tup (K := K) rfl) (pv 0) pe_int (fun _ _ => rfl)) (pa_cons (pe_ix (kx_tup (K := K) rfl) (pv 1) pe_int (fun _ _ => rfl)) pa_nil))) pa_nil))) pa_nil)))
 (pss_one (ps_ret (pe_callTy (kc_tuple (K := K) rfl) (by rfl) T.tuple (by decide +kernel) (pa_cons (pv 2) pa_nil))))))), ?_⟩
    obtain ⟨u0, u1, u2, ut, ua, ub, uc⟩ := h0
    obtain ⟨v0, v1, v2, vt, va, vb, vc⟩ := h1
    walk_at "g"
    refine r_appK (K := K) (by assumption) (by walk_at "same") (by walk_at "ls") (by simp) (fun Hx sx tx hx => ?_)
    replace hx : Hx _ = some (.lst [_, _]) := hx
    walk_at "g"
    refine r_appK (K := K) (by assumption) (by walk_at "same") (by walk_at "ls") (by simp) (fun Hy sy ty hy => ?_)
    replace hy : Hy _ = some (.lst [_, _, _]) := hy
    walk_at "g"
    exact k _ _ (by walk_at "same") (Vc.mk (by walk_at "sq") (by walk_at "sq") (by walk_at "sq") (by walk_at "sq"))
in #guard_msgs in universe u_z
abbrev s__law_point : Stmt := top 73
theorem sc__law_point : FnScope ["store", "kind", "first", "second"] ["store"] (defScope s__law_point) := ⟨rfl, rfl, rfl, by decide +kernel, rfl, by decide +kernel, by decide +kernel⟩
set_option Elab.async true in
set_option maxHeartbeats 4000000 in
theorem ok__law_point {f : Addr} {fd : FuncData} (F : FunA K "_law_point" "_law_point" s__law_point f fd) (T : Blt mg) (C__law_take : Cal P w K mg base "_law_take" 2 ["store", "many"] (sp__law_take K)) (C__law_ratio : Cal P w K mg base "_law_ratio" 3 ["store"] (sp__law_ratio K)) : FnOk P w K mg base CX0 4 f fd ["store"] (sp__law_point K) := by
  refine F.ok sc__law_point (fun vs H Q E h => ?_) (fun cdv A outer s H vs Q E hr h => ?_)
  · obtain ⟨_, rfl, _⟩ := h
    rfl
  · obtain ⟨st, rfl, h0, k⟩ := h
    refine ⟨_, (pss_cons (ps_set (i := 1) sc__law_point.nd rfl (.inl rfl) (pc C__law_take (hr.mono (by decide)) (by rfl) (pa_cons (pv 0) (pa_cons pe_int pa_nil))))
 (pss_cons (ps_if (pt_cmpR op_eq (pv 1) pe_int (nomark _))
 (pss_one (ps_ret (pe_tup (pa_cons (pe_tup (pa_cons (pe_op op_sub (pc C__law_take (hr.mono (by decide)) (by rfl) (pa_cons (pv 0) (pa_cons pe_int pa_nil))) pe_int) (pa_cons pe_int pa_nil))) (pa_cons (pe_tup (pa_cons (pe_op op_sub (pc C__law_take (hr.mono (by decide)) (by rfl) (pa_cons (pv 0) (pa_cons pe_int pa_nil))) pe_int) (pa_cons pe_int pa_nil))) (pa_cons (pe_tup (pa_cons (pe_op op_sub (pc C__law_take (hr.mono (by decide)) (by rfl) (pa_cons (pv 0) (pa_cons pe_int pa_nil))) pe_int) (pa_cons pe_int pa_nil))) pa_nil))))))
 pss_nil)
 (pss_cons (ps_set (i := 2) sc__law_point.nd rfl (.inl rfl) (pc C__law_ratio (hr.mono (by decide)) (by rfl) (pa_cons (pv 0) pa_nil)))
 (pss_cons (ps_if (pt_cmpR op_eq (pv 1) pe_int (nomark _))
 (pss_one (ps_ret (pe_tup (pa_cons (pv 2) (pa_cons (pv 2) (pa_cons (pv 2) pa_nil))))))
 pss_nil)
 (pss_cons (ps_set (i := 3) sc__law_point.nd rfl (.inl rfl) (pc C__law_ratio (hr.mono (by decide)) (by rfl) (pa_cons (pv 0) pa_nil)))
 (pss_one (ps_ret (pe_tup (pa_cons (pv 2) (pa_cons (pv 3) (pa_cons (pc C__law_ratio (hr.mono (by decide)) (by rfl) (pa_cons (pv 0) pa_nil)) pa_nil))))))))))), ?_⟩
    walk_at "a"
    · have z : ∀ r : Int, 0 ≤ r → r < max 1 3 → BN 6 6 ((r - 1 : Int) : Rat) := fun r h0 h1 => BN.bq (BQ.ofInt (B.rng (by omega) (by omega)) (by decide))
      exact k _ _ _ (by walk_at "fr") (by walk_at "st") (Vc.mk (by walk_at "sq") (SqT.ofInt (by walk_at "sq")) (SqT.ofInt (by walk_at "sq")) (SqT.ofInt (by walk_at "sq"))) ⟨z _ (by assumption) (by assumption), z _ (by assumption) (by assumption), z _ (by assumption) (by assumption)⟩
    all_goals exact k _ _ _ (by walk_at "fr") (by walk_at "st") (Vc.mk (by walk_at "sq") (by walk_at "sq") (by walk_at "sq") (by walk_at "sq")) ⟨BN.bq (by assumption), BN.bq (by assumption), BN.bq (by assumption)⟩
in #guard_msgs in universe u_z
abbrev s__law_is_ratio : Stmt := top 74
theorem sc__law_is_ratio : FnScope ["value"] ["value"] (defScope s__law_is_ratio) := ⟨rfl, rfl, rfl, by decide +kernel, rfl, by decide +kernel, by decide +kernel⟩
set_option Elab.async true in
set_option maxHeartbeats 4000000 in
theorem ok__law_is_ratio {f : Addr} {fd : FuncData} (F : FunA K "_law_is_ratio" "_law_is_ratio" s__law_is_ratio f fd) (T : Blt mg) (C__law_is_integer : Cal P w K mg base "_law_is_integer" 1 ["value"] (sp__law_is_integer_V_P K)) (C__law_gcd : Cal P w K mg base "_law_gcd" 1 ["one", "two"] (sp__law_gcd K)) : FnOk P w K mg base CX0 2 f fd ["value"] (sp__law_is_ratio K) := by
  refine F.ok sc__law_is_ratio (fun vs H Q E h => ?_) (fun cdv A outer s H vs Q E hr h => ?_)
  · obtain ⟨_, _, rfl, _⟩ := h
    rfl
  · obtain ⟨v, d, rfl, h0, k⟩ := h
    refine ⟨_, (pss_cons (ps_if (PW.pt (pw_or (pt_not (pt_val (pe_callB (kc_isi (K := K) rfl) (by rfl) T.isinstance (by decide +kernel) (pa_cons (pv 0) (pa_cons (pe_bltn (v := .ty "tuple") (u := .type "tuple") (by rfl) T.tuple (by decide +kernel) rfl) pa_nil))))) (pw_or1 (pt_cmpR op_ne (pe_callB (kc_len (K := K) rfl) (by rfl) T.len (by decide +kernel) (pa_cons (pv 0) pa_nil)) pe_int (nomark _)))))
 (pss_one (ps_ret pe_bl))
 pss_nil)
 (pss_cons (ps_if (PW.pt (pw_or (pt_not (pt_val (pc C__law_is_integer (hr.mono (by decide)) (by rfl) (pa_cons (pe_ix (kx_tup (K := K) rfl) (pv 0) pe_int (fun _ _ => rfl)) pa_nil)))) (pw_or1 (pt_not (pt_val (pc C__law_is_integer (hr.mono (by decide)) (by rfl) (pa_cons (pe_ix (kx_tup (K := K) rfl) (pv 0) pe_int (fun _ _ => rfl)) pa_nil)))))))
 (pss_one (ps_ret pe_bl))
 pss_nil)
 (pss_one (ps_ret (pe_and (pe_cmpR op_gt (pe_ix (kx_tup (K := K) rfl) (pv 0) pe_int (fun _ _ => rfl)) pe_int (nomark _)) (pe_one (pe_cmpR op_eq (pc C__law_gcd (hr.mono (by decide)) (by rfl) (pa_cons (pe_ix (kx_tup (K := K) rfl) (pv 0) pe_int (fun _ _ => rfl)) (pa_cons (pe_ix (kx_tup (K := K) rfl) (pv 0) pe_int (fun _ _ => rfl)) pa_nil))) pe_int (nomark _)))))))), ?_⟩
    rcases Dp.tupC h0 with ⟨a, xs, ds, rfl, rfl, hq, ha⟩ | ⟨hk, hn⟩
    · walk_at "g"
      refine r_lenT (by walk_at "sq") ?_
      walk_at "g"
      refine if_neI (fun e => ?_) (fun e => ?_)
      · walk_at "g"
        exact k _ _ (by walk_at "same") ⟨(fun q => nomatch q), fun ⟨n, m, q, _⟩ => by cases q; exact absurd (My.DpAll.len ha) (by simp only [List.length_cons, List.length_nil]; omega)⟩
      · obtain ⟨x, y, d, e, rfl, rfl, dx, dy⟩ := My.DpAll.two ha (by omega)
        walk_at "g"
        rename_i b1 s1 e1
        refine if_nb (fun q => ?_) (fun q => ?_)
        · walk_at "g"
          exact k _ _ (by walk_at "same") ⟨(fun q => nomatch q), fun ⟨n, m, z, _⟩ => by cases z; simp [q] at e1⟩
        · walk_at "g"
          rename_i b2 s2 e2
          refine if_nb (fun q2 => ?_) (fun q2 => ?_)
          · walk_at "g"
            exact k _ _ (by walk_at "same") ⟨(fun q => nomatch q), fun ⟨n, m, z, _⟩ => by cases z; simp [q2] at e2⟩
          · obtain ⟨n, rfl⟩ := e1.1 q
            obtain ⟨m, rfl⟩ := e2.1 q2
            cases dx
            cases dy
            walk_at "g"
            refine if_dec (fun hm => ?_) (fun hm => ?_)
            · walk_at "g"
              exact k _ _ (by walk_at "same") (by
                simp only [decide_eq_true_eq, V.int.injEq]
                exact ⟨fun q => ⟨n, m, rfl, by omega, by omega⟩, fun ⟨_, _, z, _, g⟩ => by cases z; omega⟩)
            · walk_at "g"
              exact k _ _ (by walk_at "same") ⟨(fun q => nomatch q), fun ⟨n, m, z, l, _⟩ => by cases z; omega⟩
    · walk_at "g"
      refine r_isD (by walk_at "dp") hk ?_
      walk_at "g"
      exact k _ _ (by walk_at "same") ⟨(fun q => nomatch q), fun ⟨n, m, z, _⟩ => absurd z (hn _)⟩
in #guard_msgs in universe u_z
abbrev s__law_is_vector : Stmt := top 75
theorem sc__law_is_vector : FnScope ["value"] ["value"] (defScope s__law_is_vector) := ⟨rfl, rfl, rfl, by decide +kernel, rfl, by decide +kernel, by decide +kernel⟩
set_option Elab.async true in
set_option maxHeartbeats 4000000 in
theorem ok__law_is_vector {f : Addr} {fd : FuncData} (F : FunA K "_law_is_vector" "_law_is_vector" s__law_is_vector f fd) (T : Blt mg) (C__law_is_ratio : Cal P w K mg base "_law_is_ratio" 2 ["value"] (sp__law_is_ratio K)) : FnOk P w K mg base CX0 3 f fd ["value"] (sp__law_is_vector K) := by
  refine F.ok sc__law_is_vector (fun vs H Q E h => ?_) (fun cdv A outer s H vs Q E hr h => ?_)
  · obtain ⟨_, _, rfl, _⟩ := h
    rfl
  · obtain ⟨v, d, rfl, h0, k⟩ := h
    refine ⟨_, (pss_cons (ps_if (PW.pt (pw_or (pt_not (pt_val (pe_callB (kc_isi (K := K) rfl) (by rfl) T.isinstance (by decide +kernel) (pa_cons (pv 0) (pa_cons (pe_bltn (v := .ty "tuple") (u := .type "tuple") (by rfl) T.tuple (by decide +kernel) rfl) pa_nil))))) (pw_or1 (pt_cmpR op_ne (pe_callB (kc_len (K := K) rfl) (by rfl) T.len (by decide +kernel) (pa_cons (pv 0) pa_nil)) pe_int (nomark _)))))
 (pss_one (ps_ret pe_bl))
 pss_nil)
 (pss_one (ps_ret (pe_and (pc C__law_is_ratio (hr.mono (by decide)) (by rfl) (pa_cons (pe_ix (kx_tup (K := K) rfl) (pv 0) pe_int (fun _ _ => rfl)) pa_nil)) (pe_and (pc C__law_is_ratio (hr.mono (by decide)) (by rfl) (pa_cons (pe_ix (kx_tup (K := K) rfl) (pv 0) pe_int (fun _ _ => rfl)) pa_nil)) (pe_one (pc C__law_is_ratio (hr.mono (by decide)) (by rfl) (pa_cons (pe_ix (kx_tup (K := K) rfl) (pv 0) pe_int (fun _ _ => rfl)) pa_nil)))))))), ?_⟩
    rcases Dp.tupC h0 with ⟨a, xs, ds, rfl, rfl, hq, ha⟩ | ⟨hk, hn⟩
    · walk_at "g"
      refine r_lenT (by walk_at "sq") ?_
      walk_at "g"
      refine if_neI (fun e => ?_) (fun e => ?_)
      · walk_at "g"
        exact k _ _ (by walk_at "same") ⟨(fun q => nomatch q), fun ⟨n, z, l, _⟩ => by cases z; exact absurd (My.DpAll.len ha) (by omega)⟩
      · obtain ⟨x, y, z, d, e', f', rfl, rfl, dx, dy, dz⟩ := My.DpAll.three ha (by omega)
        have go : ∀ (b : Bool) H', Same H H' → (b = true ↔ IsR d ∧ IsR e' ∧ IsR f') → Q (.bl b) H' := fun b H' s h => k _ _ s (h.trans ⟨fun ⟨h0, h1, h2⟩ => ⟨_, rfl, rfl, fun x hx => by
          simp only [List.mem_cons, List.not_mem_nil, or_false] at hx
          rcases hx with rfl | rfl | rfl
          · exact h0
          · exact h1
          · exact h2⟩, fun ⟨_, z, _, h⟩ => by cases z; exact ⟨h _ (by simp), h _ (by simp), h _ (by simp)⟩⟩)
        walk_at "g"
        rename_i b0 s0 hb0
        refine if_b (fun c0 => ?_) (fun c0 => ?_)
        · walk_at "g"
          rename_i b1 s1 hb1
          refine if_b (fun c1 => ?_) (fun c1 => ?_)
          · walk_at "g"
            rename_i b2 s2 hb2
            exact go _ _ (by walk_at "same") (hb2.trans ⟨fun h => ⟨hb0.1 c0, hb1.1 c1, h⟩, fun h => h.2.2⟩)
          · walk_at "g"
            exact go _ _ (by walk_at "same") ⟨(fun q => nomatch q), fun h => by have := hb1.2 h.2.1; rw [c1] at this; exact this⟩
        · walk_at "g"
          exact go _ _ (by walk_at "same") ⟨(fun q => nomatch q), fun h => by have := hb0.2 h.1; rw [c0] at this; exact this⟩
    · walk_at "g"
      refine r_isD (by walk_at "dp") hk ?_
      walk_at "g"
      exact k _ _ (by walk_at "same") ⟨(fun q => nomatch q), fun ⟨n, z, _⟩ => absurd z (hn _)⟩
in #guard_msgs in universe u_z
abbrev s__law_is_move : Stmt := top 76
theorem sc__law_is_move : FnScope ["value", "rows", "part"] ["value"] (defScope s__law_is_move) := ⟨rfl, rfl, rfl, by decide +kernel, rfl, by decide +kernel, by decide +kernel⟩
set_option Elab.async true in
set_option maxHeartbeats 4000000 in
theorem ok__law_is_move {f : Addr} {fd : FuncData} (F : FunA K "_law_is_move" "_law_is_move" s__law_is_move f fd) (T : Blt mg) (C__law_is_vector : Cal P w K mg base "_law_is_vector" 3 ["value"] (sp__law_is_vector K)) (C__law_vdot : Cal P w K mg base "_law_vdot" 4 ["u", "v"] (sp__law_vdot K)) (C__law_vcross : Cal P w K mg base "_law_vcross" 4 ["u", "v"] (sp__law_vcross K)) : FnOk P w K mg base CX0 5 f fd ["value"] (sp__law_is_move K) := by
  refine F.ok sc__law_is_move (fun vs H Q E h => ?_) (fun cdv A outer s H vs Q E hr h => ?_)
  · obtain ⟨_, _, rfl, _⟩ := h
    rfl
  · obtain ⟨v, d, rfl, h0, h1, k⟩ := h
    refine ⟨_, (pss_cons (ps_if (PW.pt (pw_or (pt_not (pt_val (pe_callB (kc_isi (K := K) rfl) (by rfl) T.isinstance (by decide +kernel) (pa_cons (pv 0) (pa_cons (pe_bltn (v := .ty "tuple") (u := .type "tuple") (by rfl) T.tuple (by decide +kernel) rfl) pa_nil))))) (pw_or1 (pt_cmpR op_ne (pe_callB (kc_len (K := K) rfl) (by rfl) T.len (by decide +kernel) (pa_cons (pv 0) pa_nil)) pe_int (nomark _)))))
 (pss_one (ps_ret pe_bl))
 pss_nil)
 (pss_cons (ps_set (i := 1) sc__law_is_move.nd rfl (.inl rfl) (pe_ix (kx_tup (K := K) rfl) (pv 0) pe_int (fun _ _ => rfl)))
 (pss_cons (ps_if (PW.pt (pw_or (pt_not (pt_val (pe_callB (kc_isi (K := K) rfl) (by rfl) T.isinstance (by decide +kernel) (pa_cons (pv 1) (pa_cons (pe_bltn (v := .ty "tuple") (u := .type "tuple") (by rfl) T.tuple (by decide +kernel) rfl) pa_nil))))) (pw_or (pt_cmpR op_ne (pe_callB (kc_len (K := K) rfl) (by rfl) T.len (by decide +kernel) (pa_cons (pv 1) pa_nil)) pe_int (nomark _)) (pw_or1 (pt_not (pt_val (pc C__law_is_vector (hr.mono (by decide)) (by rfl) (pa_cons (pe_ix (kx_tup (K := K) rfl) (pv 0) pe_int (fun _ _ => rfl)) pa_nil))))))))
 (pss_one (ps_ret pe_bl))
 pss_nil)
 (pss_cons (ps_for PassesOwn.never rfl (kp_tup (K := K) rfl (pv 1)) (pg_name (i := 2) sc__law_is_move.nd rfl (.inl rfl))
 (pss_one (ps_if (pt_not (pt_val (pc C__law_is_vector (hr.mono (by decide)) (by rfl) (pa_cons (pv 2) pa_nil))))
 (pss_one (ps_ret pe_bl))
 pss_nil)))
 (pss_one (ps_ret (pe_cmpR op_ne (pe_ix (kx_tup (K := K) rfl) (pc C__law_vdot (hr.mono (by decide)) (by rfl) (pa_cons (pe_ix (kx_tup (K := K) rfl) (pv 1) pe_int (fun _ _ => rfl)) (pa_cons (pc C__law_vcross (hr.mono (by decide)) (by rfl) (pa_cons (pe_ix (kx_tup (K := K) rfl) (pv 1) pe_int (fun _ _ => rfl)) (pa_cons (pe_ix (kx_tup (K := K) rfl) (pv 1) pe_int (fun _ _ => rfl)) pa_nil))) pa_nil))) pe_int (fun _ _ => rfl)) pe_int (nomark _)))))))), ?_⟩
    rcases Ob.tupC h0 with ⟨a, xs, ds, rfl, rfl, hq, ha⟩ | ⟨hk, hn⟩
    · walk_at "g"
      refine r_lenT (by walk_at "sq") ?_
      walk_at "g"
      refine if_neI (fun e => ?_) (fun e => ?_)
      · walk_at "g"
        exact k _ _ (by walk_at "same") ⟨(fun q => nomatch q), fun ⟨A, z, _⟩ => by cases z; exact absurd (My.DpAll.len ha) (by simp only [List.length_cons, List.length_nil]; omega)⟩
      · obtain ⟨x, y, d0, d1, rfl, rfl, dx, dy⟩ := My.DpAll.two ha (by omega)
        walk_at "g"
        rcases Dp.tupC dx with ⟨b, ys, es, rfl, rfl, hq2, ha2⟩ | ⟨hk2, hn2⟩
        · walk_at "g"
          refine r_lenT (by walk_at "sq") ?_
          walk_at "g"
          refine if_neI (fun e2 => ?_) (fun e2 => ?_)
          · walk_at "g"
            exact k _ _ (by walk_at "same") ⟨(fun q => nomatch q), fun ⟨A, z, _⟩ => by cases z; exact absurd (My.DpAll.len ha2) (by simp only [List.length_cons, List.length_nil]; omega)⟩
          · obtain ⟨r0, r1, r2, g0, g1, g2, rfl, rfl, q0, q1, q2⟩ := My.DpAll.three ha2 (by omega)
            have go : ∀ (b : Bool) H', Same H H' → (b = true ↔ IsV g0 ∧ IsV g1 ∧ IsV g2 ∧ IsV d1 ∧ ∀ A : M3, g0 = vD A.a → g1 = vD A.b → g2 = vD A.c → d1 = vD A.s → det3 A ≠ 0) → Q (.bl b) H' := fun b H' s h => k _ _ s (h.trans ⟨fun ⟨v0, v1, v2, v3, h⟩ => by
              obtain ⟨p0, rfl⟩ := isV_iff.1 v0
              obtain ⟨p1, rfl⟩ := isV_iff.1 v1
              obtain ⟨p2, rfl⟩ := isV_iff.1 v2
              obtain ⟨p3, rfl⟩ := isV_iff.1 v3
              exact isM_iff.2 ⟨⟨p0, p1, p2, p3⟩, rfl, rfl, rfl, rfl, h _ rfl rfl rfl rfl⟩, fun h => by
              obtain ⟨A, rfl, rfl, rfl, rfl, hd⟩ := isM_iff.1 h
              refine ⟨isV_iff.2 ⟨_, rfl⟩, isV_iff.2 ⟨_, rfl⟩, isV_iff.2 ⟨_, rfl⟩, isV_iff.2 ⟨_, rfl⟩, fun B b0 b1 b2 b3 => ?_⟩
              have e0 := vD_inj b0
              have e1 := vD_inj b1
              have e2 := vD_inj b2
              unfold det3 at *
              rw [← e0, ← e1, ← e2]
              exact hd⟩)
            walk_at "g"
            rename_i H2 b3 s2 hb4
            refine if_nb (fun c => ?_) (fun c => ?_)
            · walk_at "g"
              exact go _ _ (by walk_at "same") ⟨(fun q => nomatch q), fun ⟨_, _, _, v3, _⟩ => by rw [hb4.2 v3] at c; cases c⟩
            · have v3 := hb4.1 c
              walk_at "g"
              refine f_tup (K := K) (xs := [r0, r1, r2]) (fun i σ' H' => Same H H' ∧ (∃ z, σ' = [some (.ref a), some (.ref b), z]) ∧ ∀ x, x ∈ ([g0, g1, g2] : List PyData).take i → IsV x) ⟨by walk_at "same", ⟨_, rfl⟩, fun x hx => by simp at hx⟩ (fun i σ' H' _ ⟨s3, _⟩ => by walk_at "sq") ?_ ?_
              · rintro i x σ' H3 hi ⟨s3, ⟨z, rfl⟩, J⟩
                obtain ⟨d2, ed, dx⟩ := My.DpAll.getV ha2 hi
                replace dx := My.Dp.same s3 dx
                walk_at "g"
                rename_i H4 b4 s4 hb
                refine if_nb (fun c => ?_) (fun c => ?_)
                · walk_at "g"
                  refine go _ _ (by walk_at "same") ⟨(fun q => nomatch q), fun ⟨v0, v1, v2, _⟩ => ?_⟩
                  have : IsV d2 := by
                    rcases i with _ | _ | _ | i
                    · cases ed; exact v0
                    · cases ed; exact v1
                    · cases ed; exact v2
                    · simp at ed
                  rw [hb.2 this] at c
                  cases c
                · walk_at "g"
                  refine ⟨by walk_at "same", ⟨_, rfl⟩, fun x hx => ?_⟩
                  rw [List.take_add_one, ed] at hx
                  rcases List.mem_append.1 hx with hx | hx
                  · exact J x hx
                  · rw [show x = d2 by simpa using hx]
                    exact hb.1 c
              · rintro σ' H3 ⟨s3, ⟨z, rfl⟩, J⟩
                have v0 := J g0 (by simp)
                have v1 := J g1 (by simp)
                have v2 := J g2 (by simp)
                obtain ⟨p0, rfl⟩ := isV_iff.1 v0
                obtain ⟨p1, rfl⟩ := isV_iff.1 v1
                obtain ⟨p2, rfl⟩ := isV_iff.1 v2
                obtain ⟨p3, rfl⟩ := isV_iff.1 v3
                obtain ⟨m0, rfl, w0⟩ := Dp.vcV q0
                obtain ⟨m1, rfl, w1⟩ := Dp.vcV q1
                obtain ⟨m2, rfl, w2⟩ := Dp.vcV q2
                have hrow : BdD 200 (.tuple [vD p0, vD p1, vD p2]) := h1.tup (by simp)
                have n0 := (hrow.tup (d := vD p0) (by simp)).v
                have n1 := (hrow.tup (d := vD p1) (by simp)).v
                have n2 := (hrow.tup (d := vD p2) (by simp)).v
                walk_at "g"
                refine go _ _ (by walk_at "same") ?_
                have ez : ∀ q : Rat, (!decide (V.int q.num = V.int 0)) = decide (q ≠ 0) := fun q => by
                  by_cases z : q = 0
                  · subst z; rfl
                  · have : q.num ≠ 0 := fun e => z (Rat.num_eq_zero.1 e)
                    simp [z, this]
                rw [ez, decide_eq_true_iff]
                constructor
                · intro h
                  refine ⟨v0, v1, v2, v3, fun B b0 b1 b2 b3 => ?_⟩
                  unfold det3
                  rw [← vD_inj b0, ← vD_inj b1, ← vD_inj b2]
                  exact h
                · rintro ⟨_, _, _, _, h⟩
                  exact h ⟨p0, p1, p2, p3⟩ rfl rfl rfl rfl
        · refine r_isD dx hk2 ?_
          walk_at "g"
          exact k _ _ (by walk_at "same") ⟨(fun q => nomatch q), fun ⟨A, z, _⟩ => by cases z; exact absurd rfl (hn2 _)⟩
    · walk_at "g"
      refine r_isO (by walk_at "ob") hk ?_
      walk_at "g"
      exact k _ _ (by walk_at "same") ⟨(fun q => nomatch q), fun ⟨A, z, _⟩ => absurd z (hn _)⟩
in #guard_msgs in universe u_z
abbrev s__law_whole_vector : Stmt := top 77
theorem sc__law_whole_vector : FnScope ["a", "b", "c"] ["a", "b", "c"] (defScope s__law_whole_vector) := ⟨rfl, rfl, rfl, by decide +kernel, rfl, by decide +kernel, by decide +kernel⟩
set_option Elab.async true in
set_option maxHeartbeats 4000000 in
theorem ok__law_whole_vector {f : Addr} {fd : FuncData} (F : FunA K "_law_whole_vector" "_law_whole_vector" s__law_whole_vector f fd) (T : Blt mg) : FnOk P w K mg base CX0 1 f fd ["a", "b", "c"] (sp__law_whole_vector K) := by
  refine F.ok sc__law_whole_vector (fun vs H Q E h => ?_) (fun cdv A outer s H vs Q E hr h => ?_)
  · obtain ⟨_, _, _, rfl, _⟩ := h
    rfl
  · obtain ⟨a, b, c, rfl, k⟩ := h
    refine ⟨_, (pss_one (ps_ret (pe_tup (pa_cons (pe_tup (pa_cons (pv 0) (pa_cons pe_int pa_nil))) (pa_cons (pe_tup (pa_cons (pv 1) (pa_cons pe_int pa_nil))) (pa_cons (pe_tup (pa_cons (pv 2) (pa_cons pe_int pa_nil))) pa_nil)))))), ?_⟩
    walk_at "a"
    exact k _ _ (by walk_at "same") (Vc.mk (by walk_at "sq") (SqT.ofInt (by walk_at "sq")) (SqT.ofInt (by walk_at "sq")) (SqT.ofInt (by walk_at "sq")))
in #guard_msgs in universe u_z
abbrev s__law_turn_rows : Stmt := top 78
theorem sc__law_turn_rows : FnScope ["at", "one", "two", "three", "found", "n"] ["at"] (defScope s__law_turn_rows) := ⟨rfl, rfl, rfl, by decide +kernel, rfl, by decide +kernel, by decide +kernel⟩
set_option Elab.async true in
set_option maxHeartbeats 4000000 in
theorem ok__law_turn_rows {f : Addr} {fd : FuncData} (F : FunA K "_law_turn_rows" "_law_turn_rows" s__law_turn_rows f fd) (T : Blt mg) (C__law_whole_vector : Cal P w K mg base "_law_whole_vector" 1 ["a", "b", "c"] (sp__law_whole_vector K)) : FnOk P w K mg base CX0 2 f fd ["at"] (sp__law_turn_rows K) := by
  refine F.ok sc__law_turn_rows (fun vs H Q E h => ?_) (fun cdv A outer s H vs Q E hr h => ?_)
  · obtain ⟨_, rfl, _⟩ := h
    rfl
  · obtain ⟨a, rfl, h0, h1, k⟩ := h
    refine ⟨_, (pss_cons (ps_set (i := 1) sc__law_turn_rows.nd rfl (.inl rfl) (pe_ix (kx_list (K := K) rfl) (pe_lst (pa_cons (pe_tup (pa_cons pe_int (pa_cons pe_int (pa_cons pe_int pa_nil)))) (pa_cons (pe_tup (pa_cons pe_int (pa_cons pe_int (pa_cons pe_int pa_nil)))) (pa_cons (pe_tup (pa_cons pe_int (pa_cons (pe_un un_neg pe_int) (pa_cons pe_int pa_nil)))) pa_nil)))) (pv 0) (fun _ _ => rfl)))
 (pss_cons (ps_set (i := 2) sc__law_turn_rows.nd rfl (.inl rfl) (pe_ix (kx_list (K := K) rfl) (pe_lst (pa_cons (pe_tup (pa_cons pe_int (pa_cons pe_int (pa_cons (pe_un un_neg pe_int) pa_nil)))) (pa_cons (pe_tup (pa_cons pe_int (pa_cons pe_int (pa_cons pe_int pa_nil)))) (pa_cons (pe_tup (pa_cons pe_int (pa_cons pe_int (pa_cons pe_int pa_nil)))) pa_nil)))) (pv 0) (fun _ _ => rfl)))
 (pss_cons (ps_set (i := 3) sc__law_turn_rows.nd rfl (.inl rfl) (pe_ix (kx_list (K := K) rfl) (pe_lst (pa_cons (pe_tup (pa_cons pe_int (pa_cons pe_int (pa_cons pe_int pa_nil)))) (pa_cons (pe_tup (pa_cons (pe_un un_neg pe_int) (pa_cons pe_int (pa_cons pe_int pa_nil)))) (pa_cons (pe_tup (pa_cons pe_int (pa_cons pe_int (pa_cons pe_int pa_nil)))) pa_nil)))) (pv 0) (fun _ _ => rfl)))
 (pss_cons (ps_setLc (i := 4) (own := [("n", 5)]) rfl sc__law_turn_rows.nd rfl rfl (sw_true rfl rfl rfl (by decide +kernel)) (kp_list (K := K) rfl (pe_lst (pa_cons (pv 1) (pa_cons (pv 2) (pa_cons (pv 3) pa_nil))))) (blkOk_by (own := [("n", 5)]) (N := ["at", "one", "two", "three", "found", "n"]) (sc := defScope s__law_turn_rows) (by decide +kernel)) (fun _ _ _ _ _ => (pg_name (i := 5) sc__law_turn_rows.nd rfl (.inl rfl))) (fun _ _ _ _ _ => pts_nil) (fun _ _ _ _ _ => (pc C__law_whole_vector (hr.mono (by decide)) (by rfl) (pa_cons (pe_ix (kx_tup (K := K) rfl) (pv 5) pe_int (fun _ _ => rfl)) (pa_cons (pe_ix (kx_tup (K := K) rfl) (pv 5) pe_int (fun _ _ => rfl)) (pa_cons (pe_ix (kx_tup (K := K) rfl) (pv 5) pe_int (fun _ _ => rfl)) pa_nil))))))
 (pss_one (ps_ret (pe_callTy (kc_tuple (K := K) rfl) (by rfl) T.tuple (by decide +kernel) (pa_cons (pv 4) pa_nil)))))))), ?_⟩
    obtain rfl | rfl | rfl : a = 0 ∨ a = 1 ∨ a = 2 := by omega
    · walk_at "g"
      rename_i L HL nL sL hL
      intro Da hD
      have LG := lcG_same (K := K) (H := HL) (J := fun i acc H' => VcL K H' acc (([(⟨((1 : Int) : Rat), ((0 : Int) : Rat), ((0 : Int) : Rat)⟩ : V3), (⟨((0 : Int) : Rat), ((0 : Int) : Rat), ((-1 : Int) : Rat)⟩ : V3), (⟨((0 : Int) : Rat), ((1 : Int) : Rat), ((0 : Int) : Rat)⟩ : V3)] : List V3).take i)) hD (fun _ _ _ _ e h => VcL.tk e h)
      refine lc_lstG (K := K) LG (Same.new hD) VcL.nil (fun H1 acc _ g => SqL.of (g _ _ hL)) (fun _ => rfl) ?_ ?_
      · rintro i x acc H1 hx ha hDa g ej
        rcases i with _ | _ | _ | i
        rotate_left 3
        · simp at hx
        all_goals
          cases hx
          walk_at "g"
          rename_i H6 r s6 hr
          exact r_lcQ (K := K) LG (by decide) ha (by walk_at "ls") (by walk_at "same") (VcL.snoc (ej.tk (TK.same s6)) hr)
      · rintro acc H1 ha hDa g ej
        obtain ⟨x0, x1, x2, rfl, g0, g1, g2⟩ := VcL.three' ej
        walk_at "g"
        exact k _ _ _ _ _ (by walk_at "same") (Rw.mk (by walk_at "sq") (by walk_at "vc") (by walk_at "vc") (by walk_at "vc")) (half_int (by omega) (by omega) (by omega)) (half_int (by omega) (by omega) (by omega)) (half_int (by omega) (by omega) (by omega)) (det_ints (by decide))
    · walk_at "g"
      rename_i L HL nL sL hL
      intro Da hD
      have LG := lcG_same (K := K) (H := HL) (J := fun i acc H' => VcL K H' acc (([(⟨((0 : Int) : Rat), ((0 : Int) : Rat), ((1 : Int) : Rat)⟩ : V3), (⟨((0 : Int) : Rat), ((1 : Int) : Rat), ((0 : Int) : Rat)⟩ : V3), (⟨((-1 : Int) : Rat), ((0 : Int) : Rat), ((0 : Int) : Rat)⟩ : V3)] : List V3).take i)) hD (fun _ _ _ _ e h => VcL.tk e h)
      refine lc_lstG (K := K) LG (Same.new hD) VcL.nil (fun H1 acc _ g => SqL.of (g _ _ hL)) (fun _ => rfl) ?_ ?_
      · rintro i x acc H1 hx ha hDa g ej
        rcases i with _ | _ | _ | i
        rotate_left 3
        · simp at hx
        all_goals
          cases hx
          walk_at "g"
          rename_i H6 r s6 hr
          exact r_lcQ (K := K) LG (by decide) ha (by walk_at "ls") (by walk_at "same") (VcL.snoc (ej.tk (TK.same s6)) hr)
      · rintro acc H1 ha hDa g ej
        obtain ⟨x0, x1, x2, rfl, g0, g1, g2⟩ := VcL.three' ej
        walk_at "g"
        exact k _ _ _ _ _ (by walk_at "same") (Rw.mk (by walk_at "sq") (by walk_at "vc") (by walk_at "vc") (by walk_at "vc")) (half_int (by omega) (by omega) (by omega)) (half_int (by omega) (by omega) (by omega)) (half_int (by omega) (by omega) (by omega)) (det_ints (by decide))
    · walk_at "g"
      rename_i L HL nL sL hL
      intro Da hD
      have LG := lcG_same (K := K) (H := HL) (J := fun i acc H' => VcL K H' acc (([(⟨((0 : Int) : Rat), ((-1 : Int) : Rat), ((0 : Int) : Rat)⟩ : V3), (⟨((1 : Int) : Rat), ((0 : Int) : Rat), ((0 : Int) : Rat)⟩ : V3), (⟨((0 : Int) : Rat), ((0 : Int) : Rat), ((1 : Int) : Rat)⟩ : V3)] : List V3).take i)) hD (fun _ _ _ _ e h => VcL.tk e h)
      refine lc_lstG (K := K) LG (Same.new hD) VcL.nil (fun H1 acc _ g => SqL.of (g _ _ hL)) (fun _ => rfl) ?_ ?_
      · rintro i x acc H1 hx ha hDa g ej
        rcases i with _ | _ | _ | i
        rotate_left 3
        · simp at hx
        all_goals
          cases hx
          walk_at "g"
          rename_i H6 r s6 hr
          exact r_lcQ (K := K) LG (by decide) ha (by walk_at "ls") (by walk_at "same") (VcL.snoc (ej.tk (TK.same s6)) hr)
      · rintro acc H1 ha hDa g ej
        obtain ⟨x0, x1, x2, rfl, g0, g1, g2⟩ := VcL.three' ej
        walk_at "g"
        exact k _ _ _ _ _ (by walk_at "same") (Rw.mk (by walk_at "sq") (by walk_at "vc") (by walk_at "vc") (by walk_at "vc")) (half_int (by omega) (by omega) (by omega)) (half_int (by omega) (by omega) (by omega)) (half_int (by omega) (by omega) (by omega)) (det_ints (by decide))
in #guard_msgs in universe u_z
set_option Elab.async true in
theorem six_pick {K : PySem.W.Frag} {H : Hp} {a1 a2 a3 a4 a5 a6 : Addr} {v : V} {i : Nat} (h0 : SqT K H a1 [.int (1), .int 1]) (h1 : SqT K H a2 [.int (-1), .int 1]) (h2 : SqT K H a3 [.int (2), .int 1]) (h3 : SqT K H a4 [.int (1), .int 2]) (h4 : SqT K H a5 [.int (-3), .int 2]) (h5 : SqT K H a6 [.int (3), .int 1]) (e : ([.ref a1, .ref a2, .ref a3, .ref a4, .ref a5, .ref a6] : List V)[i]? = some v) : ∃ (a : Addr) (q : Rat), v = .ref a ∧ SqT K H a [.int q.num, .int (q.den : Int)] ∧ Sd q := by
  rcases i with _ | _ | _ | _ | _ | _ | i
  rotate_left 6
  · simp at e
  · cases e
    exact ⟨_, (1 : Rat), rfl, qt h0 (by decide +kernel) (by decide +kernel), sd_mk _ (2) (by decide +kernel) (by decide +kernel) (by decide +kernel)⟩
  · cases e
    exact ⟨_, (-1 : Rat), rfl, qt h1 (by decide +kernel) (by decide +kernel), sd_mk _ (-2) (by decide +kernel) (by decide +kernel) (by decide +kernel)⟩
  · cases e
    exact ⟨_, (2 : Rat), rfl, qt h2 (by decide +kernel) (by decide +kernel), sd_mk _ (4) (by decide +kernel) (by decide +kernel) (by decide +kernel)⟩
  · cases e
    exact ⟨_, ((1 : Rat) / 2), rfl, qt h3 (by decide +kernel) (by decide +kernel), sd_mk _ (1) (by decide +kernel) (by decide +kernel) (by decide +kernel)⟩
  · cases e
    exact ⟨_, ((-3 : Rat) / 2), rfl, qt h4 (by decide +kernel) (by decide +kernel), sd_mk _ (-3) (by decide +kernel) (by decide +kernel) (by decide +kernel)⟩
  · cases e
    exact ⟨_, (3 : Rat), rfl, qt h5 (by decide +kernel) (by decide +kernel), sd_mk _ (6) (by decide +kernel) (by decide +kernel) (by decide +kernel)⟩
in #guard_msgs in universe u_z
set_option Elab.async true in
theorem mat_rows {u v ra rb rc rx ry rz : Int} (hu : u = 1 ∨ u = -1 ∨ u = 2) (hv : v = 1 ∨ v = -1 ∨ v = 2) (lra : 0 ≤ ra) (hra : ra < max 1 5) (lrb : 0 ≤ rb) (hrb : rb < max 1 5) (lrc : 0 ≤ rc) (hrc : rc < max 1 5) (lrx : 0 ≤ rx) (hrx : rx < max 1 3) (lry : 0 ≤ ry) (hry : ry < max 1 3) (lrz : 0 ≤ rz) (hrz : rz < max 1 3) : HalfRow (⟨(((1 * u + 0 * 0 + 0 * 0) : Int) : Rat), (((1 * (ra - 2) + 0 * v + 0 * 0) : Int) : Rat), (((1 * (rb - 2) + 0 * (rc - 2) + 0 * 1) : Int) : Rat)⟩ : V3) ∧ HalfRow (⟨((((rx - 1) * u + 1 * 0 + 0 * 0) : Int) : Rat), ((((rx - 1) * (ra - 2) + 1 * v + 0 * 0) : Int) : Rat), ((((rx - 1) * (rb - 2) + 1 * (rc - 2) + 0 * 1) : Int) : Rat)⟩ : V3) ∧ HalfRow (⟨((((ry - 1) * u + (rz - 1) * 0 + 1 * 0) : Int) : Rat), ((((ry - 1) * (ra - 2) + (rz - 1) * v + 1 * 0) : Int) : Rat), ((((ry - 1) * (rb - 2) + (rz - 1) * (rc - 2) + 1 * 1) : Int) : Rat)⟩ : V3) := by
  have hy : ry = 0 ∨ ry = 1 ∨ ry = 2 := by omega
  have hz : rz = 0 ∨ rz = 1 ∨ rz = 2 := by omega
  have hx : rx = 0 ∨ rx = 1 ∨ rx = 2 := by omega
  refine ⟨half_int (by omega) (by omega) (by omega), ?_, ?_⟩
  · rcases hx with rfl | rfl | rfl <;> exact (half_int (by omega) (by omega) (by omega))
  · rcases hy with rfl | rfl | rfl <;> rcases hz with rfl | rfl | rfl <;> exact (half_int (by omega) (by omega) (by omega))
in #guard_msgs in universe u_z
abbrev s__law_matrix : Stmt := top 79
theorem sc__law_matrix : FnScope ["store", "kind", "sides", "one", "two", "a", "b", "c", "upper", "lower", "found", "row", "sums", "k"] ["store"] (defScope s__law_matrix) := ⟨rfl, rfl, rfl, by decide +kernel, rfl, by decide +kernel, by decide +kernel⟩
set_option Elab.async true in
set_option maxHeartbeats 4000000 in
theorem ok__law_matrix {f : Addr} {fd : FuncData} (F : FunA K "_law_matrix" "_law_matrix" s__law_matrix f fd) (T : Blt mg) (C__law_take : Cal P w K mg base "_law_take" 2 ["store", "many"] (sp__law_take K)) (C__law_turn_rows : Cal P w K mg base "_law_turn_rows" 2 ["at"] (sp__law_turn_rows K)) (C__law_whole_vector : Cal P w K mg base "_law_whole_vector" 1 ["a", "b", "c"] (sp__law_whole_vector K)) (C__law_pick : Cal P w K mg base "_law_pick" 3 ["store", "items"] (sp__law_pick K)) : FnOk P w K mg base CX0 4 f fd ["store"] (sp__law_matrix K) := by
  refine F.ok sc__law_matrix (fun vs H Q E h => ?_) (fun cdv A outer s H vs Q E hr h => ?_)
  · obtain ⟨_, rfl, _⟩ := h
    rfl
  · obtain ⟨st, rfl, h0, k⟩ := h
    refine ⟨_, (pss_cons (ps_set (i := 1) sc__law_matrix.nd rfl (.inl rfl) (pc C__law_take (hr.mono (by decide)) (by rfl) (pa_cons (pv 0) (pa_cons pe_int pa_nil))))
 (pss_cons (ps_if (pt_cmpR op_eq (pv 1) pe_int (nomark _))
 (pss_one (ps_ret (pe_tup (pa_cons (pc C__law_whole_vector (hr.mono (by decide)) (by rfl) (pa_cons pe_int (pa_cons pe_int (pa_cons pe_int pa_nil)))) (pa_cons (pc C__law_whole_vector (hr.mono (by decide)) (by rfl) (pa_cons pe_int (pa_cons pe_int (pa_cons pe_int pa_nil)))) (pa_cons (pc C__law_whole_vector (hr.mono (by decide)) (by rfl) (pa_cons pe_int (pa_cons pe_int (pa_cons pe_int pa_nil)))) pa_nil))))))
 pss_nil)
 (pss_cons (ps_if (pt_cmpR op_eq (pv 1) pe_int (nomark _))
 (pss_cons (ps_set (i := 2) sc__law_matrix.nd rfl (.inl rfl) (pe_lst (pa_cons (pe_tup (pa_cons pe_int (pa_cons pe_int pa_nil))) (pa_cons (pe_tup (pa_cons (pe_un un_neg pe_int) (pa_cons pe_int pa_nil))) (pa_cons (pe_tup (pa_cons pe_int (pa_cons pe_int pa_nil))) (pa_cons (pe_tup (pa_cons pe_int (pa_cons pe_int pa_nil))) (pa_cons (pe_tup (pa_cons (pe_un un_neg pe_int) (pa_cons pe_int pa_nil))) (pa_cons (pe_tup (pa_cons pe_int (pa_cons pe_int pa_nil))) pa_nil))))))))
 (pss_cons (ps_set (i := 3) sc__law_matrix.nd rfl (.inl rfl) (pe_tup (pa_cons (pc C__law_pick (hr.mono (by decide)) (by rfl) (pa_cons (pv 0) (pa_cons (pv 2) pa_nil))) (pa_cons (pe_tup (pa_cons pe_int (pa_cons pe_int pa_nil))) (pa_cons (pe_tup (pa_cons pe_int (pa_cons pe_int pa_nil))) pa_nil)))))
 (pss_cons (ps_set (i := 4) sc__law_matrix.nd rfl (.inl rfl) (pe_tup (pa_cons (pe_tup (pa_cons pe_int (pa_cons pe_int pa_nil))) (pa_cons (pc C__law_pick (hr.mono (by decide)) (by rfl) (pa_cons (pv 0) (pa_cons (pv 2) pa_nil))) (pa_cons (pe_tup (pa_cons pe_int (pa_cons pe_int pa_nil))) pa_nil)))))
 (pss_one (ps_ret (pe_tup (pa_cons (pv 3) (pa_cons (pv 4) (pa_cons (pe_tup (pa_cons (pe_tup (pa_cons pe_int (pa_cons pe_int pa_nil))) (pa_cons (pe_tup (pa_cons pe_int (pa_cons pe_int pa_nil))) (pa_cons (pc C__law_pick (hr.mono (by decide)) (by rfl) (pa_cons (pv 0) (pa_cons (pv 2) pa_nil))) pa_nil)))) pa_nil)))))))))
 pss_nil)
 (pss_cons (ps_if (pt_cmpR op_eq (pv 1) pe_int (nomark _))
 (pss_one (ps_ret (pc C__law_turn_rows (hr.mono (by decide)) (by rfl) (pa_cons (pc C__law_take (hr.mono (by decide)) (by rfl) (pa_cons (pv 0) (pa_cons pe_int pa_nil))) pa_nil))))
 pss_nil)
 (pss_cons (ps_set (i := 5) sc__law_matrix.nd rfl (.inl rfl) (pe_op op_sub (pc C__law_take (hr.mono (by decide)) (by rfl) (pa_cons (pv 0) (pa_cons pe_int pa_nil))) pe_int))
 (pss_cons (ps_set (i := 6) sc__law_matrix.nd rfl (.inl rfl) (pe_op op_sub (pc C__law_take (hr.mono (by decide)) (by rfl) (pa_cons (pv 0) (pa_cons pe_int pa_nil))) pe_int))
 (pss_cons (ps_set (i := 7) sc__law_matrix.nd rfl (.inl rfl) (pe_op op_sub (pc C__law_take (hr.mono (by decide)) (by rfl) (pa_cons (pv 0) (pa_cons pe_int pa_nil))) pe_int))
 (pss_cons (ps_if (pt_cmpR op_eq (pv 1) pe_int (nomark _))
 (pss_one (ps_ret (pe_tup (pa_cons (pc C__law_whole_vector (hr.mono (by decide)) (by rfl) (pa_cons pe_int (pa_cons (pv 5) (pa_cons (pv 6) pa_nil)))) (pa_cons (pc C__law_whole_vector (hr.mono (by decide)) (by rfl) (pa_cons pe_int (pa_cons pe_int (pa_cons (pv 7) pa_nil)))) (pa_cons (pc C__law_whole_vector (hr.mono (by decide)) (by rfl) (pa_cons pe_int (pa_cons pe_int (pa_cons pe_int pa_nil)))) pa_nil))))))
 pss_nil)
 (pss_cons (ps_set (i := 8) sc__law_matrix.nd rfl (.inr rfl) (pe_lst (pa_cons (pe_lst (pa_cons (pc C__law_pick (hr.mono (by decide)) (by rfl) (pa_cons (pv 0) (pa_cons (pe_lst (pa_cons pe_int (pa_cons (pe_un un_neg pe_int) (pa_cons pe_int pa_nil)))) pa_nil))) (pa_cons (pv 5) (pa_cons (pv 6) pa_nil)))) (pa_cons (pe_lst (pa_cons pe_int (pa_cons (pc C__law_pick (hr.mono (by decide)) (by rfl) (pa_cons (pv 0) (pa_cons (pe_lst (pa_cons pe_int (pa_cons (pe_un un_neg pe_int) (pa_cons pe_int pa_nil)))) pa_nil))) (pa_cons (pv 7) pa_nil)))) (pa_cons (pe_lst (pa_cons pe_int (pa_cons pe_int (pa_cons pe_int pa_nil)))) pa_nil)))))
 (pss_cons (ps_set (i := 9) sc__law_matrix.nd rfl (.inl rfl) (pe_lst (pa_cons (pe_lst (pa_cons pe_int (pa_cons pe_int (pa_cons pe_int pa_nil)))) (pa_cons (pe_lst (pa_cons (pe_op op_sub (pc C__law_take (hr.mono (by decide)) (by rfl) (pa_cons (pv 0) (pa_cons pe_int pa_nil))) pe_int) (pa_cons pe_int (pa_cons pe_int pa_nil)))) (pa_cons (pe_lst (pa_cons (pe_op op_sub (pc C__law_take (hr.mono (by decide)) (by rfl) (pa_cons (pv 0) (pa_cons pe_int pa_nil))) pe_int) (pa_cons (pe_op op_sub (pc C__law_take (hr.mono (by decide)) (by rfl) (pa_cons (pv 0) (pa_cons pe_int pa_nil))) pe_int) (pa_cons pe_int pa_nil)))) pa_nil)))))
 (pss_cons (ps_set (i := 10) sc__law_matrix.nd rfl (.inl rfl) (pe_lst pa_nil))
 (pss_cons (ps_for PassesOwn.never rfl (kp_list (K := K) rfl (pv 9)) (pg_name (i := 11) sc__law_matrix.nd rfl (.inr rfl))
 (pss_cons (ps_setLc (i := 12) (own := [("k", 13)]) rfl sc__law_matrix.nd rfl rfl (sw_true rfl rfl rfl (by decide +kernel)) (pi_range1 (by rfl) T.range (pa_cons pe_int pa_nil)) (blkOk_by (own := [("k", 13)]) (N := ["store", "kind", "sides", "one", "two", "a", "b", "c", "upper", "lower", "found", "row", "sums", "k"]) (sc := defScope s__law_matrix) (by decide +kernel)) (fun _ _ _ _ _ => (pg_name (i := 13) sc__law_matrix.nd rfl (.inl rfl))) (fun _ _ _ _ _ => pts_nil) (fun _ _ _ _ _ => (pe_op op_add (pe_op op_add (pe_op op_mulW (pe_ix (kx_list (K := K) rfl) (pv 11) pe_int (fun _ _ => rfl)) (pe_ix (kx_list (K := K) rfl) (pe_ix (kx_list (K := K) rfl) (pv 8) pe_int (fun _ _ => rfl)) (pv 13) (fun _ _ => rfl))) (pe_op op_mulW (pe_ix (kx_list (K := K) rfl) (pv 11) pe_int (fun _ _ => rfl)) (pe_ix (kx_list (K := K) rfl) (pe_ix (kx_list (K := K) rfl) (pv 8) pe_int (fun _ _ => rfl)) (pv 13) (fun _ _ => rfl)))) (pe_op op_mulW (pe_ix (kx_list (K := K) rfl) (pv 11) pe_int (fun _ _ => rfl)) (pe_ix (kx_list (K := K) rfl) (pe_ix (kx_list (K := K) rfl) (pv 8) pe_int (fun _ _ => rfl)) (pv 13) (fun _ _ => rfl))))))
 (pss_one (ps_expr (k_bm (K := K) rfl PySem.F.plainAttrs_list PySem.F.slot_list_append PySem.F.type_list_append mt_append (pv 10) (pa_cons (pc C__law_whole_vector (hr.mono (by decide)) (by rfl) (pa_cons (pe_ix (kx_list (K := K) rfl) (pv 12) pe_int (fun _ _ => rfl)) (pa_cons (pe_ix (kx_list (K := K) rfl) (pv 12) pe_int (fun _ _ => rfl)) (pa_cons (pe_ix (kx_list (K := K) rfl) (pv 12) pe_int (fun _ _ => rfl)) pa_nil)))) pa_nil))))))
 (pss_one (ps_ret (pe_callTy (kc_tuple (K := K) rfl) (by rfl) T.tuple (by decide +kernel) (pa_cons (pv 10) pa_nil)))))))))))))))), ?_⟩
    walk_at "g"
    rename_i H1 kd f1 s1 k0 k1
    refine if_eqI (fun c0 => ?_) (fun c0 => ?_)
    · walk_at "g"
      exact k _ _ _ _ _ (by walk_at "fr") (by walk_at "st") (Rw.mk (by walk_at "sq") (by walk_at "vc") (by walk_at "vc") (by walk_at "vc")) (half_int (by omega) (by omega) (by omega)) (half_int (by omega) (by omega) (by omega)) (half_int (by omega) (by omega) (by omega)) (det_ints (by decide))
    walk_at "g"
    refine if_eqI (fun c1 => ?_) (fun c1 => ?_)
    · walk_at "g"
      rename_i c1x Gc1x nc1x tc1x hc1x c2x Gc2x nc2x tc2x hc2x c3x Gc3x nc3x tc3x hc3x c4x Gc4x nc4x tc4x hc4x c5x Gc5x nc5x tc5x hc5x c6x Gc6x nc6x tc6x hc6x sd Gsd nsd tsd hsd Gvu ivu vu fvu svu evu z1 Gz1 nz1 tz1 hz1 z2 Gz2 nz2 tz2 hz2 ro Gro nro tro hro z3 Gz3 nz3 tz3 hz3 Gvv ivv vv fvv svv evv z4 Gz4 nz4 tz4 hz4 rp Grp nrp trp hrp z5 Gz5 nz5 tz5 hz5 z6 Gz6 nz6 tz6 hz6 Gvw ivw vw fvw svw evw rq Grq nrq trq hrq rr Grr nrr trr hrr
      have m0 : SqT K Grr c1x [.int (1), .int 1] := by walk_at "sq"
      have m1 : SqT K Grr c2x [.int (-1), .int 1] := by walk_at "sq"
      have m2 : SqT K Grr c3x [.int (2), .int 1] := by walk_at "sq"
      have m3 : SqT K Grr c4x [.int (1), .int 2] := by walk_at "sq"
      have m4 : SqT K Grr c5x [.int (-3), .int 2] := by walk_at "sq"
      have m5 : SqT K Grr c6x [.int (3), .int 1] := by walk_at "sq"
      obtain ⟨a0, q0, rfl, hq0, sd0⟩ := six_pick m0 m1 m2 m3 m4 m5 evu
      obtain ⟨a1, q1, rfl, hq1, sd1⟩ := six_pick m0 m1 m2 m3 m4 m5 evv
      obtain ⟨a2, q2, rfl, hq2, sd2⟩ := six_pick m0 m1 m2 m3 m4 m5 evw
      exact k _ _ _ _ _ (by walk_at "fr") (by walk_at "st") (Rw.mk (by walk_at "sq") (Vc.mk (x := q0) (y := ((0 : Int) : Rat)) (z := ((0 : Int) : Rat)) (by walk_at "sq") (by walk_at "sq") (by walk_at "sqI") (by walk_at "sqI")) (Vc.mk (x := ((0 : Int) : Rat)) (y := q1) (z := ((0 : Int) : Rat)) (by walk_at "sq") (by walk_at "sqI") (by walk_at "sq") (by walk_at "sqI")) (Vc.mk (x := ((0 : Int) : Rat)) (y := ((0 : Int) : Rat)) (z := q2) (by walk_at "sq") (by walk_at "sqI") (by walk_at "sqI") (by walk_at "sq"))) (half_x sd0) (half_y sd1) (half_z sd2) (det_diag sd0.1 sd1.1 sd2.1)
    walk_at "g"
    refine if_eqI (fun c2 => ?_) (fun c2 => ?_)
    · walk_at "g"
      exact k _ _ _ _ _ (by walk_at "fr") (by walk_at "st") (by assumption) (by assumption) (by assumption) (by assumption) (by assumption)
    walk_at "g"
    rename_i Gra ra fra sra lora hira Grb rb frb srb lorb hirb Grc rc frc src lorc hirc
    refine if_eqI (fun c3 => ?_) (fun c3 => ?_)
    · walk_at "g"
      exact k _ _ _ _ _ (by walk_at "fr") (by walk_at "st") (Rw.mk (by walk_at "sq") (by walk_at "vc") (by walk_at "vc") (by walk_at "vc")) (half_int (by omega) (by omega) (by omega)) (half_int (by omega) (by omega) (by omega)) (half_int (by omega) (by omega) (by omega)) (det_ints (by simp))
    walk_at "g"
    rename_i aa Gaa naa taa haa Gvu ivu vu fvu svu evu r0 Gr0 nr0 tr0 hr0 ab Gab nab tab hab Gvv ivv vv fvv svv evv r1 Gr1 nr1 tr1 hr1 r2 Gr2 nr2 tr2 hr2 up Gup nup tup hup l0 Gl0 nl0 tl0 hl0 Grx rx frx srx lorx hirx l1 Gl1 nl1 tl1 hl1 Gry ry fry sry lory hiry Grz rz frz srz lorz hirz l2 Gl2 nl2 tl2 hl2 lw Glw nlw tlw hlw F GF nF tF hF
    obtain ⟨u, rfl, hu⟩ := at_sgn evu
    obtain ⟨v, rfl, hv⟩ := at_sgn evv
    have k0up : SqL K Glw up [.ref r0, .ref r1, .ref r2] := by walk_at "sl"
    have k0r0 : SqL K Glw r0 [.int u, .int (ra - 2), .int (rb - 2)] := by walk_at "sl"
    have k0r1 : SqL K Glw r1 [.int 0, .int v, .int (rc - 2)] := by walk_at "sl"
    have k0r2 : SqL K Glw r2 [.int 0, .int 0, .int 1] := by walk_at "sl"
    have k0l0 : SqL K Glw l0 [.int 1, .int 0, .int 0] := by walk_at "sl"
    have k0l1 : SqL K Glw l1 [.int (rx - 1), .int 1, .int 0] := by walk_at "sl"
    have k0l2 : SqL K Glw l2 [.int (ry - 1), .int (rz - 1), .int 1] := by walk_at "sl"
    have k0lw : SqL K Glw lw [.ref l0, .ref l1, .ref l2] := by walk_at "sl"
    have k0st : St K Glw st := by walk_at "st"
    have k0fr : Fr st H Glw := by walk_at "fr"
    clear haa hab hr0 hr1 hr2 hup hl0 hl1 hl2 hlw evu evv taa tab tr0 tr1 tr2 tup tl0 tl1 tl2 tlw fvu fvv frx fry frz fra frb frc svu svv srx sry srz sra srb src naa nab nr0 nr1 nr2 nup nl0 nl1 nl2 nlw f1 s1 c0 c1 c2 c3
    have hF0 : VL K GF F [] := ⟨[], hF, VcL.nil⟩
    have tF' := tF
    refine f_list (xs := [.ref l0, .ref l1, .ref l2]) (fun i σ' H' => ∃ v11 v12, σ' = [some (.ref st), some (.int kd), none, none, none, some (.int (ra - 2)), some (.int (rb - 2)), some (.int (rc - 2)), some (.ref up), some (.ref lw), some (.ref F), v11, v12, none] ∧ Same Glw H' ∧ VL K H' F (([(⟨(((1 * u + 0 * 0 + 0 * 0) : Int) : Rat), (((1 * (ra - 2) + 0 * v + 0 * 0) : Int) : Rat), (((1 * (rb - 2) + 0 * (rc - 2) + 0 * 1) : Int) : Rat)⟩ : V3), (⟨((((rx - 1) * u + 1 * 0 + 0 * 0) : Int) : Rat), ((((rx - 1) * (ra - 2) + 1 * v + 0 * 0) : Int) : Rat), ((((rx - 1) * (rb - 2) + 1 * (rc - 2) + 0 * 1) : Int) : Rat)⟩ : V3), (⟨((((ry - 1) * u + (rz - 1) * 0 + 1 * 0) : Int) : Rat), ((((ry - 1) * (ra - 2) + (rz - 1) * v + 1 * 0) : Int) : Rat), ((((ry - 1) * (rb - 2) + (rz - 1) * (rc - 2) + 1 * 1) : Int) : Rat)⟩ : V3)] : List V3).take i)) ⟨_, _, rfl, by walk_at "same", hF0⟩ (fun i σ' H' _ ⟨_, _, _, s, _⟩ => s.seq k0lw) ?_ ?_
    · rintro i x σ' H2 hx ⟨v11, v12, rfl, s2, hv2⟩
      rcases i with _ | _ | _ | i
      rotate_left 3
      · simp at hx
      · cases hx
        replace hv2 : VL K H2 F [] := hv2
        walk_at "g"
        intro Da hD
        have LG := lcG_same (K := K) (H := H2) (J := fun n acc _ => acc = ([.int (1 * u + 0 * 0 + 0 * 0), .int (1 * (ra - 2) + 0 * v + 0 * 0), .int (1 * (rb - 2) + 0 * (rc - 2) + 0 * 1)] : List V).take n) hD (fun _ _ _ _ _ h => h)
        refine lc_rngG (K := K) (n := 3) LG (Same.new hD) rfl (fun _ => rfl) ?_ ?_
        · intro n acc H3 hn ha hDa g ej
          obtain rfl | rfl | rfl : n = 0 ∨ n = 1 ∨ n = 2 := by omega
          all_goals
            walk_at "g"
            exact r_lcQ (K := K) LG (by decide) ha hDa g (by rw [ej]; rfl)
        · intro acc H3 ha hDa g ej
          subst ej
          replace hDa : H3 Da = some (.lst [.int (1 * u + 0 * 0 + 0 * 0), .int (1 * (ra - 2) + 0 * v + 0 * 0), .int (1 * (rb - 2) + 0 * (rc - 2) + 0 * 1)]) := hDa
          walk_at "g"
          rename_i H5 w s5 hw
          refine r_appV (K := K) nF (by walk_at "same") (by walk_at "vl") hw (by simp) (fun H6 s6 t6 h6 => ?_)
          exact ⟨_, _, rfl, s6, h6⟩
      · cases hx
        replace hv2 : VL K H2 F [(⟨(((1 * u + 0 * 0 + 0 * 0) : Int) : Rat), (((1 * (ra - 2) + 0 * v + 0 * 0) : Int) : Rat), (((1 * (rb - 2) + 0 * (rc - 2) + 0 * 1) : Int) : Rat)⟩ : V3)] := hv2
        walk_at "g"
        intro Da hD
        have LG := lcG_same (K := K) (H := H2) (J := fun n acc _ => acc = ([.int ((rx - 1) * u + 1 * 0 + 0 * 0), .int ((rx - 1) * (ra - 2) + 1 * v + 0 * 0), .int ((rx - 1) * (rb - 2) + 1 * (rc - 2) + 0 * 1)] : List V).take n) hD (fun _ _ _ _ _ h => h)
        refine lc_rngG (K := K) (n := 3) LG (Same.new hD) rfl (fun _ => rfl) ?_ ?_
        · intro n acc H3 hn ha hDa g ej
          obtain rfl | rfl | rfl : n = 0 ∨ n = 1 ∨ n = 2 := by omega
          all_goals
            walk_at "g"
            exact r_lcQ (K := K) LG (by decide) ha hDa g (by rw [ej]; rfl)
        · intro acc H3 ha hDa g ej
          subst ej
          replace hDa : H3 Da = some (.lst [.int ((rx - 1) * u + 1 * 0 + 0 * 0), .int ((rx - 1) * (ra - 2) + 1 * v + 0 * 0), .int ((rx - 1) * (rb - 2) + 1 * (rc - 2) + 0 * 1)]) := hDa
          walk_at "g"
          rename_i H5 w s5 hw
          refine r_appV (K := K) nF (by walk_at "same") (by walk_at "vl") hw (by simp) (fun H6 s6 t6 h6 => ?_)
          exact ⟨_, _, rfl, s6, h6⟩
      · cases hx
        replace hv2 : VL K H2 F [(⟨(((1 * u + 0 * 0 + 0 * 0) : Int) : Rat), (((1 * (ra - 2) + 0 * v + 0 * 0) : Int) : Rat), (((1 * (rb - 2) + 0 * (rc - 2) + 0 * 1) : Int) : Rat)⟩ : V3), (⟨((((rx - 1) * u + 1 * 0 + 0 * 0) : Int) : Rat), ((((rx - 1) * (ra - 2) + 1 * v + 0 * 0) : Int) : Rat), ((((rx - 1) * (rb - 2) + 1 * (rc - 2) + 0 * 1) : Int) : Rat)⟩ : V3)] := hv2
        walk_at "g"
        intro Da hD
        have LG := lcG_same (K := K) (H := H2) (J := fun n acc _ => acc = ([.int ((ry - 1) * u + (rz - 1) * 0 + 1 * 0), .int ((ry - 1) * (ra - 2) + (rz - 1) * v + 1 * 0), .int ((ry - 1) * (rb - 2) + (rz - 1) * (rc - 2) + 1 * 1)] : List V).take n) hD (fun _ _ _ _ _ h => h)
        refine lc_rngG (K := K) (n := 3) LG (Same.new hD) rfl (fun _ => rfl) ?_ ?_
        · intro n acc H3 hn ha hDa g ej
          obtain rfl | rfl | rfl : n = 0 ∨ n = 1 ∨ n = 2 := by omega
          all_goals
            walk_at "g"
            exact r_lcQ (K := K) LG (by decide) ha hDa g (by rw [ej]; rfl)
        · intro acc H3 ha hDa g ej
          subst ej
          replace hDa : H3 Da = some (.lst [.int ((ry - 1) * u + (rz - 1) * 0 + 1 * 0), .int ((ry - 1) * (ra - 2) + (rz - 1) * v + 1 * 0), .int ((ry - 1) * (rb - 2) + (rz - 1) * (rc - 2) + 1 * 1)]) := hDa
          walk_at "g"
          rename_i H5 w s5 hw
          refine r_appV (K := K) nF (by walk_at "same") (by walk_at "vl") hw (by simp) (fun H6 s6 t6 h6 => ?_)
          exact ⟨_, _, rfl, s6, h6⟩
    · rintro σ' H2 ⟨v11, v12, rfl, s2, hv2⟩
      replace hv2 : VL K H2 F [(⟨(((1 * u + 0 * 0 + 0 * 0) : Int) : Rat), (((1 * (ra - 2) + 0 * v + 0 * 0) : Int) : Rat), (((1 * (rb - 2) + 0 * (rc - 2) + 0 * 1) : Int) : Rat)⟩ : V3), (⟨((((rx - 1) * u + 1 * 0 + 0 * 0) : Int) : Rat), ((((rx - 1) * (ra - 2) + 1 * v + 0 * 0) : Int) : Rat), ((((rx - 1) * (rb - 2) + 1 * (rc - 2) + 0 * 1) : Int) : Rat)⟩ : V3), (⟨((((ry - 1) * u + (rz - 1) * 0 + 1 * 0) : Int) : Rat), ((((ry - 1) * (ra - 2) + (rz - 1) * v + 1 * 0) : Int) : Rat), ((((ry - 1) * (rb - 2) + (rz - 1) * (rc - 2) + 1 * 1) : Int) : Rat)⟩ : V3)] := hv2
      walk_at "g"
      refine r_tplV hv2 (fun x y z t H3 nt s3 ht g0 g1 g2 => ?_)
      walk_at "g"
      have hd : (1 * u + 0 * 0 + 0 * 0) * (((rx - 1) * (ra - 2) + 1 * v + 0 * 0) * ((ry - 1) * (rb - 2) + (rz - 1) * (rc - 2) + 1 * 1) - ((rx - 1) * (rb - 2) + 1 * (rc - 2) + 0 * 1) * ((ry - 1) * (ra - 2) + (rz - 1) * v + 1 * 0)) + (1 * (ra - 2) + 0 * v + 0 * 0) * (((rx - 1) * (rb - 2) + 1 * (rc - 2) + 0 * 1) * ((ry - 1) * u + (rz - 1) * 0 + 1 * 0) - ((rx - 1) * u + 1 * 0 + 0 * 0) * ((ry - 1) * (rb - 2) + (rz - 1) * (rc - 2) + 1 * 1)) + (1 * (rb - 2) + 0 * (rc - 2) + 0 * 1) * (((rx - 1) * u + 1 * 0 + 0 * 0) * ((ry - 1) * (ra - 2) + (rz - 1) * v + 1 * 0) - ((rx - 1) * (ra - 2) + 1 * v + 0 * 0) * ((ry - 1) * u + (rz - 1) * 0 + 1 * 0)) = u * v := by grind
      have huv : u * v ≠ 0 := by
        rcases hu with rfl | rfl | rfl <;> rcases hv with rfl | rfl | rfl <;> decide
      obtain ⟨w0, w1, w2⟩ := mat_rows hu hv lora hira lorb hirb lorc hirc lorx hirx lory hiry lorz hirz
      exact k _ _ _ _ _ (k0fr.trans (Same.fr (s2.trans s3))) (St.same s3 (St.same s2 k0st)) (Rw.mk (SqT.of ht) g0 g1 g2) w0 w1 w2 (det_ints (by rw [hd]; exact huv))
in #guard_msgs in universe u_z
abbrev s__law_move : Stmt := top 80
theorem sc__law_move : FnScope ["store", "found"] ["store"] (defScope s__law_move) := ⟨rfl, rfl, rfl, by decide +kernel, rfl, by decide +kernel, by decide +kernel⟩
set_option Elab.async true in
set_option maxHeartbeats 4000000 in
theorem ok__law_move {f : Addr} {fd : FuncData} (F : FunA K "_law_move" "_law_move" s__law_move f fd) (T : Blt mg) (C__law_matrix : Cal P w K mg base "_law_matrix" 4 ["store"] (sp__law_matrix K)) (C__law_take : Cal P w K mg base "_law_take" 2 ["store", "many"] (sp__law_take K)) (C__law_point : Cal P w K mg base "_law_point" 4 ["store"] (sp__law_point K)) (C__law_whole_vector : Cal P w K mg base "_law_whole_vector" 1 ["a", "b", "c"] (sp__law_whole_vector K)) : FnOk P w K mg base CX0 5 f fd ["store"] (sp__law_move K) := by
  refine F.ok sc__law_move (fun vs H Q E h => ?_) (fun cdv A outer s H vs Q E hr h => ?_)
  · obtain ⟨_, rfl, _⟩ := h
    rfl
  · obtain ⟨st, rfl, h0, k⟩ := h
    refine ⟨_, (pss_cons (ps_set (i := 1) sc__law_move.nd rfl (.inl rfl) (pc C__law_matrix (hr.mono (by decide)) (by rfl) (pa_cons (pv 0) pa_nil)))
 (pss_cons (ps_if (pt_cmpR op_eq (pc C__law_take (hr.mono (by decide)) (by rfl) (pa_cons (pv 0) (pa_cons pe_int pa_nil))) pe_int (nomark _))
 (pss_one (ps_ret (pe_tup (pa_cons (pv 1) (pa_cons (pc C__law_whole_vector (hr.mono (by decide)) (by rfl) (pa_cons pe_int (pa_cons pe_int (pa_cons pe_int pa_nil)))) pa_nil)))))
 pss_nil)
 (pss_one (ps_ret (pe_tup (pa_cons (pv 1) (pa_cons (pc C__law_point (hr.mono (by decide)) (by rfl) (pa_cons (pv 0) pa_nil)) pa_nil))))))), ?_⟩
    walk_at "g"
    rename_i H1 m p q r f1 s1 hm hp hq hr nz H2 e f2 s2 e0 e1
    refine if_eqI (fun c0 => ?_) (fun c0 => ?_)
    · walk_at "g"
      rename_i H3 v s3 hv t H4 nt s4 ht
      refine k _ _ ⟨p, q, r, _⟩ (by walk_at "fr") (by walk_at "st") ⟨m, v, by walk_at "sq", ?_, by walk_at "vc"⟩ ⟨hp, hq, hr, VN.le (VN.int3 (n := 6) (B.lit (by decide)) (B.lit (by decide)) (B.lit (by decide))) (by decide) (by decide), nz⟩
      exact Rw.same' s4 (Rw.same' s3 (Rw.fr f2 s1 hm))
    · walk_at "g"
      rename_i H3 v z f3 s3 hv bv t H4 nt s4 ht
      refine k _ _ ⟨p, q, r, z⟩ (by walk_at "fr") (by walk_at "st") ⟨m, v, by walk_at "sq", ?_, by walk_at "vc"⟩ ⟨hp, hq, hr, bv, nz⟩
      exact Rw.same' s4 (Rw.fr f3 s2 (Rw.fr f2 s1 hm))
in #guard_msgs in universe u_z
abbrev s__law_singular : Stmt := top 81
theorem sc__law_singular : FnScope ["store", "found", "at", "one"] ["store"] (defScope s__law_singular) := ⟨rfl, rfl, rfl, by decide +kernel, rfl, by decide +kernel, by decide +kernel⟩
set_option Elab.async true in
set_option maxHeartbeats 4000000 in
theorem ok__law_singular {f : Addr} {fd : FuncData} (F : FunA K "_law_singular" "_law_singular" s__law_singular f fd) (T : Blt mg) (C__law_take : Cal P w K mg base "_law_take" 2 ["store", "many"] (sp__law_take K)) (C__law_vmul : Cal P w K mg base "_law_vmul" 4 ["t", "v"] (sp__law_vmul K)) (C__law_vadd : Cal P w K mg base "_law_vadd" 4 ["u", "v"] (sp__law_vadd K)) (C__law_matrix : Cal P w K mg base "_law_matrix" 4 ["store"] (sp__law_matrix K)) : FnOk P w K mg base CX0 5 f fd ["store"] (sp__law_singular K) := by
  refine F.ok sc__law_singular (fun vs H Q E h => ?_) (fun cdv A outer s H vs Q E hr h => ?_)
  · obtain ⟨_, rfl, _⟩ := h
    rfl
  · obtain ⟨st, rfl, h0, k⟩ := h
    refine ⟨_, (pss_cons (ps_set (i := 1) sc__law_singular.nd rfl (.inl rfl) (pe_callTy (kc_list (K := K) rfl) (by rfl) T.list (by decide +kernel) (pa_cons (pc C__law_matrix (hr.mono (by decide)) (by rfl) (pa_cons (pv 0) pa_nil)) pa_nil)))
 (pss_cons (ps_set (i := 2) sc__law_singular.nd rfl (.inl rfl) (pc C__law_take (hr.mono (by decide)) (by rfl) (pa_cons (pv 0) (pa_cons pe_int pa_nil))))
 (pss_cons (ps_set (i := 3) sc__law_singular.nd rfl (.inl rfl) (pc C__law_vmul (hr.mono (by decide)) (by rfl) (pa_cons (pe_tup (pa_cons (pe_op op_sub (pc C__law_take (hr.mono (by decide)) (by rfl) (pa_cons (pv 0) (pa_cons pe_int pa_nil))) pe_int) (pa_cons pe_int pa_nil))) (pa_cons (pe_ix (kx_list (K := K) rfl) (pv 1) (pe_op op_sub (pv 2) pe_int) (fun _ _ => rfl)) pa_nil))))
 (pss_cons (ps_asg (pc C__law_vadd (hr.mono (by decide)) (by rfl) (pa_cons (pv 3) (pa_cons (pc C__law_vmul (hr.mono (by decide)) (by rfl) (pa_cons (pe_tup (pa_cons (pe_op op_sub (pc C__law_take (hr.mono (by decide)) (by rfl) (pa_cons (pv 0) (pa_cons pe_int pa_nil))) pe_int) (pa_cons pe_int pa_nil))) (pa_cons (pe_ix (kx_list (K := K) rfl) (pv 1) (pe_op op_sub (pv 2) pe_int) (fun _ _ => rfl)) pa_nil))) pa_nil))) (pg_sub (pv 1) (pv 2) set_list))
 (pss_one (ps_ret (pe_callTy (kc_tuple (K := K) rfl) (by rfl) T.tuple (by decide +kernel) (pa_cons (pv 1) pa_nil)))))))), ?_⟩
    walk_at "g"
    rename_i H1 m p q r f1 s1 hR hp hq hr hd
    obtain ⟨x, y, z, hm, v0, v1, v2⟩ := hR
    have np := hp.vn
    have nq := hq.vn
    have nr := hr.vn
    clear hp hq hr hd
    walk_at "g"
    rename_i l H2 nl s2 hl H3 i f3 s3 i0 i1 H4 c f4 s4 c0 c1 t1 H5 n5 s5 h5
    have hl4 : H5 l = some (.lst [.ref x, .ref y, .ref z]) := by walk_at "ls"
    have v00 : Vc K H5 x p := by walk_at "vc"
    have v10 : Vc K H5 y q := by walk_at "vc"
    have v20 : Vc K H5 z r := by walk_at "vc"
    clear hl hm v0 v1 v2
    have nl2 : H1 l = none := nl
    obtain rfl | rfl | rfl : i = 0 ∨ i = 1 ∨ i = 2 := by omega
    · walk_at "g"
      rename_i H6 w6 s6 v6 H7 c2 f7 s7 c20 c21 t2 H8 n8 s8 h8 H9 w9 s9 v9 H10 w10 s10 v10
      refine r_setV (l := l) (ps := [p, q, r]) (j := 0) nl2 (by walk_at "st") (by walk_at "fr") (by walk_at "st") ⟨_, by walk_at "ls", .cons ⟨_, rfl, by walk_at "vc"⟩ (.cons ⟨_, rfl, by walk_at "vc"⟩ (.cons ⟨_, rfl, by walk_at "vc"⟩ .nil))⟩ v10 rfl (fun H11 f11 s11 t11 hV => ?_)
      walk_at "g"
      refine r_tplV (p := (va (My.sc ((c - 1 : Int) : Rat) r) (My.sc ((c2 - 1 : Int) : Rat) q))) (q := q) (r := r) hV (fun x y z t H12 nt s12 ht g0 g1 g2 => ?_)
      walk_at "g"
      have bc : BN 12 1 ((c - 1 : Int) : Rat) := BN.int (B.rng (by omega) (by omega))
      have bc2 : BN 12 1 ((c2 - 1 : Int) : Rat) := BN.int (B.rng (by omega) (by omega))
      exact k _ _ _ _ _ (f1.trans (f11.trans (Same.fr s12))) (St.same s12 s11) (Rw.mk (SqT.of ht) g0 g1 g2) (VN.le (by walk_at "vn") (by decide) (by decide)) (VN.le (by walk_at "vn") (by decide) (by decide)) (VN.le (by walk_at "vn") (by decide) (by decide)) (by simp only [dt, va, My.sc, cr]; grind)
    · walk_at "g"
      rename_i H6 w6 s6 v6 H7 c2 f7 s7 c20 c21 t2 H8 n8 s8 h8 H9 w9 s9 v9 H10 w10 s10 v10
      refine r_setV (l := l) (ps := [p, q, r]) (j := 1) nl2 (by walk_at "st") (by walk_at "fr") (by walk_at "st") ⟨_, by walk_at "ls", .cons ⟨_, rfl, by walk_at "vc"⟩ (.cons ⟨_, rfl, by walk_at "vc"⟩ (.cons ⟨_, rfl, by walk_at "vc"⟩ .nil))⟩ v10 rfl (fun H11 f11 s11 t11 hV => ?_)
      walk_at "g"
      refine r_tplV (p := p) (q := (va (My.sc ((c - 1 : Int) : Rat) p) (My.sc ((c2 - 1 : Int) : Rat) r))) (r := r) hV (fun x y z t H12 nt s12 ht g0 g1 g2 => ?_)
      walk_at "g"
      have bc : BN 12 1 ((c - 1 : Int) : Rat) := BN.int (B.rng (by omega) (by omega))
      have bc2 : BN 12 1 ((c2 - 1 : Int) : Rat) := BN.int (B.rng (by omega) (by omega))
      exact k _ _ _ _ _ (f1.trans (f11.trans (Same.fr s12))) (St.same s12 s11) (Rw.mk (SqT.of ht) g0 g1 g2) (VN.le (by walk_at "vn") (by decide) (by decide)) (VN.le (by walk_at "vn") (by decide) (by decide)) (VN.le (by walk_at "vn") (by decide) (by decide)) (by simp only [dt, va, My.sc, cr]; grind)
    · walk_at "g"
      rename_i H6 w6 s6 v6 H7 c2 f7 s7 c20 c21 t2 H8 n8 s8 h8 H9 w9 s9 v9 H10 w10 s10 v10
      refine r_setV (l := l) (ps := [p, q, r]) (j := 2) nl2 (by walk_at "st") (by walk_at "fr") (by walk_at "st") ⟨_, by walk_at "ls", .cons ⟨_, rfl, by walk_at "vc"⟩ (.cons ⟨_, rfl, by walk_at "vc"⟩ (.cons ⟨_, rfl, by walk_at "vc"⟩ .nil))⟩ v10 rfl (fun H11 f11 s11 t11 hV => ?_)
      walk_at "g"
      refine r_tplV (p := p) (q := q) (r := (va (My.sc ((c - 1 : Int) : Rat) q) (My.sc ((c2 - 1 : Int) : Rat) p))) hV (fun x y z t H12 nt s12 ht g0 g1 g2 => ?_)
      walk_at "g"
      have bc : BN 12 1 ((c - 1 : Int) : Rat) := BN.int (B.rng (by omega) (by omega))
      have bc2 : BN 12 1 ((c2 - 1 : Int) : Rat) := BN.int (B.rng (by omega) (by omega))
      exact k _ _ _ _ _ (f1.trans (f11.trans (Same.fr s12))) (St.same s12 s11) (Rw.mk (SqT.of ht) g0 g1 g2) (VN.le (by walk_at "vn") (by decide) (by decide)) (VN.le (by walk_at "vn") (by decide) (by decide)) (VN.le (by walk_at "vn") (by decide) (by decide)) (by simp only [dt, va, My.sc, cr]; grind)
in #guard_msgs in universe u_z
abbrev s__law_moved_vector : Stmt := top 82
theorem sc__law_moved_vector : FnScope ["move", "v"] ["move", "v"] (defScope s__law_moved_vector) := ⟨rfl, rfl, rfl, by decide +kernel, rfl, by decide +kernel, by decide +kernel⟩
set_option Elab.async true in
set_option maxHeartbeats 4000000 in
theorem ok__law_moved_vector {f : Addr} {fd : FuncData} (F : FunA K "_law_moved_vector" "_law_moved_vector" s__law_moved_vector f fd) (T : Blt mg) (C__law_vdot : Cal P w K mg base "_law_vdot" 4 ["u", "v"] (sp__law_vdot K)) : FnOk P w K mg base CX0 5 f fd ["move", "v"] (sp__law_moved_vector K) := by
  refine F.ok sc__law_moved_vector (fun vs H Q E h => ?_) (fun cdv A outer s H vs Q E hr h => ?_)
  · obtain ⟨_, _, _, _, _, _, _, _, rfl, _⟩ := h
    rfl
  · obtain ⟨m, v, A, p, n1, d1, n2, d2, rfl, h0, h1, h2, h3, h4, h5, k⟩ := h
    refine ⟨_, (pss_one (ps_ret (pe_tup (pa_cons (pc C__law_vdot (hr.mono (by decide)) (by rfl) (pa_cons (pe_ix (kx_tup (K := K) rfl) (pe_ix (kx_tup (K := K) rfl) (pv 0) pe_int (fun _ _ => rfl)) pe_int (fun _ _ => rfl)) (pa_cons (pv 1) pa_nil))) (pa_cons (pc C__law_vdot (hr.mono (by decide)) (by rfl) (pa_cons (pe_ix (kx_tup (K := K) rfl) (pe_ix (kx_tup (K := K) rfl) (pv 0) pe_int (fun _ _ => rfl)) pe_int (fun _ _ => rfl)) (pa_cons (pv 1) pa_nil))) (pa_cons (pc C__law_vdot (hr.mono (by decide)) (by rfl) (pa_cons (pe_ix (kx_tup (K := K) rfl) (pe_ix (kx_tup (K := K) rfl) (pv 0) pe_int (fun _ _ => rfl)) pe_int (fun _ _ => rfl)) (pa_cons (pv 1) pa_nil))) pa_nil)))))), ?_⟩
    obtain ⟨mr, ms, mt, ⟨m0, m1, m2, mu, ma, mb, mc⟩, md⟩ := h0
    walk_at "a"
    exact k _ _ (by walk_at "same") (Vc.mk (by walk_at "sq") (by walk_at "sq") (by walk_at "sq") (by walk_at "sq"))
in #guard_msgs in universe u_z
abbrev s__law_moved : Stmt := top 83
theorem sc__law_moved : FnScope ["move", "p"] ["move", "p"] (defScope s__law_moved) := ⟨rfl, rfl, rfl, by decide +kernel, rfl, by decide +kernel, by decide +kernel⟩
set_option Elab.async true in
set_option maxHeartbeats 4000000 in
theorem ok__law_moved {f : Addr} {fd : FuncData} (F : FunA K "_law_moved" "_law_moved" s__law_moved f fd) (T : Blt mg) (C__law_vadd : Cal P w K mg base "_law_vadd" 4 ["u", "v"] (sp__law_vadd K)) (C__law_moved_vector : Cal P w K mg base "_law_moved_vector" 5 ["move", "v"] (sp__law_moved_vector K)) : FnOk P w K mg base CX0 6 f fd ["move", "p"] (sp__law_moved K) := by
  refine F.ok sc__law_moved (fun vs H Q E h => ?_) (fun cdv A outer s H vs Q E hr h => ?_)
  · obtain ⟨_, _, _, _, _, _, _, _, rfl, _⟩ := h
    rfl
  · obtain ⟨m, v, A, p, n1, d1, n2, d2, rfl, h0, h1, h2, h3, h4, h5, k⟩ := h
    refine ⟨_, (pss_one (ps_ret (pc C__law_vadd (hr.mono (by decide)) (by rfl) (pa_cons (pc C__law_moved_vector (hr.mono (by decide)) (by rfl) (pa_cons (pv 0) (pa_cons (pv 1) pa_nil))) (pa_cons (pe_ix (kx_tup (K := K) rfl) (pv 0) pe_int (fun _ _ => rfl)) pa_nil))))), ?_⟩
    have hm := h0
    obtain ⟨mr, ms, mt, ⟨m0, m1, m2, mu, ma, mb, mc⟩, md⟩ := h0
    walk_at "a"
    exact k _ _ (by walk_at "same") (show Vc K _ _ (va (mvec A p) A.s) by walk_at "vc")
in #guard_msgs in universe u_z
abbrev s__law_det : Stmt := top 84
theorem sc__law_det : FnScope ["move"] ["move"] (defScope s__law_det) := ⟨rfl, rfl, rfl, by decide +kernel, rfl, by decide +kernel, by decide +kernel⟩
set_option Elab.async true in
set_option maxHeartbeats 4000000 in
theorem ok__law_det {f : Addr} {fd : FuncData} (F : FunA K "_law_det" "_law_det" s__law_det f fd) (T : Blt mg) (C__law_vdot : Cal P w K mg base "_law_vdot" 4 ["u", "v"] (sp__law_vdot K)) (C__law_vcross : Cal P w K mg base "_law_vcross" 4 ["u", "v"] (sp__law_vcross K)) : FnOk P w K mg base CX0 5 f fd ["move"] (sp__law_det K) := by
  refine F.ok sc__law_det (fun vs H Q E h => ?_) (fun cdv A outer s H vs Q E hr h => ?_)
  · obtain ⟨_, _, _, _, rfl, _⟩ := h
    rfl
  · obtain ⟨m, A, n1, d1, rfl, h0, h1, h2, h3, k⟩ := h
    refine ⟨_, (pss_one (ps_ret (pc C__law_vdot (hr.mono (by decide)) (by rfl) (pa_cons (pe_ix (kx_tup (K := K) rfl) (pe_ix (kx_tup (K := K) rfl) (pv 0) pe_int (fun _ _ => rfl)) pe_int (fun _ _ => rfl)) (pa_cons (pc C__law_vcross (hr.mono (by decide)) (by rfl) (pa_cons (pe_ix (kx_tup (K := K) rfl) (pe_ix (kx_tup (K := K) rfl) (pv 0) pe_int (fun _ _ => rfl)) pe_int (fun _ _ => rfl)) (pa_cons (pe_ix (kx_tup (K := K) rfl) (pe_ix (kx_tup (K := K) rfl) (pv 0) pe_int (fun _ _ => rfl)) pe_int (fun _ _ => rfl)) pa_nil))) pa_nil))))), ?_⟩
    obtain ⟨mr, ms, mt, ⟨m0, m1, m2, mu, ma, mb, mc⟩, md⟩ := h0
    walk_at "a"
    exact k _ _ (by walk_at "same") (show SqT K _ _ [.int (dt A.a (cr A.b A.c)).num, .int ((dt A.a (cr A.b A.c)).den : Int)] by walk_at "sq")
in #guard_msgs in universe u_z
abbrev s__law_only : Stmt := top 85
theorem sc__law_only : FnScope ["e"] ["e"] (defScope s__law_only) := ⟨rfl, rfl, rfl, by decide +kernel, rfl, by decide +kernel, by decide +kernel⟩
set_option Elab.async true in
set_option maxHeartbeats 4000000 in
theorem ok__law_only_E_Singular {f : Addr} {fd : FuncData} (F : FunA K "_law_only" "_law_only" s__law_only f fd) (T : Blt mg) {ec : Ecl} (EC : EF K mg ec) : FnE P w K mg base CX0 1 ec.c_Singular f fd ["e"] (sp__law_only_E_Singular K ec) := by
  refine F.okE sc__law_only rfl (fun cdv A outer s H Q E p hot hcls hr h => ?_)
  obtain ⟨a, e_, k⟩ := h
  cases e_
  obtain ⟨hh_, vs_, hv_, _⟩ := id hot
  have hfld : ∃ vs, p.2.data = .fields vs := ⟨vs_, hv_⟩
  have qi_Singular_SpaceError := EC.i_Singular_SpaceError
  have qi_Singular_TextFault := EC.i_Singular_TextFault
  have qi_Singular_RunFault := EC.i_Singular_RunFault
  have qi_Singular_BadRow := EC.i_Singular_BadRow
  have qi_Singular_ZeroDenominator := EC.i_Singular_ZeroDenominator
  have qi_Singular_NoNormal := EC.i_Singular_NoNormal
  have qi_Singular_InLine := EC.i_Singular_InLine
  have qi_Singular_Flat := EC.i_Singular_Flat
  have qi_Singular_BadPolygon := EC.i_Singular_BadPolygon
  have qi_Singular_Singular := EC.i_Singular_Singular
  have qi_Singular_NoDirection := EC.i_Singular_NoDirection
  have qi_Singular_BadPath := EC.i_Singular_BadPath
  have qi_Singular_TooLarge := EC.i_Singular_TooLarge
  have qi_Singular_BadOrder := EC.i_Singular_BadOrder
  have qi_Singular_Unbounded := EC.i_Singular_Unbounded
  have qi_Singular_NoParting := EC.i_Singular_NoParting
  have qi_Singular_NothingToUndo := EC.i_Singular_NothingToUndo
  have qv_Singular := EC.v_Singular
  refine ⟨_, (pss_cons (ps_if (PW.pt (pw_or (pt_not (pt_val (pe_callB (kc_isP (K := K) rfl (p := p) (List.mem_singleton.mpr rfl) EC.x_Singular hcls.1 hcls.2 hfld) (by rfl) T.isinstance (by decide +kernel) (pa_cons (pv 0) (pa_cons (pe_bltn (v := .ty "ValueError") (u := .type "ValueError") (by rfl) EC.ve (by decide +kernel) rfl) pa_nil))))) (pw_or1 (pt_not (pt_val (pe_callB (kc_isP (K := K) rfl (p := p) (List.mem_singleton.mpr rfl) EC.x_Singular hcls.1 hcls.2 hfld) (by rfl) T.isinstance (by decide +kernel) (pa_cons (pv 0) (pa_cons (pe_glob (v := .ref ec.c_SpaceError) (by rfl) EC.g_SpaceError rfl) pa_nil))))))))
 (pss_one (ps_ret pe_bl))
 pss_nil)
 (pss_one (ps_ret (pe_not (pe_callB (kc_isAT (K := K) rfl (a := p.1) (oe := p.2) (List.mem_singleton.mpr rfl) EC.x_Singular hcls.1 hcls.2 hfld) (by rfl) T.isinstance (by decide +kernel) (pa_cons (pv 0) (pa_cons (pe_tup (pa_cons (pe_glob (v := .ref ec.c_TextFault) (by rfl) EC.g_TextFault rfl) (pa_cons (pe_glob (v := .ref ec.c_RunFault) (by rfl) EC.g_RunFault rfl) (pa_cons (pe_glob (v := .ref ec.c_BadRow) (by rfl) EC.g_BadRow rfl) (pa_cons (pe_glob (v := .ref ec.c_ZeroDenominator) (by rfl) EC.g_ZeroDenominator rfl) (pa_cons (pe_glob (v := .ref ec.c_NoNormal) (by rfl) EC.g_NoNormal rfl) (pa_cons (pe_glob (v := .ref ec.c_InLine) (by rfl) EC.g_InLine rfl) (pa_cons (pe_glob (v := .ref ec.c_Flat) (by rfl) EC.g_Flat rfl) (pa_cons (pe_glob (v := .ref ec.c_BadPolygon) (by rfl) EC.g_BadPolygon rfl) (pa_cons (pe_glob (v := .ref ec.c_NoDirection) (by rfl) EC.g_NoDirection rfl) (pa_cons (pe_glob (v := .ref ec.c_BadPath) (by rfl) EC.g_BadPath rfl) (pa_cons (pe_glob (v := .ref ec.c_TooLarge) (by rfl) EC.g_TooLarge rfl) (pa_cons (pe_glob (v := .ref ec.c_BadOrder) (by rfl) EC.g_BadOrder rfl) (pa_cons (pe_glob (v := .ref ec.c_Unbounded) (by rfl) EC.g_Unbounded rfl) (pa_cons (pe_glob (v := .ref ec.c_NoParting) (by rfl) EC.g_NoParting rfl) (pa_cons (pe_glob (v := .ref ec.c_NothingToUndo) (by rfl) EC.g_NothingToUndo rfl) pa_nil)))))))))))))))) pa_nil))))))), ?_⟩
  walk_at "g"
  exact k _ (by walk_at "same")
in #guard_msgs in universe u_z
abbrev s__law_refused : Stmt := top 86
theorem sc__law_refused : FnScope ["rows", "shift", "factors", "e"] ["rows", "shift", "factors"] (defScope s__law_refused) := ⟨rfl, rfl, rfl, by decide +kernel, rfl, by decide +kernel, by decide +kernel⟩
set_option Elab.async true in
set_option maxHeartbeats 4000000 in
theorem ok__law_refused {f : Addr} {fd : FuncData} (F : FunA K "_law_refused" "_law_refused" s__law_refused f fd) (T : Blt mg) {ec : Ecl} (EC : EF K mg ec) (CX_make_move : CalX P w K mg base "make_move" 5 ["rows", "shift"] (sp_make_move_X K ec)) (CX_scale_by : CalX P w K mg base "scale_by" 4 ["factors"] (sp_scale_by_X K ec)) (CE__law_only_Singular : CalE P w K mg base ec.c_Singular "_law_only" 1 ["e"] (sp__law_only_E_Singular K ec)) : FnOk P w K mg base CX0 6 f fd ["rows", "shift", "factors"] (sp__law_refused K) := by
  refine F.ok sc__law_refused (fun vs H Q E h => ?_) (fun cdv A outer s H vs Q E hr h => ?_)
  · obtain ⟨_, _, _, _, _, _, _, _, rfl, _⟩ := h
    rfl
  · obtain ⟨u, v, f', g, h, A, n1, d1, rfl, h0, h1, h2, h3, h4, h5, h6, h7, h8, k⟩ := h
    have qm_Singular_SpaceError := EC.m_Singular_SpaceError
    have qi_Singular_SpaceError := EC.i_Singular_SpaceError
    have qi_Singular_TextFault := EC.i_Singular_TextFault
    have qi_Singular_RunFault := EC.i_Singular_RunFault
    have qi_Singular_BadRow := EC.i_Singular_BadRow
    have qi_Singular_ZeroDenominator := EC.i_Singular_ZeroDenominator
    have qi_Singular_NoNormal := EC.i_Singular_NoNormal
    have qi_Singular_InLine := EC.i_Singular_InLine
    have qi_Singular_Flat := EC.i_Singular_Flat
    have qi_Singular_BadPolygon := EC.i_Singular_BadPolygon
    have qi_Singular_Singular := EC.i_Singular_Singular
    have qi_Singular_NoDirection := EC.i_Singular_NoDirection
    have qi_Singular_BadPath := EC.i_Singular_BadPath
    have qi_Singular_TooLarge := EC.i_Singular_TooLarge
    have qi_Singular_BadOrder := EC.i_Singular_BadOrder
    have qi_Singular_Unbounded := EC.i_Singular_Unbounded
    have qi_Singular_NoParting := EC.i_Singular_NoParting
    have qi_Singular_NothingToUndo := EC.i_Singular_NothingToUndo
    have qv_Singular := EC.v_Singular
    refine ⟨_, (pss_cons (ps_try0 (K := K) rfl (i := 3) rfl rfl sc__law_refused.nd rfl rfl ⟨by rfl, by decide, .inl EC.g_SpaceError⟩ takesN (fun W pn xe tk _ => (pss_one (ps_if (pt_cmpR ko_isN (pv 2) pe_non (nomark _))
 (pss_one (ps_expr (pcS CX_make_move (hr.mono (by decide)) (by rfl) tk (pa_cons (pv 0) (pa_cons (pv 1) pa_nil)))))
 (pss_one (ps_expr (pcS CX_scale_by (hr.mono (by decide)) (by rfl) tk (pa_cons (pv 2) pa_nil)))))))
 (fun a oe cls d pn hz hf => pss_ifR (R := cls = .ref ec.c_Singular ∧ d = none) (fun hR => (pss_one (ps_ret (pe_and (pe_callB (kc_isA (K := K) rfl (List.mem_cons_self (a := (a, oe)) (l := pn)) EC.x_Singular (hz.1.trans hR.1) (hz.2.1.trans hR.2) hf) (by rfl) T.isinstance (by decide +kernel) (pa_cons (pv 3) (pa_cons (pe_glob (v := .ref ec.c_Singular) (by rfl) EC.g_Singular rfl) pa_nil))) (pe_one (pcA CE__law_only_Singular (roomH_mark (hr.mono (by decide))) (hot_of hz hf) (List.mem_cons_self (a := (a, oe)) (l := pn)) (hz.1.trans hR.1) (hz.2.1.trans hR.2) (by rfl) (pa_cons (pv 3) pa_nil)))))))))
 (pss_one (ps_ret pe_bl))), ?_⟩
    walk_at "g"
    exact k _ (by walk_at "same")
in #guard_msgs in universe u_z
set_option Elab.async true in
set_option maxHeartbeats 4000000 in
theorem ok__law_refused_V_B {f : Addr} {fd : FuncData} (F : FunA K "_law_refused" "_law_refused" s__law_refused f fd) (T : Blt mg) {ec : Ecl} (EC : EF K mg ec) (CX_make_move : CalX P w K mg base "make_move" 5 ["rows", "shift"] (sp_make_move_X K ec)) (CX_scale_by : CalX P w K mg base "scale_by" 4 ["factors"] (sp_scale_by_X K ec)) (CE__law_only_Singular : CalE P w K mg base ec.c_Singular "_law_only" 1 ["e"] (sp__law_only_E_Singular K ec)) : FnOk P w K mg base CX0 6 f fd ["rows", "shift", "factors"] (sp__law_refused_V_B K) := by
  refine F.ok sc__law_refused (fun vs H Q E h => ?_) (fun cdv A outer s H vs Q E hr h => ?_)
  · obtain ⟨_, _, _, _, _, _, _, rfl, _⟩ := h
    rfl
  · obtain ⟨v, x, y, z, p, q, r, rfl, h0, h1, h2, h3, h4, k⟩ := h
    have qm_Singular_SpaceError := EC.m_Singular_SpaceError
    have qi_Singular_SpaceError := EC.i_Singular_SpaceError
    have qi_Singular_TextFault := EC.i_Singular_TextFault
    have qi_Singular_RunFault := EC.i_Singular_RunFault
    have qi_Singular_BadRow := EC.i_Singular_BadRow
    have qi_Singular_ZeroDenominator := EC.i_Singular_ZeroDenominator
    have qi_Singular_NoNormal := EC.i_Singular_NoNormal
    have qi_Singular_InLine := EC.i_Singular_InLine
    have qi_Singular_Flat := EC.i_Singular_Flat
    have qi_Singular_BadPolygon := EC.i_Singular_BadPolygon
    have qi_Singular_Singular := EC.i_Singular_Singular
    have qi_Singular_NoDirection := EC.i_Singular_NoDirection
    have qi_Singular_BadPath := EC.i_Singular_BadPath
    have qi_Singular_TooLarge := EC.i_Singular_TooLarge
    have qi_Singular_BadOrder := EC.i_Singular_BadOrder
    have qi_Singular_Unbounded := EC.i_Singular_Unbounded
    have qi_Singular_NoParting := EC.i_Singular_NoParting
    have qi_Singular_NothingToUndo := EC.i_Singular_NothingToUndo
    have qv_Singular := EC.v_Singular
    refine ⟨_, (pss_cons (ps_try0 (K := K) rfl (i := 3) rfl rfl sc__law_refused.nd rfl rfl ⟨by rfl, by decide, .inl EC.g_SpaceError⟩ takesN (fun W pn xe tk _ => (pss_one (ps_if (pt_cmpR ko_isN (pv 2) pe_non (nomark _))
 (pss_one (ps_expr (pcS CX_make_move (hr.mono (by decide)) (by rfl) tk (pa_cons (pv 0) (pa_cons (pv 1) pa_nil)))))
 (pss_one (ps_expr (pcS CX_scale_by (hr.mono (by decide)) (by rfl) tk (pa_cons (pv 2) pa_nil)))))))
 (fun a oe cls d pn hz hf => pss_ifR (R := cls = .ref ec.c_Singular ∧ d = none) (fun hR => (pss_one (ps_ret (pe_and (pe_callB (kc_isA (K := K) rfl (List.mem_cons_self (a := (a, oe)) (l := pn)) EC.x_Singular (hz.1.trans hR.1) (hz.2.1.trans hR.2) hf) (by rfl) T.isinstance (by decide +kernel) (pa_cons (pv 3) (pa_cons (pe_glob (v := .ref ec.c_Singular) (by rfl) EC.g_Singular rfl) pa_nil))) (pe_one (pcA CE__law_only_Singular (roomH_mark (hr.mono (by decide))) (hot_of hz hf) (List.mem_cons_self (a := (a, oe)) (l := pn)) (hz.1.trans hR.1) (hz.2.1.trans hR.2) (by rfl) (pa_cons (pv 3) pa_nil)))))))))
 (pss_one (ps_ret pe_bl))), ?_⟩
    walk_at "g"
    exact k _ (by walk_at "same")
in #guard_msgs in universe u_z
abbrev s__law_great : Stmt := top 87
theorem sc__law_great : FnScope ["store", "tops", "k", "top"] ["store"] (defScope s__law_great) := ⟨rfl, rfl, rfl, by decide +kernel, rfl, by decide +kernel, by decide +kernel⟩
set_option Elab.async true in
set_option maxHeartbeats 4000000 in
theorem ok__law_great {f : Addr} {fd : FuncData} (F : FunA K "_law_great" "_law_great" s__law_great f fd) (T : Blt mg) (C__law_wide : Cal P w K mg base "_law_wide" 3 ["store", "many"] (sp__law_wide K)) (C__law_frac : Cal P w K mg base "_law_frac" 2 ["top", "bottom"] (sp__law_frac K)) (C__law_take : Cal P w K mg base "_law_take" 2 ["store", "many"] (sp__law_take K)) : FnOk P w K mg base CX0 4 f fd ["store"] (sp__law_great K) := by
  refine F.ok sc__law_great (fun vs H Q E h => ?_) (fun cdv A outer s H vs Q E hr h => ?_)
  · obtain ⟨_, rfl, _⟩ := h
    rfl
  · obtain ⟨st, rfl, h0, k⟩ := h
    refine ⟨_, (pss_cons (ps_setLc (i := 1) (own := [("k", 2)]) rfl sc__law_great.nd rfl rfl (sw_true rfl rfl rfl (by decide +kernel)) (pi_range1 (by rfl) T.range (pa_cons pe_int pa_nil)) (blkOk_by (own := [("k", 2)]) (N := ["store", "tops", "k", "top"]) (sc := defScope s__law_great) (by decide +kernel)) (fun _ _ _ _ _ => (pg_name (i := 2) sc__law_great.nd rfl (.inl rfl))) (fun _ _ _ _ _ => pts_nil) (fun _ _ _ _ _ => (pe_op op_sub (pc C__law_wide (hr.mono (by decide)) (by rfl) (pa_cons (pv 0) (pa_cons pe_int pa_nil))) (pe_op op_mulW pe_int (pe_op op_pow pe_int pe_int)))))
 (pss_one (ps_ret (pe_callTy (kc_tuple (K := K) rfl) (by rfl) T.tuple (by decide +kernel) (pa_cons (pe_lc (own := [("top", 3)]) rfl sc__law_great.nd (kp_list (K := K) rfl (pv 1)) (blkOk_by (own := [("top", 3)]) (N := ["store", "tops", "k", "top"]) (sc := defScope s__law_great) (by decide +kernel)) (fun _ _ _ _ _ => (pg_name (i := 3) sc__law_great.nd rfl (.inl rfl))) (fun _ _ _ _ _ => pts_nil) (fun _ _ _ _ _ => (pc C__law_frac (hr.mono (by decide)) (by rfl) (pa_cons (pv 3) (pa_cons (pe_op op_add pe_int (pc C__law_wide (hr.mono (by decide)) (by rfl) (pa_cons (pv 0) (pa_cons (pc C__law_take (hr.mono (by decide)) (by rfl) (pa_cons (pv 0) (pa_cons pe_int pa_nil))) pa_nil)))) pa_nil))))) pa_nil))))), ?_⟩
    walk_at "g"
    intro Da hD
    have LG := lcG_go (K := K) (s := st) (J := fun i acc _ => ∃ ts : List Int, acc = ts.map V.int ∧ ∀ t, t ∈ ts → B 134 t) hD h0 (fun _ _ _ _ _ h => h)
    refine lc_rngG (K := K) (n := 3) LG (go_new hD h0) ⟨[], rfl, fun _ h => by cases h⟩ (fun _ => rfl) ?_ ?_
    · rintro i acc H4 hi ha hDa ⟨fg, sg⟩ ⟨ts, rfl, jb⟩
      walk_at "g"
      rename_i H5 z f5 s5 z0 z1
      have bz : B 134 (z - 5 * 10 ^ (39 : Int).toNat) := B.rng (by have e : (10 : Int) ^ (39 : Int).toNat = 10 ^ 39 := rfl; rw [e]; omega) (by have e : (10 : Int) ^ (40 : Int).toNat = 10 ^ 40 := rfl; rw [e] at z1; have e : (10 : Int) ^ (39 : Int).toNat = 10 ^ 39 := rfl; rw [e]; omega)
      refine r_lcQ (K := K) LG (by omega) ha (Fr.lstN f5 sg hDa (notS_len (by rw [ha]; simp; omega))) ⟨fg.trans f5, s5⟩ ⟨ts ++ [z - 5 * 10 ^ (39 : Int).toNat], by rw [List.map_append]; rfl, fun t ht => ?_⟩
      rcases List.mem_append.1 ht with ht | ht
      · exact jb t ht
      · rw [List.mem_singleton.1 ht]; exact bz
    · rintro acc H4 ha hDa ⟨fg, sg⟩ ⟨ts, rfl, jb⟩
      have hx : notS (ts.map V.int) = true := notS_len (by rw [ha]; rfl)
      walk_at "g"
      intro Db hDb
      have LG2 := lcG_go (K := K) (s := st) (J := fun n acc H' => ∃ qs, QtL K H' acc qs ∧ ∀ q, q ∈ qs → BN 134 134 q) hDb sg (fun _ _ _ _ e ⟨qs, h, h2⟩ => ⟨qs, h.tk e, h2⟩)
      refine lc_lstG (K := K) (xs := ts.map V.int) LG2 (go_new hDb sg) ⟨[], .nil, fun _ h => by cases h⟩ (fun H1 acc _ g => SqL.of (Fr.lstN g.1 sg hDa hx)) (fun _ => rfl) ?_ ?_
      · rintro i u ac2 H5 hu ha2 hD2 ⟨f5, s5⟩ ⟨qs, Jq, Jb⟩
        have hi := (List.getElem?_eq_some_iff.1 hu).1
        rw [ha] at hi
        rw [List.getElem?_map, Option.map_eq_some_iff] at hu
        obtain ⟨t, et, rfl⟩ := hu
        have bt := jb t (List.mem_of_getElem? et)
        walk_at "g"
        rename_i H6 n f6 s6 n0 n1 H7 w f7 s7 w0 w1
        have bb2 : B 134 (1 + w) := by
          have q := p10 (show n.toNat ≤ 39 by omega)
          exact B.rng (by omega) (by have e2 : (10 : Int) ^ 39 + 10 < 2 ^ 134 := (by decide); omega)
        refine u__law_frac (by omega) (bb2.le (by decide)) ?_
        intro H8 a s8 hq
        refine r_lcQ (K := K) LG2 (by omega) ha2 (s8 _ _ (Fr.lstN f7 s6 (Fr.lstN f6 s5 hD2 Jq.notS) Jq.notS)) ⟨f5.trans (f6.trans (f7.trans (Same.fr s8))), St.same s8 s7⟩ ⟨qs ++ [_], (Jq.tk (TK.trans (TK.fr f6 s5) (TK.trans (TK.fr f7 s6) (TK.same s8)))).snoc hq, fun q hm => ?_⟩
        rcases List.mem_append.1 hm with hm | hm
        · exact Jb q hm
        · rw [List.mem_singleton.1 hm]
          exact BN.dv (by omega) bt bb2
      · rintro ac2 H5 ha2 hD2 ⟨f5, s5⟩ ⟨qs, Jq, Jb⟩
        obtain ⟨x, y, z, rfl⟩ : ∃ x y z, qs = [x, y, z] := by
          have := Jq.len
          rw [ha2, ha] at this
          match qs, this with
          | [x, y, z], _ => exact ⟨x, y, z, rfl⟩
        obtain ⟨a0, a1, a2, rfl, r0, r1, r2⟩ := QtL.three Jq
        walk_at "g"
        rename_i T6 H6 n6 s6 h6
        exact k _ _ ⟨x, y, z⟩ (fg.trans (f5.trans (Same.fr s6))) (St.same s6 s5) ⟨a0, a1, a2, SqT.of h6, Same.tup s6 r0, Same.tup s6 r1, Same.tup s6 r2⟩ ⟨Jb x (by simp), Jb y (by simp), Jb z (by simp)⟩
in #guard_msgs in universe u_z
abbrev s__law_either : Stmt := top 88
theorem sc__law_either : FnScope ["store", "parts"] ["store", "parts"] (defScope s__law_either) := ⟨rfl, rfl, rfl, by decide +kernel, rfl, by decide +kernel, by decide +kernel⟩
set_option Elab.async true in
set_option maxHeartbeats 4000000 in
theorem ok__law_either {f : Addr} {fd : FuncData} (F : FunA K "_law_either" "_law_either" s__law_either f fd) (T : Blt mg) (C__law_take : Cal P w K mg base "_law_take" 2 ["store", "many"] (sp__law_take K)) : FnOk P w K mg base CX0 3 f fd ["store", "parts"] (sp__law_either K) := by
  refine F.ok sc__law_either (fun vs H Q E h => ?_) (fun cdv A outer s H vs Q E hr h => ?_)
  · obtain ⟨_, _, _, rfl, _⟩ := h
    rfl
  · obtain ⟨st, l, xs, rfl, h0, h1, h2, h3, k⟩ := h
    refine ⟨_, (pss_cons (ps_if (pt_cmpR op_eq (pc C__law_take (hr.mono (by decide)) (by rfl) (pa_cons (pv 0) (pa_cons pe_int pa_nil))) pe_int (nomark _))
 (pss_one (ps_ret (pe_callTy (kc_tuple (K := K) rfl) (by rfl) T.tuple (by decide +kernel) (pa_cons (pv 1) pa_nil))))
 pss_nil)
 (pss_one (ps_ret (pe_callTy (kc_list (K := K) rfl) (by rfl) T.list (by decide +kernel) (pa_cons (pv 1) pa_nil))))), ?_⟩
    have q0 := h1
    walk_at "g"
    rename_i H1 r f1 s1 r0 r1
    have q1 : H1 l = some (.lst xs) := Fr.lstN f1 h0 h1 h3
    refine if_eqI (fun _ => ?_) (fun _ => ?_)
    · walk_at "g"
      exact k _ _ (by walk_at "fr") (by walk_at "st") (.inl (by walk_at "sq"))
    · walk_at "g"
      rename_i l2 H2 n2 s2 h2
      exact k _ _ (by walk_at "fr") (by walk_at "st") (.inr ⟨Fr.nonB f1 h0 n2, by walk_at "ls"⟩)
in #guard_msgs in universe u_z
abbrev s__law_turned : Stmt := top 89
theorem sc__law_turned : FnScope ["at", "p"] ["at", "p"] (defScope s__law_turned) := ⟨rfl, rfl, rfl, by decide +kernel, rfl, by decide +kernel, by decide +kernel⟩
set_option Elab.async true in
set_option maxHeartbeats 4000000 in
theorem ok__law_turned {f : Addr} {fd : FuncData} (F : FunA K "_law_turned" "_law_turned" s__law_turned f fd) (T : Blt mg) : FnOk P w K mg base CX0 1 f fd ["at", "p"] (sp__law_turned K) := by
  refine F.ok sc__law_turned (fun vs H Q E h => ?_) (fun cdv A outer s H vs Q E hr h => ?_)
  · obtain ⟨_, _, _, rfl, _⟩ := h
    rfl
  · obtain ⟨a, p, m, rfl, h0, h1, h2, k⟩ := h
    refine ⟨_, (pss_cons (ps_if (pt_cmpR op_eq (pv 0) pe_int (nomark _))
 (pss_one (ps_ret (pe_tup (pa_cons (pe_ix (kx_any (K := K) rfl) (pv 1) pe_int (fun _ _ => rfl)) (pa_cons (pe_tup (pa_cons (pe_un un_neg (pe_ix (kx_any (K := K) rfl) (pe_ix (kx_any (K := K) rfl) (pv 1) pe_int (fun _ _ => rfl)) pe_int (fun _ _ => rfl))) (pa_cons (pe_ix (kx_any (K := K) rfl) (pe_ix (kx_any (K := K) rfl) (pv 1) pe_int (fun _ _ => rfl)) pe_int (fun _ _ => rfl)) pa_nil))) (pa_cons (pe_ix (kx_any (K := K) rfl) (pv 1) pe_int (fun _ _ => rfl)) pa_nil))))))
 pss_nil)
 (pss_cons (ps_if (pt_cmpR op_eq (pv 0) pe_int (nomark _))
 (pss_one (ps_ret (pe_tup (pa_cons (pe_ix (kx_any (K := K) rfl) (pv 1) pe_int (fun _ _ => rfl)) (pa_cons (pe_ix (kx_any (K := K) rfl) (pv 1) pe_int (fun _ _ => rfl)) (pa_cons (pe_tup (pa_cons (pe_un un_neg (pe_ix (kx_any (K := K) rfl) (pe_ix (kx_any (K := K) rfl) (pv 1) pe_int (fun _ _ => rfl)) pe_int (fun _ _ => rfl))) (pa_cons (pe_ix (kx_any (K := K) rfl) (pe_ix (kx_any (K := K) rfl) (pv 1) pe_int (fun _ _ => rfl)) pe_int (fun _ _ => rfl)) pa_nil))) pa_nil))))))
 pss_nil)
 (pss_one (ps_ret (pe_tup (pa_cons (pe_tup (pa_cons (pe_un un_neg (pe_ix (kx_any (K := K) rfl) (pe_ix (kx_any (K := K) rfl) (pv 1) pe_int (fun _ _ => rfl)) pe_int (fun _ _ => rfl))) (pa_cons (pe_ix (kx_any (K := K) rfl) (pe_ix (kx_any (K := K) rfl) (pv 1) pe_int (fun _ _ => rfl)) pe_int (fun _ _ => rfl)) pa_nil))) (pa_cons (pe_ix (kx_any (K := K) rfl) (pv 1) pe_int (fun _ _ => rfl)) (pa_cons (pe_ix (kx_any (K := K) rfl) (pv 1) pe_int (fun _ _ => rfl)) pa_nil)))))))), ?_⟩
    obtain ⟨x0, x1, x2, g0, g1, g2, g3⟩ := h0
    obtain rfl | rfl | rfl : m = 0 ∨ m = 1 ∨ m = 2 := by omega
    · walk_at "g"
      exact k _ _ (by walk_at "same") (show Vc K _ _ ⟨p.x, -p.z, p.y⟩ from Vc.mk (by walk_at "sq") (by walk_at "sq") (SqT.ofNeg (by walk_at "sq")) (by walk_at "sq"))
    · walk_at "g"
      exact k _ _ (by walk_at "same") (show Vc K _ _ ⟨p.z, p.y, -p.x⟩ from Vc.mk (by walk_at "sq") (by walk_at "sq") (by walk_at "sq") (SqT.ofNeg (by walk_at "sq")))
    · walk_at "g"
      exact k _ _ (by walk_at "same") (show Vc K _ _ ⟨-p.y, p.x, p.z⟩ from Vc.mk (by walk_at "sq") (SqT.ofNeg (by walk_at "sq")) (by walk_at "sq") (by walk_at "sq"))
in #guard_msgs in universe u_z
abbrev s__law_turns : Stmt := top 90
theorem sc__law_turns : FnScope ["at", "many", "found", "k", "unit"] ["at", "many"] (defScope s__law_turns) := ⟨rfl, rfl, rfl, by decide +kernel, rfl, by decide +kernel, by decide +kernel⟩
set_option Elab.async true in
set_option maxHeartbeats 4000000 in
theorem ok__law_turns {f : Addr} {fd : FuncData} (F : FunA K "_law_turns" "_law_turns" s__law_turns f fd) (T : Blt mg) (C__law_whole_vector : Cal P w K mg base "_law_whole_vector" 1 ["a", "b", "c"] (sp__law_whole_vector K)) (C__law_turned : Cal P w K mg base "_law_turned" 1 ["at", "p"] (sp__law_turned K)) : FnOk P w K mg base CX0 2 f fd ["at", "many"] (sp__law_turns K) := by
  refine F.ok sc__law_turns (fun vs H Q E h => ?_) (fun cdv A outer s H vs Q E hr h => ?_)
  · obtain ⟨_, _, rfl, _⟩ := h
    rfl
  · obtain ⟨a, m, rfl, h0, h1, h2, h3, k⟩ := h
    refine ⟨_, (pss_cons (ps_set (i := 2) sc__law_turns.nd rfl (.inr rfl) (pe_lst (pa_cons (pc C__law_whole_vector (hr.mono (by decide)) (by rfl) (pa_cons pe_int (pa_cons pe_int (pa_cons pe_int pa_nil)))) (pa_cons (pc C__law_whole_vector (hr.mono (by decide)) (by rfl) (pa_cons pe_int (pa_cons pe_int (pa_cons pe_int pa_nil)))) (pa_cons (pc C__law_whole_vector (hr.mono (by decide)) (by rfl) (pa_cons pe_int (pa_cons pe_int (pa_cons pe_int pa_nil)))) pa_nil)))))
 (pss_cons (ps_for PassesOwn.never rfl (pi_range1 (by rfl) T.range (pa_cons (pv 1) pa_nil)) (pg_name (i := 3) sc__law_turns.nd rfl (.inl rfl))
 (pss_one (ps_set (i := 2) sc__law_turns.nd rfl (.inr rfl) (pe_lc (own := [("unit", 4)]) rfl sc__law_turns.nd (kp_list (K := K) rfl (pv 2)) (blkOk_by (own := [("unit", 4)]) (N := ["at", "many", "found", "k", "unit"]) (sc := defScope s__law_turns) (by decide +kernel)) (fun _ _ _ _ _ => (pg_name (i := 4) sc__law_turns.nd rfl (.inl rfl))) (fun _ _ _ _ _ => pts_nil) (fun _ _ _ _ _ => (pc C__law_turned (hr.mono (by decide)) (by rfl) (pa_cons (pv 0) (pa_cons (pv 4) pa_nil))))))))
 (pss_one (ps_ret (pe_tup (pa_cons (pe_callTy (kc_tuple (K := K) rfl) (by rfl) T.tuple (by decide +kernel) (pa_cons (pe_lc (own := [("k", 3)]) rfl sc__law_turns.nd (pi_range1 (by rfl) T.range (pa_cons pe_int pa_nil)) (blkOk_by (own := [("k", 3)]) (N := ["at", "many", "found", "k", "unit"]) (sc := defScope s__law_turns) (by decide +kernel)) (fun _ _ _ _ _ => (pg_name (i := 3) sc__law_turns.nd rfl (.inl rfl))) (fun _ _ _ _ _ => pts_nil) (fun _ _ _ _ _ => (pe_tup (pa_cons (pe_ix (kx_tup (K := K) rfl) (pe_ix (kx_list (K := K) rfl) (pv 2) pe_int (fun _ _ => rfl)) (pv 3) (fun _ _ => rfl)) (pa_cons (pe_ix (kx_tup (K := K) rfl) (pe_ix (kx_list (K := K) rfl) (pv 2) pe_int (fun _ _ => rfl)) (pv 3) (fun _ _ => rfl)) (pa_cons (pe_ix (kx_tup (K := K) rfl) (pe_ix (kx_list (K := K) rfl) (pv 2) pe_int (fun _ _ => rfl)) (pv 3) (fun _ _ => rfl)) pa_nil)))))) pa_nil)) (pa_cons (pc C__law_whole_vector (hr.mono (by decide)) (by rfl) (pa_cons pe_int (pa_cons pe_int (pa_cons pe_int pa_nil)))) pa_nil))))))), ?_⟩
    rw [tns_tr3 h0 h1 (show m.toNat ≤ 3 by omega)] at k
    walk_at "g"
    rename_i H1 x s1 vx H2 y s2 vy H3 z s3 vz l H4 nl s4 hl
    have a0 : (⟨((1 : Int) : Rat), ((0 : Int) : Rat), ((0 : Int) : Rat)⟩ : V3) = e0 := by apply V3.ext' <;> decide +kernel
    have a1 : (⟨((0 : Int) : Rat), ((1 : Int) : Rat), ((0 : Int) : Rat)⟩ : V3) = e1 := by apply V3.ext' <;> decide +kernel
    have a2 : (⟨((0 : Int) : Rat), ((0 : Int) : Rat), ((1 : Int) : Rat)⟩ : V3) = e2 := by apply V3.ext' <;> decide +kernel
    have a3 : (⟨((0 : Int) : Rat), ((0 : Int) : Rat), ((0 : Int) : Rat)⟩ : V3) = o3 := by apply V3.ext' <;> decide +kernel
    rw [a0] at vx
    rw [a1] at vy
    rw [a2] at vz
    have hV : VL K H4 l [e0, e1, e2] := ⟨_, hl, .cons ⟨_, rfl, by walk_at "vc"⟩ (.cons ⟨_, rfl, by walk_at "vc"⟩ (.cons ⟨_, rfl, by walk_at "vc"⟩ .nil))⟩
    have s04 : Same H H4 := by walk_at "same"
    clear hl vx vy vz s1 s2 s3 s4 nl
    refine f_range (n := m.toNat) (fun i σ' H' => ∃ (l : Addr) (u v : Option V), σ' = [some (.int a), some (.int m), some (.ref l), u, v] ∧ Same H H' ∧ VL K H' l [trs a i e0, trs a i e1, trs a i e2]) ⟨_, _, _, rfl, s04, hV⟩ ?_ ?_
    · rintro i σ' H5 hi ⟨l, u, v, rfl, s5, acc, hacc, pl⟩
      obtain ⟨x, y, z, rfl, g0, g1, g2⟩ := VcL.three' pl
      walk_at "g"
      intro Da hD
      have LG := lcG_same (K := K) (H := H5) (J := fun n acc H' => VcL K H' acc (([trn a (trs a i e0), trn a (trs a i e1), trn a (trs a i e2)] : List V3).take n)) hD (fun _ _ _ _ e h => VcL.tk e h)
      refine lc_lstG (K := K) LG (Same.new hD) VcL.nil (fun H1 acc _ g => SqL.of (g _ _ hacc)) (fun _ => rfl) ?_ ?_
      · rintro n x acc H1 hx ha hDa g ej
        rcases n with _ | _ | _ | n
        rotate_left 3
        · simp at hx
        all_goals
          cases hx
          walk_at "g"
          rename_i H6 r s6 hr
          exact r_lcQ (K := K) LG (by decide) ha (by walk_at "ls") (by walk_at "same") (VcL.snoc (ej.tk (TK.same s6)) hr)
      · rintro acc H1 ha hDa g ej
        walk_at "g"
        exact ⟨_, _, _, rfl, by walk_at "same", ⟨acc, hDa, ej⟩⟩
    · rintro σ' H5 ⟨l, u, v, rfl, s5, acc, hacc, pl⟩
      obtain ⟨x, y, z, rfl, g0, g1, g2⟩ := VcL.three' pl
      generalize trs a m.toNat e0 = p at *
      generalize trs a m.toNat e1 = q at *
      generalize trs a m.toNat e2 = t at *
      obtain ⟨x0, x1, x2, gx, gx0, gx1, gx2⟩ := g0
      obtain ⟨y0, y1, y2, gy, gy0, gy1, gy2⟩ := g1
      obtain ⟨z0, z1, z2, gz, gz0, gz1, gz2⟩ := g2
      walk_at "g"
      intro Da hD
      have LG := lcG_same (K := K) (H := H5) (J := fun n acc H' => VcL K H' acc (([⟨p.x, q.x, t.x⟩, ⟨p.y, q.y, t.y⟩, ⟨p.z, q.z, t.z⟩] : List V3).take n)) hD (fun _ _ _ _ e h => VcL.tk e h)
      refine lc_rngG (K := K) (n := 3) LG (Same.new hD) VcL.nil (fun _ => rfl) ?_ ?_
      · intro i acc H1 hi ha hDa g ej
        obtain rfl | rfl | rfl : i = 0 ∨ i = 1 ∨ i = 2 := by omega
        all_goals
          walk_at "g"
          rename_i T6 H6 n6 s6 h6
          exact r_lcQ (K := K) LG (by decide) ha (by walk_at "ls") (by walk_at "same") (VcL.snoc (ej.tk (TK.same s6)) (Vc.mk (by walk_at "sq") (by walk_at "sq") (by walk_at "sq") (by walk_at "sq")))
      · rintro acc H1 ha hDa g ej
        obtain ⟨r0, r1, r2, rfl, w0, w1, w2⟩ := VcL.three' ej
        replace w0 : Vc K H1 r0 (tr3 p q t).a := w0
        replace w1 : Vc K H1 r1 (tr3 p q t).b := w1
        replace w2 : Vc K H1 r2 (tr3 p q t).c := w2
        walk_at "g"
        rename_i T6 H6 n6 s6 h6 H7 o s7 vo T8 H8 n8 s8 h8
        rw [a3] at vo
        replace vo : Vc K H7 o (tr3 p q t).s := vo
        exact k _ _ (by walk_at "same") ⟨_, _, by walk_at "sq", ⟨_, _, _, by walk_at "sq", by walk_at "vc", by walk_at "vc", by walk_at "vc"⟩, by walk_at "vc"⟩
in #guard_msgs in universe u_z
abbrev s__law_scaled : Stmt := top 91
theorem sc__law_scaled : FnScope ["factors", "rows"] ["factors"] (defScope s__law_scaled) := ⟨rfl, rfl, rfl, by decide +kernel, rfl, by decide +kernel, by decide +kernel⟩
set_option Elab.async true in
set_option maxHeartbeats 4000000 in
theorem ok__law_scaled {f : Addr} {fd : FuncData} (F : FunA K "_law_scaled" "_law_scaled" s__law_scaled f fd) (T : Blt mg) (C__law_whole_vector : Cal P w K mg base "_law_whole_vector" 1 ["a", "b", "c"] (sp__law_whole_vector K)) : FnOk P w K mg base CX0 2 f fd ["factors"] (sp__law_scaled K) := by
  refine F.ok sc__law_scaled (fun vs H Q E h => ?_) (fun cdv A outer s H vs Q E hr h => ?_)
  · obtain ⟨_, _, _, _, _, _, _, rfl, _⟩ := h
    rfl
  · obtain ⟨l, x, y, z, p, q, r, rfl, h0, h1, h2, h3, k⟩ := h
    refine ⟨_, (pss_cons (ps_set (i := 1) sc__law_scaled.nd rfl (.inl rfl) (pe_lst (pa_cons (pe_tup (pa_cons (pe_ix (kx_list (K := K) rfl) (pv 0) pe_int (fun _ _ => rfl)) (pa_cons (pe_tup (pa_cons pe_int (pa_cons pe_int pa_nil))) (pa_cons (pe_tup (pa_cons pe_int (pa_cons pe_int pa_nil))) pa_nil)))) (pa_cons (pe_tup (pa_cons (pe_tup (pa_cons pe_int (pa_cons pe_int pa_nil))) (pa_cons (pe_ix (kx_list (K := K) rfl) (pv 0) pe_int (fun _ _ => rfl)) (pa_cons (pe_tup (pa_cons pe_int (pa_cons pe_int pa_nil))) pa_nil)))) (pa_cons (pe_tup (pa_cons (pe_tup (pa_cons pe_int (pa_cons pe_int pa_nil))) (pa_cons (pe_tup (pa_cons pe_int (pa_cons pe_int pa_nil))) (pa_cons (pe_ix (kx_list (K := K) rfl) (pv 0) pe_int (fun _ _ => rfl)) pa_nil)))) pa_nil)))))
 (pss_one (ps_ret (pe_tup (pa_cons (pe_callTy (kc_tuple (K := K) rfl) (by rfl) T.tuple (by decide +kernel) (pa_cons (pv 1) pa_nil)) (pa_cons (pc C__law_whole_vector (hr.mono (by decide)) (by rfl) (pa_cons pe_int (pa_cons pe_int (pa_cons pe_int pa_nil)))) pa_nil)))))), ?_⟩
    walk_at "g"
    refine k _ _ (by walk_at "same") ⟨_, _, by walk_at "sq", ⟨_, _, _, by walk_at "sq", Vc.x00 (p := p) (by walk_at "sq") (by walk_at "sq") (by walk_at "sq") (by walk_at "sq"), Vc.y00 (p := q) (by walk_at "sq") (by walk_at "sq") (by walk_at "sq") (by walk_at "sq"), Vc.z00 (p := r) (by walk_at "sq") (by walk_at "sq") (by walk_at "sq") (by walk_at "sq")⟩, ?_⟩
    rename_i hv _ _ _ _ _
    refine Vc.same ?_ (show Vc K _ _ (dg p q r).s from hv)
    walk_at "same"
in #guard_msgs in universe u_z
abbrev s__law_bent : Stmt := top 92
theorem sc__law_bent : FnScope ["store", "move", "rows", "shift", "marks", "kind", "wrong", "at", "k", "row"] ["store", "move"] (defScope s__law_bent) := ⟨rfl, rfl, rfl, by decide +kernel, rfl, by decide +kernel, by decide +kernel⟩
set_option Elab.async true in
set_option maxHeartbeats 4000000 in
theorem ok__law_bent {f : Addr} {fd : FuncData} (F : FunA K "_law_bent" "_law_bent" s__law_bent f fd) (T : Blt mg) (C__law_take : Cal P w K mg base "_law_take" 2 ["store", "many"] (sp__law_take K)) (C__law_pick : Cal P w K mg base "_law_pick" 3 ["store", "items"] (sp__law_pick K)) : FnOk P w K mg base CX0 4 f fd ["store", "move"] (sp__law_bent K) := by
  refine F.ok sc__law_bent (fun vs H Q E h => ?_) (fun cdv A outer s H vs Q E hr h => ?_)
  · obtain ⟨_, _, _, rfl, _⟩ := h
    rfl
  · obtain ⟨st, m, A, rfl, h0, h1, h2, k⟩ := h
    refine ⟨_, (pss_cons (ps_asg (pv 1) (kg_tup (K := K) (n := 2) rfl rfl (pgs_cons (pg_name (i := 2) sc__law_bent.nd rfl (.inl rfl)) (pgs_cons (pg_name (i := 3) sc__law_bent.nd rfl (.inl rfl)) pgs_nil))))
 (pss_cons (ps_set (i := 4) sc__law_bent.nd rfl (.inl rfl) (pe_lst (pa_cons (pe_tup (pa_cons pe_int (pa_cons pe_int pa_nil))) (pa_cons (pe_tup (pa_cons pe_int (pa_cons (pe_un un_neg pe_int) pa_nil))) (pa_cons (pe_tup (pa_cons pe_int (pa_cons pe_int pa_nil))) (pa_cons (pe_tup (pa_cons pe_int (pa_cons pe_int (pa_cons pe_int pa_nil)))) (pa_cons (pe_tup (pa_cons pe_bl (pa_cons pe_int pa_nil))) (pa_cons (pe_tup (pa_cons pe_int (pa_cons pe_bl pa_nil))) (pa_cons (pe_lst (pa_cons pe_int (pa_cons pe_int pa_nil))) (pa_cons pe_int (pa_cons pe_bl (pa_cons pe_non (pa_cons pe_str (pa_cons (pe_tup (pa_cons pe_int (pa_cons pe_int pa_nil))) (pa_cons (pe_tup (pa_cons pe_int (pa_cons pe_int pa_nil))) pa_nil)))))))))))))))
 (pss_cons (ps_set (i := 5) sc__law_bent.nd rfl (.inl rfl) (pc C__law_take (hr.mono (by decide)) (by rfl) (pa_cons (pv 0) (pa_cons pe_int pa_nil))))
 (pss_cons (ps_if (pt_cmpR op_eq (pv 5) pe_int (nomark _))
 (pss_cons (ps_set (i := 6) sc__law_bent.nd rfl (.inl rfl) (pe_lst (pa_cons pe_non (pa_cons pe_str (pa_cons (pe_tup pa_nil) (pa_cons pe_int (pa_cons pe_bl (pa_cons (pe_lst (pa_cons (pv 2) (pa_cons (pv 3) pa_nil))) (pa_cons (pe_tup (pa_cons (pv 2) pa_nil)) (pa_cons (pe_tup (pa_cons (pv 2) (pa_cons (pv 3) (pa_cons (pv 3) pa_nil)))) (pa_cons (pe_tup (pa_cons (pe_callTy (kc_list (K := K) rfl) (by rfl) T.list (by decide +kernel) (pa_cons (pv 2) pa_nil)) (pa_cons (pv 3) pa_nil))) (pa_cons pe_dnewK pa_nil))))))))))))
 (pss_cons (ps_set (i := 6) sc__law_bent.nd rfl (.inl rfl) (pe_op op_cat (pv 6) (pe_lst (pa_cons (pe_tup (pa_cons (pv 2) (pa_cons (pe_callTy (kc_list (K := K) rfl) (by rfl) T.list (by decide +kernel) (pa_cons (pv 3) pa_nil)) pa_nil))) (pa_cons (pe_tup (pa_cons (pe_slice (ks_tupA (K := K) rfl) (pv 2) po_none (po_some pe_int)) (pa_cons (pv 3) pa_nil))) (pa_cons (pe_tup (pa_cons (pe_op (ko_catA (K := K) rfl) (pv 2) (pe_slice (ks_tupA (K := K) rfl) (pv 2) po_none (po_some pe_int))) (pa_cons (pv 3) pa_nil))) (pa_cons (pe_tup (pa_cons (pv 2) (pa_cons (pe_slice (ks_tupA (K := K) rfl) (pv 3) po_none (po_some pe_int)) pa_nil))) (pa_cons (pe_tup (pa_cons pe_int (pa_cons pe_int pa_nil))) pa_nil))))))))
 (pss_cons (ps_set (i := 6) sc__law_bent.nd rfl (.inl rfl) (pe_op op_cat (pv 6) (pe_lst (pa_cons (pe_tup (pa_cons (pe_op (ko_catA (K := K) rfl) (pe_slice (ks_tupA (K := K) rfl) (pv 2) po_none (po_some pe_int)) (pe_slice (ks_tupA (K := K) rfl) (pv 2) po_none (po_some pe_int))) (pa_cons (pv 3) pa_nil))) (pa_cons (pe_tup (pa_cons (pv 2) (pa_cons (pe_op (ko_catA (K := K) rfl) (pv 3) (pe_slice (ks_tupA (K := K) rfl) (pv 3) po_none (po_some pe_int))) pa_nil))) (pa_cons (pe_tup (pa_cons (pv 3) (pa_cons (pv 2) pa_nil))) (pa_cons (pe_tup (pa_cons (pv 2) (pa_cons (pv 2) pa_nil))) (pa_cons (pv 1) pa_nil))))))))
 (pss_one (ps_ret (pc C__law_pick (hr.mono (by decide)) (by rfl) (pa_cons (pv 0) (pa_cons (pv 6) pa_nil))))))))
 pss_nil)
 (pss_cons (ps_set (i := 7) sc__law_bent.nd rfl (.inl rfl) (pc C__law_take (hr.mono (by decide)) (by rfl) (pa_cons (pv 0) (pa_cons pe_int pa_nil))))
 (pss_cons (ps_set (i := 8) sc__law_bent.nd rfl (.inl rfl) (pc C__law_take (hr.mono (by decide)) (by rfl) (pa_cons (pv 0) (pa_cons pe_int pa_nil))))
 (pss_cons (ps_if (pt_cmpR op_eq (pv 5) pe_int (nomark _))
 (pss_one (ps_ret (pe_tup (pa_cons (pv 2) (pa_cons (pe_op (ko_catA (K := K) rfl) (pe_op (ko_catA (K := K) rfl) (pe_slice (ks_tupA (K := K) rfl) (pv 3) po_none (po_some (pv 8))) (pe_tup (pa_cons (pc C__law_pick (hr.mono (by decide)) (by rfl) (pa_cons (pv 0) (pa_cons (pv 4) pa_nil))) pa_nil))) (pe_slice (ks_tupA (K := K) rfl) (pv 3) (po_some (pe_op op_add (pv 8) pe_int)) po_none)) pa_nil)))))
 pss_nil)
 (pss_cons (ps_set (i := 9) sc__law_bent.nd rfl (.inl rfl) (pe_op (ko_catA (K := K) rfl) (pe_op (ko_catA (K := K) rfl) (pe_slice (ks_tupA (K := K) rfl) (pe_ix (kx_tup (K := K) rfl) (pv 2) (pv 7) (fun _ _ => rfl)) po_none (po_some (pv 8))) (pe_tup (pa_cons (pc C__law_pick (hr.mono (by decide)) (by rfl) (pa_cons (pv 0) (pa_cons (pv 4) pa_nil))) pa_nil))) (pe_slice (ks_tupA (K := K) rfl) (pe_ix (kx_tup (K := K) rfl) (pv 2) (pv 7) (fun _ _ => rfl)) (po_some (pe_op op_add (pv 8) pe_int)) po_none)))
 (pss_cons (ps_if (pt_cmpR op_eq (pv 5) pe_int (nomark _))
 (pss_one (ps_set (i := 9) sc__law_bent.nd rfl (.inl rfl) (pc C__law_pick (hr.mono (by decide)) (by rfl) (pa_cons (pv 0) (pa_cons (pe_lst (pa_cons (pe_ix (kx_tup (K := K) rfl) (pv 2) (pv 7) (fun _ _ => rfl)) (pa_cons (pe_callTy (kc_list (K := K) rfl) (by rfl) T.list (by decide +kernel) (pa_cons (pe_ix (kx_tup (K := K) rfl) (pv 2) (pv 7) (fun _ _ => rfl)) pa_nil)) (pa_cons (pe_slice (ks_tupA (K := K) rfl) (pe_ix (kx_tup (K := K) rfl) (pv 2) (pv 7) (fun _ _ => rfl)) po_none (po_some pe_int)) (pa_cons (pe_op (ko_catA (K := K) rfl) (pe_ix (kx_tup (K := K) rfl) (pv 2) (pv 7) (fun _ _ => rfl)) (pe_tup (pa_cons (pe_tup (pa_cons pe_int (pa_cons pe_int pa_nil))) pa_nil))) (pa_cons (pe_ix (kx_tup (K := K) rfl) (pv 2) (pe_op op_sub (pv 7) pe_int) (fun _ _ => rfl)) (pa_cons pe_non (pa_cons (pe_tup pa_nil) pa_nil)))))))) pa_nil)))))
 pss_nil)
 (pss_one (ps_ret (pe_tup (pa_cons (pe_op (ko_catA (K := K) rfl) (pe_op (ko_catA (K := K) rfl) (pe_slice (ks_tupA (K := K) rfl) (pv 2) po_none (po_some (pv 7))) (pe_tup (pa_cons (pv 9) pa_nil))) (pe_slice (ks_tupA (K := K) rfl) (pv 2) (po_some (pe_op op_add (pv 7) pe_int)) po_none)) (pa_cons (pv 3) pa_nil)))))))))))))), ?_⟩
    obtain ⟨r, s', q0, ⟨x, y, z, q1, v0, v1, v2⟩, v3⟩ := h1
    have n0 := h2.a
    have n1 := h2.b
    have n2 := h2.c
    have n3 := h2.s
    have al0 : Al H [st] := Al.st h0
    have bx : Bn K [st] H (.ref x) := Bn.vc v0 (n0.le (by decide) (by decide))
    have by' : Bn K [st] H (.ref y) := Bn.vc v1 (n1.le (by decide) (by decide))
    have bz : Bn K [st] H (.ref z) := Bn.vc v2 (n2.le (by decide) (by decide))
    have bs : Bn K [st] H (.ref s') := Bn.vc v3 (n3.le (by decide) (by decide))
    have br : Bn K [st] H (.ref r) := Bn.tup q1 (by walk_at "bnda")
    have bm : Bn K [st] H (.ref m) := Bn.tup q0 (by walk_at "bnda")
    obtain ⟨xa, xb, xc, gx, gx0, gx1, gx2⟩ := v0
    obtain ⟨ya, yb, yc, gy, gy0, gy1, gy2⟩ := v1
    obtain ⟨za, zb, zc, gz, gz0, gz1, gz2⟩ := v2
    obtain ⟨sa, sb, sc, gs, gs0, gs1, gs2⟩ := v3
    have bX : BnA K [st] H 3 [.ref xa, .ref xb, .ref xc] := .cons (.q gx0 (n0.x.le (by decide) (by decide))) (.cons (.q gx1 (n0.y.le (by decide) (by decide))) (.cons (.q gx2 (n0.z.le (by decide) (by decide))) .nil))
    have bY : BnA K [st] H 3 [.ref ya, .ref yb, .ref yc] := .cons (.q gy0 (n1.x.le (by decide) (by decide))) (.cons (.q gy1 (n1.y.le (by decide) (by decide))) (.cons (.q gy2 (n1.z.le (by decide) (by decide))) .nil))
    have bZ : BnA K [st] H 3 [.ref za, .ref zb, .ref zc] := .cons (.q gz0 (n2.x.le (by decide) (by decide))) (.cons (.q gz1 (n2.y.le (by decide) (by decide))) (.cons (.q gz2 (n2.z.le (by decide) (by decide))) .nil))
    have bS : BnA K [st] H 3 [.ref sa, .ref sb, .ref sc] := .cons (.q gs0 (n3.x.le (by decide) (by decide))) (.cons (.q gs1 (n3.y.le (by decide) (by decide))) (.cons (.q gs2 (n3.z.le (by decide) (by decide))) .nil))
    have bR : BnA K [st] H 3 [.ref x, .ref y, .ref z] := by walk_at "bnda"
    clear gx0 gx1 gx2 gy0 gy1 gy2 gz0 gz1 gz2 gs0 gs1 gs2 n0 n1 n2 n3
    walk_at "g"
    rename_i a0 A0 u0 w0 t0 a1 A1 u1 w1 t1 a2 A2 u2 w2 t2 a3 A3 u3 w3 t3 a4 A4 u4 w4 t4 a5 A5 u5 w5 t5 a6 A6 u6 w6 t6 a7 A7 u7 w7 t7 a8 A8 u8 w8 t8 ml A9 u9 w9 t9 A10 kd f10 s10 kd0 kd1
    have bM : BnA K [st] A9 13 [.ref a0, .ref a1, .ref a2, .ref a3, .ref a4, .ref a5, .ref a6, .int 0, .bl true, .non, .str "1", .ref a7, .ref a8] := by walk_at "bnda"
    have sm : Same H A9 := by walk_at "same"
    clear t0 t1 t2 t3 t4 t5 t6 t7 t8 w0 w1 w2 w3 w4 w5 w6 w7 w8 w9 u0 u1 u2 u3 u4 u5 u6 u7 u8
    refine if_eqI (fun e => ?_) (fun e => ?_)
    · have br10 : Bn K [st] A10 (.ref r) := (br.same sm).fr f10 (h0.same sm) (by simp)
      have bs10 : Bn K [st] A10 (.ref s') := (bs.same sm).fr f10 (h0.same sm) (by simp)
      have bm10 : Bn K [st] A10 (.ref m) := (bm.same sm).fr f10 (h0.same sm) (by simp)
      have bR10 : BnA K [st] A10 3 [.ref x, .ref y, .ref z] := (bR.same sm).fr f10 (h0.same sm) (by simp)
      have bS10 : BnA K [st] A10 3 [.ref sa, .ref sb, .ref sc] := (bS.same sm).fr f10 (h0.same sm) (by simp)
      have al10 : Al A10 [st] := Al.st s10
      have fr10 : Fr st H A10 := (Same.fr sm).trans f10
      have gr10 : SqT K A10 r [.ref x, .ref y, .ref z] := by walk_at "sq"
      have gs10 : SqT K A10 s' [.ref sa, .ref sb, .ref sc] := by walk_at "sq"
      clear bX bY bZ bS bR bM br bs gs gx gy gz q1 t9 bm bx by' bz q0 f10 sm
      walk_at "g"
      rename_i t1 G1 u1 w1 e1 t2 G2 u2 w2 e2 t3 G3 u3 w3 e3 t4 G4 u4 w4 e4 t5 G5 u5 w5 e5 t6 G6 u6 w6 e6 t7 G7 u7 w7 e7 t8 G8 u8 w8 e8 t9 G9 u9 w9 e9 t10 G10 u10 w10 e10 t11 G11 w11 e11 t12 G12 u12 w12 e12 t13 G13 w13 e13 t14 G14 w14 e14 t15 G15 u15 w15 e15 t16 G16 w16 e16 t17 G17 u17 w17 e17 t18 G18 u18 w18 e18 t19 G19 u19 w19 e19 t20 G20 u20 w20 e20 t21 G21 w21 e21 t22 G22 w22 e22 t23 G23 w23 e23 t24 G24 u24 w24 e24 t25 G25 w25 e25 t26 G26 w26 e26 t27 G27 u27 w27 e27 t28 G28 u28 w28 e28 t29 G29 u29 w29 e29 t30 G30 u30 w30 e30 t31 G31 u31 w31 e31 G32 i32 v32 f32 s32 e32
      have b1 : Bn K [st] G1 (.ref t1) := by walk_at "bnd"
      have b2 : Bn K [st] G2 (.ref t2) := by walk_at "bnd"
      have b3 : Bn K [st] G3 (.ref t3) := by walk_at "bnd"
      have b4 : Bn K [st] G4 (.ref t4) := by walk_at "bnd"
      have b5 : Bn K [st] G5 (.ref t5) := by walk_at "bnd"
      have b6 : Bn K [st] G6 (.ref t6) := by walk_at "bnd"
      have b10 : Bn K [st] G10 (.ref t10) := by walk_at "bnd"
      have b11 : Bn K [st] G11 (.ref t11) := by walk_at "bnd"
      have b12 : Bn K [st] G12 (.ref t12) := by walk_at "bnd"
      have b13 : Bn K [st] G13 (.ref t13) := by walk_at "bnd"
      have b14 : Bn K [st] G14 (.ref t14) := by walk_at "bnd"
      have b15 : Bn K [st] G15 (.ref t15) := by walk_at "bnd"
      have b16 : Bn K [st] G16 (.ref t16) := by walk_at "bnd"
      have b17 : Bn K [st] G17 (.ref t17) := by walk_at "bnd"
      have b18 : Bn K [st] G18 (.ref t18) := by walk_at "bnd"
      have b21 : Bn K [st] G21 (.ref t21) := by walk_at "bnd"
      have b22 : Bn K [st] G22 (.ref t22) := by walk_at "bnd"
      have b23 : Bn K [st] G23 (.ref t23) := by walk_at "bnd"
      have b24 : Bn K [st] G24 (.ref t24) := by walk_at "bnd"
      have b25 : Bn K [st] G25 (.ref t25) := by walk_at "bnd"
      have b26 : Bn K [st] G26 (.ref t26) := by walk_at "bnd"
      have b27 : Bn K [st] G27 (.ref t27) := by walk_at "bnd"
      have b28 : Bn K [st] G28 (.ref t28) := by walk_at "bnd"
      have b29 : Bn K [st] G29 (.ref t29) := by walk_at "bnd"
      have al7 : t7 ∉ [st] := by walk_at "nin"
      have d7 : G31 t7 = some (.dK []) := by walk_at "tp"
      have c1 : Bn K [st] G31 (.ref t1) := by walk_at "bn1"
      have c2 : Bn K [st] G31 (.ref t2) := by walk_at "bn1"
      have c3 : Bn K [st] G31 (.ref t3) := by walk_at "bn1"
      have c4 : Bn K [st] G31 (.ref t4) := by walk_at "bn1"
      have c6 : Bn K [st] G31 (.ref t6) := by walk_at "bn1"
      have c10 : Bn K [st] G31 (.ref t10) := by walk_at "bn1"
      have c12 : Bn K [st] G31 (.ref t12) := by walk_at "bn1"
      have c15 : Bn K [st] G31 (.ref t15) := by walk_at "bn1"
      have c17 : Bn K [st] G31 (.ref t17) := by walk_at "bn1"
      have c18 : Bn K [st] G31 (.ref t18) := by walk_at "bn1"
      have c24 : Bn K [st] G31 (.ref t24) := by walk_at "bn1"
      have c27 : Bn K [st] G31 (.ref t27) := by walk_at "bn1"
      have c28 : Bn K [st] G31 (.ref t28) := by walk_at "bn1"
      have c29 : Bn K [st] G31 (.ref t29) := by walk_at "bn1"
      have cm : Bn K [st] G31 (.ref m) := by walk_at "bn1"
      have st31 : St K G31 st := by walk_at "st"
      have fr31 : Fr st H G32 := by walk_at "fr"
      have hx : Ox K [st] G31 v32 := by
        have hm := List.mem_of_getElem? e32
        simp only [List.mem_append, List.mem_cons, List.not_mem_nil, or_false] at hm
        rcases hm with ((rfl | rfl | rfl | rfl | rfl | rfl | rfl | rfl | rfl | rfl) | rfl | rfl | rfl | rfl | rfl) | rfl | rfl | rfl | rfl | rfl
        all_goals first
          | exact .inl (by with_reducible assumption)
          | exact .inr ⟨_, _, rfl, al7, d7⟩
          | exact .inl Bn.non
          | exact .inl (Bn.bl _)
          | exact .inl (Bn.str _)
          | exact .inl (Bn.int (B.lit (by decide +kernel)))
      obtain ⟨d, hd, hb⟩ := (hx.fr f32 st31 (by simp)).ob
      exact k _ _ d fr31 s32 hd hb
    · walk_at "g"
      rename_i B1 at' f11 s11 at0 at1 B2 k' f12 s12 k0 k1
      have t92 : B2 ml = some (.lst [.ref a0, .ref a1, .ref a2, .ref a3, .ref a4, .ref a5, .ref a6, .int 0, .bl true, .non, .str "1", .ref a7, .ref a8]) := by walk_at "ls"
      have sX : TK K H B2 := by walk_at "tk"
      have fX : Fr st H B2 := (Same.fr sm).trans (f10.trans (f11.trans f12))
      have bX2 : BnA K [st] B2 3 [.ref xa, .ref xb, .ref xc] := bX.fr fX h0 (by simp)
      have bY2 : BnA K [st] B2 3 [.ref ya, .ref yb, .ref yc] := bY.fr fX h0 (by simp)
      have bZ2 : BnA K [st] B2 3 [.ref za, .ref zb, .ref zc] := bZ.fr fX h0 (by simp)
      have bS2 : BnA K [st] B2 3 [.ref sa, .ref sb, .ref sc] := bS.fr fX h0 (by simp)
      have bR2 : BnA K [st] B2 3 [.ref x, .ref y, .ref z] := bR.fr fX h0 (by simp)
      have bM2 : BnA K [st] B2 13 [.ref a0, .ref a1, .ref a2, .ref a3, .ref a4, .ref a5, .ref a6, .int 0, .bl true, .non, .str "1", .ref a7, .ref a8] := bM.fr (f10.trans (f11.trans f12)) (h0.same sm) (by simp)
      have br2 : Bn K [st] B2 (.ref r) := br.fr fX h0 (by simp)
      have bs2 : Bn K [st] B2 (.ref s') := bs.fr fX h0 (by simp)
      have gs2 := sX _ _ gs
      have gx2 := sX _ _ gx
      have gy2 := sX _ _ gy
      have gz2 := sX _ _ gz
      have q12 := sX _ _ q1
      have al2 : Al B2 [st] := Al.st s12
      clear sm f10 f11 bX bY bZ bS bR bM br bs gs gx gy gz q1 t9 bm bx by' bz q0
      refine if_eqI (fun e1 => ?_) (fun e1 => ?_)
      · walk_at "g"
        rename_i p3 H3 w3 g3 H4 i4 v4 f4 s4 e4 p5 H5 n5 w5 g5
        have b5 : BnA K [st] H5 1 [v4] := (BnA.cons ((bM2.same w3).get e4) .nil).fr (f4.trans (Same.fr w5)) (s12.same w3) (by simp)
        refine r_catB (by walk_at "sq") (by walk_at "sq") (by have := L2.cutV_length [V.ref sa, V.ref sb, V.ref sc] none (some k'); simp only [List.length_cons, List.length_nil] at *; omega) (fun p6 H6 w6 g6 => ?_)
        walk_at "g"
        rename_i p7 H7 w7 g7
        refine r_catB (by walk_at "sq") (by walk_at "sq") (by have := L2.cutV_length [V.ref sa, V.ref sb, V.ref sc] none (some k'); have := L2.cutV_length [V.ref sa, V.ref sb, V.ref sc] (some (k' + 1)) none; simp only [List.length_cons, List.length_nil, List.length_append] at *; omega) (fun p8 H8 w8 g8 => ?_)
        have bS8 : BnA K [st] H8 3 [.ref sa, .ref sb, .ref sc] := by walk_at "bnda"
        have b58 : BnA K [st] H8 1 [v4] := by walk_at "bnda"
        have b8 : Bn K [st] H8 (.ref p8) := by walk_at "bnd"
        walk_at "g"
        rename_i p9 H9 n9 w9 g9
        obtain ⟨d, hd, hb⟩ := (show Bn K [st] H9 (.ref p9) from by walk_at "bnd").ob
        exact k _ _ d (by walk_at "fr") (by walk_at "st") hd hb
      · obtain rfl | rfl | rfl : at' = 0 ∨ at' = 1 ∨ at' = 2 := by omega
        · walk_at "g"
          rename_i p3 H3 w3 g3 H4 i4 v4 f4 s4 e4 p5 H5 n5 w5 g5
          have b5 : BnA K [st] H5 1 [v4] := (BnA.cons ((bM2.same w3).get e4) .nil).fr (f4.trans (Same.fr w5)) (s12.same w3) (by simp)
          refine r_catB (by walk_at "sq") (by walk_at "sq") (by have := L2.cutV_length [V.ref xa, V.ref xb, V.ref xc] none (some k'); simp only [List.length_cons, List.length_nil] at *; omega) (fun p6 H6 w6 g6 => ?_)
          walk_at "g"
          rename_i p7 H7 w7 g7
          refine r_catB (by walk_at "sq") (by walk_at "sq") (by have := L2.cutV_length [V.ref xa, V.ref xb, V.ref xc] none (some k'); have := L2.cutV_length [V.ref xa, V.ref xb, V.ref xc] (some (k' + 1)) none; simp only [List.length_cons, List.length_nil, List.length_append] at *; omega) (fun p8 H8 w8 g8 => ?_)
          have bX8 : BnA K [st] H8 3 [.ref xa, .ref xb, .ref xc] := by walk_at "bnda"
          have b58 : BnA K [st] H8 1 [v4] := by walk_at "bnda"
          have b8 : Bn K [st] H8 (.ref p8) := by walk_at "bnd"
          have bR8 : BnA K [st] H8 3 [.ref x, .ref y, .ref z] := by walk_at "bnda"
          have bs8 : Bn K [st] H8 (.ref s') := by walk_at "bnd"
          have st8 : St K H8 st := by walk_at "st"
          have al8 : Al H8 [st] := Al.st st8
          have fr8 : Fr st H H8 := by walk_at "fr"
          have gx8 : SqT K H8 x [.ref xa, .ref xb, .ref xc] := by walk_at "sq"
          have qr8 : SqT K H8 r [.ref x, .ref y, .ref z] := by walk_at "sq"
          clear bX2 bY2 bZ2 bS2 bM2 br2 bs2 gs2 gx2 gy2 gz2 t92 w3 g3 f4 s4 e4 n5 w5 g5 b5 w6 g6 w7 g7 w8 al2 fX sX f12 s12 g8
          walk_at "g"
          refine if_eqI (fun e2 => ?_) (fun e2 => ?_)
          · walk_at "g"
            rename_i l1 L1 m1 m2 m3 l2 L2 m4 m5 l3 L3 m6 m7 m8 l4 L4 m9 m10 m11 l5 L5 m12 m13 l6 L6 m14 m15 m16 l7 L7 m17 m18 m19 L8 i8 v8 f8 s8 e8 c1 C1 d1 e1 c2 C2 d2 d3 d4 c3 C3 d5 d6 c4 C4 d7 d8 c5 C5 d9 d10 c6 C6 d11 d12 d13
            have bx8 : Bn K [st] H8 (.ref x) := Bn.tup gx8 bX8
            have by8 : Bn K [st] H8 (.ref z) := bR8.get (i := 2) rfl
            have bw : BnA K [st] L7 7 [.ref x, .ref l1, .ref l2, .ref l5, .ref z, .non, .ref l6] := by walk_at "bnda"
            have bv8 : BnA K [st] L8 1 [v8] := (BnA.cons (bw.get e8) .nil).fr f8 (by walk_at "st") (by simp)
            have bR10 : BnA K [st] L8 3 [.ref x, .ref y, .ref z] := by walk_at "bnda"
            have al3 : Al L8 [st] := Al.st s8
            have bs9 : Bn K [st] L8 (.ref s') := by walk_at "bnd"
            have fr9 : Fr st H L8 := by walk_at "fr"
            clear f8 bw m18 m15 m13 m10 m7 m5 m2 bx8 by8 bR8 b58 bX8 b8 bs8
            have bR9 : BnA K [st] C5 3 [.ref x, .ref y, .ref z] := by walk_at "bnda"
            have brow9 : BnA K [st] C5 1 [v8] := by walk_at "bnda"
            have b9 : Bn K [st] C5 (.ref c5) := by walk_at "bnd"
            obtain ⟨d, hd, hb⟩ := (show Bn K [st] C6 (.ref c6) from by walk_at "bnd").ob
            exact k _ _ d (by walk_at "fr") (by walk_at "st") hd hb
          · have brow : BnA K [st] H8 1 [.ref p8] := .cons b8 .nil
            clear b58 bX8 gx8
            walk_at "g"
            rename_i c1 C1 d1 e1 c2 C2 d2 d3 d4 c3 C3 d5 d6 c4 C4 d7 d8 c5 C5 d9 d10 c6 C6 d11 d12 d13
            have al2 : Al C2 [st] := by walk_at "al"
            have bR9 : BnA K [st] C5 3 [.ref x, .ref y, .ref z] := by walk_at "bnda"
            have brow9 : BnA K [st] C5 1 [.ref p8] := by walk_at "bnda"
            have b9 : Bn K [st] C5 (.ref c5) := by walk_at "bnd"
            obtain ⟨d, hd, hb⟩ := (show Bn K [st] C6 (.ref c6) from by walk_at "bnd").ob
            exact k _ _ d (by walk_at "fr") (by walk_at "st") hd hb
        · walk_at "g"
          rename_i p3 H3 w3 g3 H4 i4 v4 f4 s4 e4 p5 H5 n5 w5 g5
          have b5 : BnA K [st] H5 1 [v4] := (BnA.cons ((bM2.same w3).get e4) .nil).fr (f4.trans (Same.fr w5)) (s12.same w3) (by simp)
          refine r_catB (by walk_at "sq") (by walk_at "sq") (by have := L2.cutV_length [V.ref ya, V.ref yb, V.ref yc] none (some k'); simp only [List.length_cons, List.length_nil] at *; omega) (fun p6 H6 w6 g6 => ?_)
          walk_at "g"
          rename_i p7 H7 w7 g7
          refine r_catB (by walk_at "sq") (by walk_at "sq") (by have := L2.cutV_length [V.ref ya, V.ref yb, V.ref yc] none (some k'); have := L2.cutV_length [V.ref ya, V.ref yb, V.ref yc] (some (k' + 1)) none; simp only [List.length_cons, List.length_nil, List.length_append] at *; omega) (fun p8 H8 w8 g8 => ?_)
          have bX8 : BnA K [st] H8 3 [.ref ya, .ref yb, .ref yc] := by walk_at "bnda"
          have b58 : BnA K [st] H8 1 [v4] := by walk_at "bnda"
          have b8 : Bn K [st] H8 (.ref p8) := by walk_at "bnd"
          have bR8 : BnA K [st] H8 3 [.ref x, .ref y, .ref z] := by walk_at "bnda"
          have bs8 : Bn K [st] H8 (.ref s') := by walk_at "bnd"
          have st8 : St K H8 st := by walk_at "st"
          have al8 : Al H8 [st] := Al.st st8
          have fr8 : Fr st H H8 := by walk_at "fr"
          have gx8 : SqT K H8 y [.ref ya, .ref yb, .ref yc] := by walk_at "sq"
          have qr8 : SqT K H8 r [.ref x, .ref y, .ref z] := by walk_at "sq"
          clear bX2 bY2 bZ2 bS2 bM2 br2 bs2 gs2 gx2 gy2 gz2 t92 w3 g3 f4 s4 e4 n5 w5 g5 b5 w6 g6 w7 g7 w8 al2 fX sX f12 s12 g8
          walk_at "g"
          refine if_eqI (fun e2 => ?_) (fun e2 => ?_)
          · walk_at "g"
            rename_i l1 L1 m1 m2 m3 l2 L2 m4 m5 l3 L3 m6 m7 m8 l4 L4 m9 m10 m11 l5 L5 m12 m13 l6 L6 m14 m15 m16 l7 L7 m17 m18 m19 L8 i8 v8 f8 s8 e8 c1 C1 d1 e1 c2 C2 d2 d3 d4 c3 C3 d5 d6 c4 C4 d7 d8 c5 C5 d9 d10 c6 C6 d11 d12 d13
            have bx8 : Bn K [st] H8 (.ref y) := Bn.tup gx8 bX8
            have by8 : Bn K [st] H8 (.ref x) := bR8.get (i := 0) rfl
            have bw : BnA K [st] L7 7 [.ref y, .ref l1, .ref l2, .ref l5, .ref x, .non, .ref l6] := by walk_at "bnda"
            have bv8 : BnA K [st] L8 1 [v8] := (BnA.cons (bw.get e8) .nil).fr f8 (by walk_at "st") (by simp)
            have bR10 : BnA K [st] L8 3 [.ref x, .ref y, .ref z] := by walk_at "bnda"
            have al3 : Al L8 [st] := Al.st s8
            have bs9 : Bn K [st] L8 (.ref s') := by walk_at "bnd"
            have fr9 : Fr st H L8 := by walk_at "fr"
            clear f8 bw m18 m15 m13 m10 m7 m5 m2 bx8 by8 bR8 b58 bX8 b8 bs8
            have bR9 : BnA K [st] C5 3 [.ref x, .ref y, .ref z] := by walk_at "bnda"
            have brow9 : BnA K [st] C5 1 [v8] := by walk_at "bnda"
            have b9 : Bn K [st] C5 (.ref c5) := by walk_at "bnd"
            obtain ⟨d, hd, hb⟩ := (show Bn K [st] C6 (.ref c6) from by walk_at "bnd").ob
            exact k _ _ d (by walk_at "fr") (by walk_at "st") hd hb
          · have brow : BnA K [st] H8 1 [.ref p8] := .cons b8 .nil
            clear b58 bX8 gx8
            walk_at "g"
            rename_i c1 C1 d1 e1 c2 C2 d2 d3 d4 c3 C3 d5 d6 c4 C4 d7 d8 c5 C5 d9 d10 c6 C6 d11 d12 d13
            have al2 : Al C2 [st] := by walk_at "al"
            have bR9 : BnA K [st] C5 3 [.ref x, .ref y, .ref z] := by walk_at "bnda"
            have brow9 : BnA K [st] C5 1 [.ref p8] := by walk_at "bnda"
            have b9 : Bn K [st] C5 (.ref c5) := by walk_at "bnd"
            obtain ⟨d, hd, hb⟩ := (show Bn K [st] C6 (.ref c6) from by walk_at "bnd").ob
            exact k _ _ d (by walk_at "fr") (by walk_at "st") hd hb
        · walk_at "g"
          rename_i p3 H3 w3 g3 H4 i4 v4 f4 s4 e4 p5 H5 n5 w5 g5
          have b5 : BnA K [st] H5 1 [v4] := (BnA.cons ((bM2.same w3).get e4) .nil).fr (f4.trans (Same.fr w5)) (s12.same w3) (by simp)
          refine r_catB (by walk_at "sq") (by walk_at "sq") (by have := L2.cutV_length [V.ref za, V.ref zb, V.ref zc] none (some k'); simp only [List.length_cons, List.length_nil] at *; omega) (fun p6 H6 w6 g6 => ?_)
          walk_at "g"
          rename_i p7 H7 w7 g7
          refine r_catB (by walk_at "sq") (by walk_at "sq") (by have := L2.cutV_length [V.ref za, V.ref zb, V.ref zc] none (some k'); have := L2.cutV_length [V.ref za, V.ref zb, V.ref zc] (some (k' + 1)) none; simp only [List.length_cons, List.length_nil, List.length_append] at *; omega) (fun p8 H8 w8 g8 => ?_)
          have bX8 : BnA K [st] H8 3 [.ref za, .ref zb, .ref zc] := by walk_at "bnda"
          have b58 : BnA K [st] H8 1 [v4] := by walk_at "bnda"
          have b8 : Bn K [st] H8 (.ref p8) := by walk_at "bnd"
          have bR8 : BnA K [st] H8 3 [.ref x, .ref y, .ref z] := by walk_at "bnda"
          have bs8 : Bn K [st] H8 (.ref s') := by walk_at "bnd"
          have st8 : St K H8 st := by walk_at "st"
          have al8 : Al H8 [st] := Al.st st8
          have fr8 : Fr st H H8 := by walk_at "fr"
          have gx8 : SqT K H8 z [.ref za, .ref zb, .ref zc] := by walk_at "sq"
          have qr8 : SqT K H8 r [.ref x, .ref y, .ref z] := by walk_at "sq"
          clear bX2 bY2 bZ2 bS2 bM2 br2 bs2 gs2 gx2 gy2 gz2 t92 w3 g3 f4 s4 e4 n5 w5 g5 b5 w6 g6 w7 g7 w8 al2 fX sX f12 s12 g8
          walk_at "g"
          refine if_eqI (fun e2 => ?_) (fun e2 => ?_)
          · walk_at "g"
            rename_i l1 L1 m1 m2 m3 l2 L2 m4 m5 l3 L3 m6 m7 m8 l4 L4 m9 m10 m11 l5 L5 m12 m13 l6 L6 m14 m15 m16 l7 L7 m17 m18 m19 L8 i8 v8 f8 s8 e8 c1 C1 d1 e1 c2 C2 d2 d3 d4 c3 C3 d5 d6 c4 C4 d7 d8 c5 C5 d9 d10 c6 C6 d11 d12 d13
            have bx8 : Bn K [st] H8 (.ref z) := Bn.tup gx8 bX8
            have by8 : Bn K [st] H8 (.ref y) := bR8.get (i := 1) rfl
            have bw : BnA K [st] L7 7 [.ref z, .ref l1, .ref l2, .ref l5, .ref y, .non, .ref l6] := by walk_at "bnda"
            have bv8 : BnA K [st] L8 1 [v8] := (BnA.cons (bw.get e8) .nil).fr f8 (by walk_at "st") (by simp)
            have bR10 : BnA K [st] L8 3 [.ref x, .ref y, .ref z] := by walk_at "bnda"
            have al3 : Al L8 [st] := Al.st s8
            have bs9 : Bn K [st] L8 (.ref s') := by walk_at "bnd"
            have fr9 : Fr st H L8 := by walk_at "fr"
            clear f8 bw m18 m15 m13 m10 m7 m5 m2 bx8 by8 bR8 b58 bX8 b8 bs8
            have bR9 : BnA K [st] C5 3 [.ref x, .ref y, .ref z] := by walk_at "bnda"
            have brow9 : BnA K [st] C5 1 [v8] := by walk_at "bnda"
            have b9 : Bn K [st] C5 (.ref c5) := by walk_at "bnd"
            obtain ⟨d, hd, hb⟩ := (show Bn K [st] C6 (.ref c6) from by walk_at "bnd").ob
            exact k _ _ d (by walk_at "fr") (by walk_at "st") hd hb
          · have brow : BnA K [st] H8 1 [.ref p8] := .cons b8 .nil
            clear b58 bX8 gx8
            walk_at "g"
            rename_i c1 C1 d1 e1 c2 C2 d2 d3 d4 c3 C3 d5 d6 c4 C4 d7 d8 c5 C5 d9 d10 c6 C6 d11 d12 d13
            have al2 : Al C2 [st] := by walk_at "al"
            have bR9 : BnA K [st] C5 3 [.ref x, .ref y, .ref z] := by walk_at "bnda"
            have brow9 : BnA K [st] C5 1 [.ref p8] := by walk_at "bnda"
            have b9 : Bn K [st] C5 (.ref c5) := by walk_at "bnd"
            obtain ⟨d, hd, hb⟩ := (show Bn K [st] C6 (.ref c6) from by walk_at "bnd").ob
            exact k _ _ d (by walk_at "fr") (by walk_at "st") hd hb
in #guard_msgs in universe u_z
abbrev s__law_made_right : Stmt := top 93
theorem sc__law_made_right : FnScope ["store", "rows", "shift", "one", "x", "row", "two", "kept", "made", "p", "whole"] ["store", "rows", "shift"] (defScope s__law_made_right) := ⟨rfl, rfl, rfl, by decide +kernel, rfl, by decide +kernel, by decide +kernel⟩
set_option Elab.async true in
set_option maxHeartbeats 4000000 in
theorem ok__law_made_right {f : Addr} {fd : FuncData} (F : FunA K "_law_made_right" "_law_made_right" s__law_made_right f fd) (T : Blt mg) (C__law_either : Cal P w K mg base "_law_either" 3 ["store", "parts"] (sp__law_either K)) (C_make_move : Cal P w K mg base "make_move" 5 ["rows", "shift"] (sp_make_move K)) (C__law_spoil : Cal P w K mg base "_law_spoil" 8 ["value"] (sp__law_spoil K)) (C__law_det : Cal P w K mg base "_law_det" 5 ["move"] (sp__law_det K)) (C__law_same : Cal P w K mg base "_law_same" 8 ["actual", "due"] (sp__law_same K 6)) (C__law_take : Cal P w K mg base "_law_take" 2 ["store", "many"] (sp__law_take K)) (C__law_number : Cal P w K mg base "_law_number" 3 ["store", "x"] (sp__law_number K)) (C__law_refused : Cal P w K mg base "_law_refused" 6 ["rows", "shift", "factors"] (sp__law_refused K)) (C__law_point : Cal P w K mg base "_law_point" 4 ["store"] (sp__law_point K)) (C__law_great : Cal P w K mg base "_law_great" 4 ["store"] (sp__law_great K)) (C_moved_point : Cal P w K mg base "moved_point" 5 ["move", "point"] (sp_moved_point K)) (C__law_moved : Cal P w K mg base "_law_moved" 6 ["move", "p"] (sp__law_moved K)) (C_moved_vector : Cal P w K mg base "moved_vector" 4 ["move", "direction"] (sp_moved_vector K)) (C__law_moved_vector : Cal P w K mg base "_law_moved_vector" 5 ["move", "v"] (sp__law_moved_vector K)) (C_determinant : Cal P w K mg base "determinant" 5 ["move"] (sp_determinant K)) (C_mirrors : Cal P w K mg base "mirrors" 6 ["move"] (sp_mirrors K)) (TB_repr : mg "repr" = none) : FnG P w K mg base 9 f fd ["store", "rows", "shift"] (sp__law_made_right K) := by
  refine F.okG sc__law_made_right (fun vs H Q E h => ?_) (fun cdv A outer s H vs Q E hG hr h => ?_)
  · obtain ⟨_, _, _, _, rfl, _⟩ := h
    rfl
  · obtain ⟨st, r, v, A, rfl, h0, h1, h2, h3, k⟩ := h
    refine ⟨_, (pss_cons (ps_set (i := 3) sc__law_made_right.nd rfl (.inl rfl) (pc C__law_either (hr.mono (by decide)) (by rfl) (pa_cons (pv 0) (pa_cons (pe_lc (own := [("row", 5)]) rfl sc__law_made_right.nd (kp_tup (K := K) rfl (pv 1)) (blkOk_by (own := [("row", 5)]) (N := ["store", "rows", "shift", "one", "x", "row", "two", "kept", "made", "p", "whole"]) (sc := defScope s__law_made_right) (by decide +kernel)) (fun _ _ _ _ _ => (pg_name (i := 5) sc__law_made_right.nd rfl (.inl rfl))) (fun _ _ _ _ _ => pts_nil) (fun _ _ _ _ _ => (pc C__law_either (hr.mono (by decide)) (by rfl) (pa_cons (pv 0) (pa_cons (pe_lc (own := [("x", 4)]) rfl sc__law_made_right.nd (kp_tup (K := K) rfl (pv 5)) (blkOk_by (own := [("x", 4)]) (N := ["store", "rows", "shift", "one", "x", "row", "two", "kept", "made", "p", "whole"]) (sc := (relabel (stF ( ((defBody s__law_made_right).getD 0 (.Pass ⟨0, 0, 0, 0⟩)))) (PyProof.Rows.envOfC "_law_made_right" (defScope s__law_made_right) 0 0 .none))) (by decide +kernel)) (fun _ _ _ _ _ => (pg_name (i := 4) sc__law_made_right.nd rfl (.inl rfl))) (fun _ _ _ _ _ => pts_nil) (fun _ _ _ _ _ => (pc C__law_number (hr.mono (by decide)) (by rfl) (pa_cons (pv 0) (pa_cons (pv 4) pa_nil))))) pa_nil))))) pa_nil))))
 (pss_cons (ps_set (i := 6) sc__law_made_right.nd rfl (.inl rfl) (pc C__law_either (hr.mono (by decide)) (by rfl) (pa_cons (pv 0) (pa_cons (pe_lc (own := [("x", 4)]) rfl sc__law_made_right.nd (kp_tup (K := K) rfl (pv 2)) (blkOk_by (own := [("x", 4)]) (N := ["store", "rows", "shift", "one", "x", "row", "two", "kept", "made", "p", "whole"]) (sc := defScope s__law_made_right) (by decide +kernel)) (fun _ _ _ _ _ => (pg_name (i := 4) sc__law_made_right.nd rfl (.inl rfl))) (fun _ _ _ _ _ => pts_nil) (fun _ _ _ _ _ => (pc C__law_number (hr.mono (by decide)) (by rfl) (pa_cons (pv 0) (pa_cons (pv 4) pa_nil))))) pa_nil))))
 (pss_cons (ps_set (i := 7) sc__law_made_right.nd rfl (.inl rfl) (pe_callB (kc_repr (K := K) rfl hG (hu_of64 hr)) (by rfl) TB_repr (by decide +kernel) (pa_cons (pe_lst (pa_cons (pv 3) (pa_cons (pv 6) pa_nil))) pa_nil)))
 (pss_cons (ps_if (pt_cmpR op_eq (pe_ix (kx_tup (K := K) rfl) (pc C__law_det (hr.mono (by decide)) (by rfl) (pa_cons (pe_tup (pa_cons (pv 1) (pa_cons (pv 2) pa_nil))) pa_nil)) pe_int (fun _ _ => rfl)) pe_int (nomark _))
 (pss_one (ps_ret (pe_and (pc C__law_refused (hr.mono (by decide)) (by rfl) (pa_cons (pv 3) (pa_cons (pv 6) (pa_cons pe_non pa_nil)))) (pe_one (pe_cmpR op_eq (pe_callB (kc_repr (K := K) rfl hG (hu_of64 hr)) (by rfl) TB_repr (by decide +kernel) (pa_cons (pe_lst (pa_cons (pv 3) (pa_cons (pv 6) pa_nil))) pa_nil)) (pv 7) (nomark _))))))
 pss_nil)
 (pss_cons (ps_set (i := 8) sc__law_made_right.nd rfl (.inl rfl) (pc C_make_move (hr.mono (by decide)) (by rfl) (pa_cons (pv 3) (pa_cons (pv 6) pa_nil))))
 (pss_cons (ps_if (PW.pt (pw_or (pt_not (pt_val (pc C__law_same (hr.mono (by decide)) (by rfl) (pa_cons (pv 8) (pa_cons (pe_tup (pa_cons (pv 1) (pa_cons (pv 2) pa_nil))) pa_nil))))) (pw_or1 (pt_cmpR op_ne (pe_callB (kc_repr (K := K) rfl hG (hu_of64 hr)) (by rfl) TB_repr (by decide +kernel) (pa_cons (pe_lst (pa_cons (pv 3) (pa_cons (pv 6) pa_nil))) pa_nil)) (pv 7) (nomark _)))))
 (pss_one (ps_ret pe_bl))
 pss_nil)
 (pss_cons (ps_expr (pc C__law_spoil (hr.mono (by decide)) (by rfl) (pa_cons (pe_lst (pa_cons (pv 3) (pa_cons (pv 6) pa_nil))) pa_nil)))
 (pss_cons (ps_if (pt_not (pt_val (pc C__law_same (hr.mono (by decide)) (by rfl) (pa_cons (pv 8) (pa_cons (pe_tup (pa_cons (pv 1) (pa_cons (pv 2) pa_nil))) pa_nil)))))
 (pss_one (ps_ret pe_bl))
 pss_nil)
 (pss_cons (ps_set (i := 9) sc__law_made_right.nd rfl (.inl rfl) (pe_ix (kx_list (K := K) rfl) (pe_lst (pa_cons (pc C__law_point (hr.mono (by decide)) (by rfl) (pa_cons (pv 0) pa_nil)) (pa_cons (pc C__law_great (hr.mono (by decide)) (by rfl) (pa_cons (pv 0) pa_nil)) pa_nil))) (pc C__law_take (hr.mono (by decide)) (by rfl) (pa_cons (pv 0) (pa_cons pe_int pa_nil))) (fun _ _ => rfl)))
 (pss_cons (ps_if (pt_not (pt_val (pc C__law_same (hr.mono (by decide)) (by rfl) (pa_cons (pc C_moved_point (hr.mono (by decide)) (by rfl) (pa_cons (pv 8) (pa_cons (pv 9) pa_nil))) (pa_cons (pc C__law_moved (hr.mono (by decide)) (by rfl) (pa_cons (pv 8) (pa_cons (pv 9) pa_nil))) pa_nil)))))
 (pss_one (ps_ret pe_bl))
 pss_nil)
 (pss_cons (ps_if (pt_not (pt_val (pc C__law_same (hr.mono (by decide)) (by rfl) (pa_cons (pc C_moved_vector (hr.mono (by decide)) (by rfl) (pa_cons (pv 8) (pa_cons (pv 9) pa_nil))) (pa_cons (pc C__law_moved_vector (hr.mono (by decide)) (by rfl) (pa_cons (pv 8) (pa_cons (pv 9) pa_nil))) pa_nil)))))
 (pss_one (ps_ret pe_bl))
 pss_nil)
 (pss_cons (ps_set (i := 10) sc__law_made_right.nd rfl (.inl rfl) (pc C__law_det (hr.mono (by decide)) (by rfl) (pa_cons (pv 8) pa_nil)))
 (pss_one (ps_ret (pe_and (pc C__law_same (hr.mono (by decide)) (by rfl) (pa_cons (pc C_determinant (hr.mono (by decide)) (by rfl) (pa_cons (pv 8) pa_nil)) (pa_cons (pv 10) pa_nil))) (pe_one (pc C__law_same (hr.mono (by decide)) (by rfl) (pa_cons (pc C_mirrors (hr.mono (by decide)) (by rfl) (pa_cons (pv 8) pa_nil)) (pa_cons (pe_cmpR op_lt (pe_ix (kx_tup (K := K) rfl) (pv 10) pe_int (fun _ _ => rfl)) pe_int (nomark _)) pa_nil))))))))))))))))))), ?_⟩
    have pem := pe_m A
    have hst0 : H st ≠ none := St.some h0
    obtain ⟨ls, al0, pin⟩ := st_pin h0
    obtain ⟨x, y, z, hq, va, vb, vc⟩ := id h1
    have vs := id h2
    walk_at "g"
    intro Da hD
    refine lc_tupH (K := K) (xs := [.ref x, .ref y, .ref z]) (Go K st H) (fun i acc H' => Ros K H Da H' acc (([A.a, A.b, A.c] : List V3).take i)) (go_new hD h0) Ros.nil (fun H1 acc _ g => Fr.tup g.1 h0 hq) (fun _ => rfl) ?_ ?_
    · rintro i t acc H1 hi hacc hDa ⟨fg, sg⟩ J
      obtain ⟨w', p, rfl, hw, hp, hi3⟩ : ∃ w' p, t = .ref w' ∧ Vc K H1 w' p ∧ ([A.a, A.b, A.c] : List V3)[i]? = some p ∧ i < 3 := by
        rcases i with _ | _ | _ | i
        · cases hi; exact ⟨_, _, rfl, Vc.fr fg h0 va, rfl, by decide⟩
        · cases hi; exact ⟨_, _, rfl, Vc.fr fg h0 vb, rfl, by decide⟩
        · cases hi; exact ⟨_, _, rfl, Vc.fr fg h0 vc, rfl, by decide⟩
        · simp at hi
      obtain ⟨xa, xb, xc, q0, q1, q2, q3⟩ := hw
      walk_at "g"
      intro Db hDb
      have LG := lcG_go (K := K) (s := st) (J := fun n acc H' => Paired (fun v q => RvQ K H' v q) acc (([p.x, p.y, p.z] : List Rat).take n)) hDb sg (fun _ _ _ _ e h => Paired.mapP h fun _ _ h => h.frq e)
      refine lc_tupA (K := K) (xs := [.ref xa, .ref xb, .ref xc]) (Go K st H1) (fun n acc H' => Paired (fun v q => RvQ K H' v q) acc (([p.x, p.y, p.z] : List Rat).take n)) (go_new hDb sg) .nil (fun H2 acc _ g => Fr.tup g.1 sg q0) ?_ ?_
      · rintro n u ac2 H2 hu ha2 hD2 ⟨f2, s2⟩ J2
        obtain ⟨b', q, rfl, hb, hq2, hn3⟩ : ∃ b' q, u = .ref b' ∧ SqT K H2 b' [.int q.num, .int (q.den : Int)] ∧ ([p.x, p.y, p.z] : List Rat)[n]? = some q ∧ n < 3 := by
          rcases n with _ | _ | _ | n
          · cases hu; exact ⟨_, _, rfl, Fr.tup f2 sg q1, rfl, by decide⟩
          · cases hu; exact ⟨_, _, rfl, Fr.tup f2 sg q2, rfl, by decide⟩
          · cases hu; exact ⟨_, _, rfl, Fr.tup f2 sg q3, rfl, by decide⟩
          · simp at hu
        walk_at "g"
        refine ⟨rfl, ?_⟩
        walk_at "g"
        rename_i H3 v3 f3 s3 r3
        have hx : notS ac2 = true := notS_len (by rw [ha2]; simp; omega)
        refine r_lcQ (K := K) LG (by omega) ha2 (Fr.lstN f3 s2 hD2 hx) ⟨f2.trans f3, s3⟩ ?_
        rw [List.take_add_one, hq2]
        exact paired_snoc (R := fun v q => RvQ K H3 v q) r3 (Paired.mapP J2 fun _ _ h => h.frq (TK.fr f3 s2))
      · rintro ac2 H2 ha2 hD2 ⟨f2, s2⟩ J2
        obtain ⟨a1, b1, c1, rfl, r1, r2, r3⟩ := RvL.three J2
        walk_at "g"
        rename_i H3 rr f3 s3 hr
        have hx : notS acc = true := notS_len (by rw [hacc]; simp; omega)
        have hDa2 : H2 Da = some (.lst acc) := Fr.lstN f2 sg hDa hx
        have hDa3 : H3 Da = some (.lst acc) := Fr.lstN f3 s2 hDa2 hx
        have ro : Ro K H Da H3 rr p := ⟨a1, b1, c1, hr.imp id (fun q => ⟨Fr.nonB (fg.trans f2) h0 q.1, (fun e => by rw [e, hDa2] at q; cases q.1), q.2⟩), r1.frq (TK.fr f3 s2), r2.frq (TK.fr f3 s2), r3.frq (TK.fr f3 s2)⟩
        have J3 : Ros K H Da H3 acc (([A.a, A.b, A.c] : List V3).take i) := (J.go f2 sg hst0).go f3 s2 hst0
        refine r_lcQ2 (by omega) hacc hDa3 ⟨Fr.mut (fg.trans (f2.trans f3)) hD hst0, St.mut h0 (fg.trans (f2.trans f3)) s3 hD⟩ ?_
        rw [List.take_add_one, hp]
        exact (J3.snoc ro).upd hDa3
    · rintro acc H1 hacc hDa ⟨fg, sg⟩ J
      obtain ⟨y0, y1, y2, rfl, o0, o1, o2⟩ := Ros.three J
      walk_at "g"
      rename_i H4 one f4 s4 hone
      have o0 := o0.go f4 sg hst0
      have o1 := o1.go f4 sg hst0
      have o2 := o2.go f4 sg hst0
      have hone' : SqT K H4 one [.ref y0, .ref y1, .ref y2] ∨ (H one = none ∧ H4 one = some (.lst [.ref y0, .ref y1, .ref y2])) := hone.imp id (fun q => ⟨Fr.nonB fg h0 q.1, q.2⟩)
      obtain ⟨xa, xb, xc, q0, q1, q2, q3⟩ := Vc.fr f4 sg (Vc.fr fg h0 vs)
      clear hone hDa J
      walk_at "g"
      intro Db hDb
      have LG := lcG_go (K := K) (s := st) (J := fun n acc H' => Paired (fun v q => RvQ K H' v q) acc (([A.s.x, A.s.y, A.s.z] : List Rat).take n)) hDb s4 (fun _ _ _ _ e h => Paired.mapP h fun _ _ h => h.frq e)
      refine lc_tupA (K := K) (xs := [.ref xa, .ref xb, .ref xc]) (Go K st H4) (fun n acc H' => Paired (fun v q => RvQ K H' v q) acc (([A.s.x, A.s.y, A.s.z] : List Rat).take n)) (go_new hDb s4) .nil (fun H2 acc _ g => Fr.tup g.1 s4 q0) ?_ ?_
      · rintro n u ac2 H2 hu ha2 hD2 ⟨f2, s2⟩ J2
        obtain ⟨b', q, rfl, hb, hq2, hn3⟩ : ∃ b' q, u = .ref b' ∧ SqT K H2 b' [.int q.num, .int (q.den : Int)] ∧ ([A.s.x, A.s.y, A.s.z] : List Rat)[n]? = some q ∧ n < 3 := by
          rcases n with _ | _ | _ | n
          · cases hu; exact ⟨_, _, rfl, Fr.tup f2 s4 q1, rfl, by decide⟩
          · cases hu; exact ⟨_, _, rfl, Fr.tup f2 s4 q2, rfl, by decide⟩
          · cases hu; exact ⟨_, _, rfl, Fr.tup f2 s4 q3, rfl, by decide⟩
          · simp at hu
        walk_at "g"
        refine ⟨rfl, ?_⟩
        walk_at "g"
        rename_i H3 v3 f3 s3 r3
        have hx : notS ac2 = true := notS_len (by rw [ha2]; simp; omega)
        refine r_lcQ (K := K) LG (by omega) ha2 (Fr.lstN f3 s2 hD2 hx) ⟨f2.trans f3, s3⟩ ?_
        rw [List.take_add_one, hq2]
        exact paired_snoc (R := fun v q => RvQ K H3 v q) r3 (Paired.mapP J2 fun _ _ h => h.frq (TK.fr f3 s2))
      · rintro ac2 H2 ha2 hD2 ⟨f2, s2⟩ J2
        obtain ⟨a1, b1, c1, rfl, r1, r2, r3⟩ := RvL.three J2
        walk_at "g"
        rename_i H3 two f3 s3 htwo L HL nL sL hL
        have o0 := (o0.go f2 s4 hst0).go f3 s2 hst0
        have o1 := (o1.go f2 s4 hst0).go f3 s2 hst0
        have o2 := (o2.go f2 s4 hst0).go f3 s2 hst0
        have hone3 : SqT K H3 one [.ref y0, .ref y1, .ref y2] ∨ (one ∉ [st, ls] ∧ H3 one = some (.lst [.ref y0, .ref y1, .ref y2])) := by
          rcases hone' with q | ⟨q0, q1⟩
          · exact .inl (Fr.tup f3 s2 (Fr.tup f2 s4 q))
          · exact .inr ⟨al0.new q0, Fr.lstN f3 s2 (Fr.lstN f2 s4 q1 rfl) rfl⟩
        have r1 := r1.frq (TK.fr f3 s2)
        have r2 := r2.frq (TK.fr f3 s2)
        have r3 := r3.frq (TK.fr f3 s2)
        have htwo3 : SqT K H3 two [a1, b1, c1] ∨ (two ∉ [st, ls] ∧ H3 two = some (.lst [a1, b1, c1])) := htwo.imp id (fun q => ⟨al0.new (Fr.nonB (fg.trans (f4.trans f2)) h0 q.1), q.2⟩)
        have rowd : ∀ r p, Ro K H Da H3 r p → VN 150 150 p → ∃ d, Dn K [st, ls] H3 (.ref r) d ∧ (∀ n, Sz (n + 3) d) ∧ Rp 2 9 d := by
          rintro r p ⟨a, b, c, g1, g2, g3, g4⟩ hp
          exact tri_d (g1.imp id fun q => ⟨al0.new q.1, q.2.2⟩) (num_d g2 hp.x) (num_d g3 hp.y) (num_d g4 hp.z)
        obtain ⟨d1, hd1, z1, p1⟩ : ∃ d, Dn K [st, ls] H3 (.ref one) d ∧ (∀ n, Sz (n + 4) d) ∧ Rp 3 30 d := tri_d hone3 (rowd _ _ o0 h3.a) (rowd _ _ o1 h3.b) (rowd _ _ o2 h3.c)
        obtain ⟨d2, hd2, z2, p2⟩ : ∃ d, Dn K [st, ls] H3 (.ref two) d ∧ (∀ n, Sz (n + 3) d) ∧ Rp 2 9 d := tri_d htwo3 (num_d r1 h3.s.x) (num_d r2 h3.s.y) (num_d r3 h3.s.z)
        have hP : Rp 4 62 (.list [d1, d2]) := Rp.list (n := 3) (m := 30) (l := 2) (fun d hd => by
          simp only [List.mem_cons, List.not_mem_nil, or_false] at hd
          rcases hd with rfl | rfl
          · exact p1
          · exact p2.le (by decide) (by decide)) (Nat.le_refl 2)
        have zL : Sz 6 (.list [d1, d2]) := ⟨(Nat.le_succ 2 : [d1, d2].length ≤ 3), fun d hd => by
          simp only [List.mem_cons, List.not_mem_nil, or_false] at hd
          rcases hd with rfl | rfl
          · exact z1 1
          · exact z2 2⟩
        have dpL : ∀ (H' : Hp) (l : Addr), Same H3 H' → H' l = some (.lst [.ref one, .ref two]) → Dp K H' (.ref l) (.list [d1, d2]) := fun H' l s h => .lst (SqL.of h) (.cons (hd1.same s).dp (.cons (hd2.same s).dp .nil))
        have tk3 : TK K H H3 := TK.trans (TK.fr fg h0) (TK.trans (TK.fr f4 sg) (TK.trans (TK.fr f2 s4) (TK.fr f3 s2)))
        have fr3 : Fr st H H3 := fg.trans (f4.trans (f2.trans f3))
        have rw3 : Rw K H3 r A.a A.b A.c := Rw.tk tk3 h1
        have vs3 : Vc K H3 v A.s := Vc.tk tk3 h2
        have h1o : SqT K H3 one [.ref y0, .ref y1, .ref y2] ∨ SqL K H3 one [.ref y0, .ref y1, .ref y2] := hone3.imp id fun q => SqL.of q.2
        have rv0 := o0.rowV
        have rv1 := o1.rowV
        have rv2 := o2.rowV
        have rv3 : RowV K H3 two A.s := ⟨a1, b1, c1, htwo3.imp id fun q => SqL.of q.2, r1, r2, r3⟩
        clear rowd o0 o1 o2 hone3 htwo3 htwo hone' r1 r2 r3 J2 hD2 LG hDb q0 q1 q2 q3 f2 s2 f4 s4 fg sg f3 hq va vb vc vs
        refine r_repr (dpL _ _ sL hL) hP (by decide) (by decide) ?_
        walk_at "g"
        rename_i T5 H5 n5 s5 h5
        have m5 : Mv K H5 T5 A := ⟨r, v, SqT.of h5, Rw.tk (TK.same (sL.trans s5)) rw3, Vc.same (sL.trans s5) vs3⟩
        refine u__law_det m5 h3 (by decide) (by decide) ?_
        intro H6 t6 s6 ht6
        have s36 : Same H3 H6 := sL.trans (s5.trans s6)
        walk_at "g"
        refine if_eqI (fun ez => ?_) (fun ez => ?_)
        · have ez0 : det3 A = 0 := Rat.num_eq_zero.1 ez
          walk_at "g"
          refine u__law_refused (A := A) (n1 := 150) (d1 := 150) (h1o.imp (Same.tup s36) (fun q => q.imp (Same.rd s36) id)) (rv0.same s36) (rv1.same s36) (rv2.same s36) (rv3.same s36) h3 (by decide) (by decide) ez0 ?_
          intro H7 s7
          walk_at "g"
          rename_i L8 H8 n8 s8 h8
          refine r_repr (dpL _ _ (s36.trans (s7.trans s8)) h8) hP (by decide) (by decide) ?_
          walk_at "g"
          rw [decide_eq_true rfl]
          have s38 := s36.trans (s7.trans s8)
          exact k _ (TK.trans tk3 (TK.same s38)) (St.same s38 s3)
        · have ez0 : det3 A ≠ 0 := fun e => ez (Rat.num_eq_zero.2 e)
          walk_at "g"
          refine u_make_move (A := A) (n1 := 150) (d1 := 150) (h1o.imp (Same.tup s36) (fun q => q.imp (Same.rd s36) id)) (rv0.same s36) (rv1.same s36) (rv2.same s36) (rv3.same s36) h3 (by decide) (by decide) ez0 ?_
          intro H7 mm s7 hmm
          have s37 := s36.trans s7
          clear rv0 rv1 rv2 rv3 h1o
          walk_at "g"
          rename_i T8 H8 n8 s8 h8
          have m8 : Mv K H8 T8 A := ⟨r, v, SqT.of h8, Rw.tk (TK.same (s37.trans s8)) rw3, Vc.same (s37.trans s8) vs3⟩
          refine u__law_same (Mv.dp (Mv.same s8 hmm)) (Mv.dp m8) pem ?_
          intro H9 s9
          walk_at "g"
          rename_i L10 H10 n10 s10 h10
          refine r_repr (dpL _ _ (s37.trans (s8.trans (s9.trans s10))) h10) hP (by decide) (by decide) ?_
          walk_at "g"
          rw [decide_eq_true rfl]
          walk_at "g"
          rename_i L11 H11 n11 s11 h11
          have s311 := s37.trans (s8.trans (s9.trans (s10.trans s11)))
          obtain ⟨ns, i1, i2, i3, i4, i5, i6, hst3⟩ := pin H3 fr3 s3
          have hst11 := StD.keepN (H' := H11) hst3
          have al3 : Al H3 [st, ls] := by
            intro a ha
            simp only [List.mem_cons, List.not_mem_nil, or_false] at ha
            rcases ha with rfl | rfl
            · exact St.some s3
            · rw [hst3.lst]; exact fun q => nomatch q
          have al11 : Al H10 [st, ls] := al3.same (s37.trans (s8.trans (s9.trans s10)))
          refine u__law_spoil (N := [st, ls]) (ds := [d1, d2]) (al11.new n11) h11 (.cons (hd1.same s311) (.cons (hd2.same s311) .nil)) zL (al11.same s11) ?_
          intro H12 n12 t12 k12
          have tkA : TK K H3 H12 := TK.trans (TK.same s311) t12
          have st11 : StD K H11 st ls ns i1 i2 i3 i4 i5 i6 := ⟨s311 _ _ hst3.at_, hst3.ne, s311 _ _ hst3.lst, hst3.nn⟩
          have st12 : St K H12 st := ⟨_, _, _, _, _, _, _, _, st11.keepN k12⟩
          have mm12 : Mv K H12 mm A := Mv.tk t12 (Mv.same (s8.trans (s9.trans (s10.trans s11))) hmm)
          have rw12 : Rw K H12 r A.a A.b A.c := Rw.tk tkA rw3
          have vs12 : Vc K H12 v A.s := Vc.tk tkA vs3
          have tk12 : TK K H H12 := TK.trans tk3 tkA
          clear st11 hst11 hst3 al3 al11 s311 dpL hd1 hd2 rw3 vs3 hmm m8 m5 s37 s36 s7 s8 s9 s10 s11 s3 tkA tk3 fr3 t12 k12 sL hL ht6 h5 n5 n11 h11 h10 s5 s6
          walk_at "g"
          rename_i T13 H13 n13 s13 h13
          have m13 : Mv K H13 T13 A := ⟨r, v, SqT.of h13, Rw.tk (TK.same s13) rw12, Vc.same s13 vs12⟩
          refine u__law_same (Mv.dp (Mv.same s13 mm12)) (Mv.dp m13) pem ?_
          intro H14 s14
          clear h13 n13 m13
          walk_at "g"
          rename_i H15 pa pq f15 s15 va15 vn15 H16 ga gp f16 s16 vg16 gvn L17 H17 n17 s17 h17 H18 w18 f18 s18 w0 w1
          obtain ⟨pp, p3, ex, hp3, hv3⟩ : ∃ (pp : Addr) (p3 : V3), atI [V.ref pa, V.ref ga] w18 = some (.ref pp) ∧ Vc K H18 pp p3 ∧ VN 134 134 p3 := by
            obtain rfl | rfl : w18 = 0 ∨ w18 = 1 := by omega
            · exact ⟨pa, pq, rfl, by walk_at "vc", vn15.le (by decide) (by decide)⟩
            · exact ⟨ga, gp, rfl, by walk_at "vc", gvn⟩
          refine r_ixL (by walk_at "sl") ex ?_
          have mm18 : Mv K H18 mm A := by walk_at "mv"
          have st18 : St K H18 st := by walk_at "st"
          have tk18 : TK K H H18 := by
            refine TK.trans tk12 ?_
            have e1 : St K H16 st := s16
            exact TK.trans (TK.same (s13.trans s14)) (TK.trans (TK.fr f15 (St.same (s13.trans s14) st12)) (TK.trans (TK.fr f16 s15) (TK.trans (TK.same s17) (TK.fr f18 (St.same s17 s16)))))
          clear mm12 rw12 vs12 st12 s13 s14 f15 s15 va15 vn15 f16 s16 vg16 n17 s17 h17 f18 s18 gvn ex
          walk_at "g"
          rename_i Hy sy Hz bz sz hz
          have eb : bz = decide ((det3 A).num < 0) := by
            rw [Bool.eq_iff_iff, hz, decide_eq_true_iff]
            exact num_neg.symm
          subst eb
          refine u__law_same (Dp.bl _) (Dp.bl _) trivial ?_
          intro Hf sf
          have sF : Same H18 Hf := by walk_at "same"
          exact k _ (TK.trans tk18 (TK.same sF)) (St.same sF st18)
in #guard_msgs in universe u_z
abbrev s__law_named_right : Stmt := top 94
theorem sc__law_named_right : FnScope ["store", "still", "v", "at", "many", "factors", "x", "k"] ["store"] (defScope s__law_named_right) := ⟨rfl, rfl, rfl, by decide +kernel, rfl, by decide +kernel, by decide +kernel⟩
set_option Elab.async true in
set_option maxHeartbeats 4000000 in
theorem ok__law_named_right {f : Addr} {fd : FuncData} (F : FunA K "_law_named_right" "_law_named_right" s__law_named_right f fd) (T : Blt mg) (C__law_turns : Cal P w K mg base "_law_turns" 2 ["at", "many"] (sp__law_turns K)) (C__law_take : Cal P w K mg base "_law_take" 2 ["store", "many"] (sp__law_take K)) (C__law_refused : Cal P w K mg base "_law_refused" 6 ["rows", "shift", "factors"] (sp__law_refused_V_B K)) (C__law_same : Cal P w K mg base "_law_same" 8 ["actual", "due"] (sp__law_same K 6)) (C__law_pick : Cal P w K mg base "_law_pick" 3 ["store", "items"] (sp__law_pick K)) (C__law_point : Cal P w K mg base "_law_point" 4 ["store"] (sp__law_point K)) (C__law_great : Cal P w K mg base "_law_great" 4 ["store"] (sp__law_great K)) (C_quarter_turn : Cal P w K mg base "quarter_turn" 7 ["axis", "times"] (sp_quarter_turn K)) (C_scale_by : Cal P w K mg base "scale_by" 4 ["factors"] (sp_scale_by K)) (C__law_scaled : Cal P w K mg base "_law_scaled" 2 ["factors"] (sp__law_scaled K)) (C_shift_by : Cal P w K mg base "shift_by" 1 ["step"] (sp_shift_by K)) (C_mirror_axis : Cal P w K mg base "mirror_axis" 5 ["axis"] (sp_mirror_axis K)) (GT_STILL : GMD K mg "STILL" stD) (KC_quarter_turn_1 : KCal P w K mg base "quarter_turn" 7 ["axis", "times"] (sp_quarter_turn K) 1 [] (pkV [0, 1] [.int 1])) (KC_quarter_turn_1_times : KCal P w K mg base "quarter_turn" 7 ["axis", "times"] (sp_quarter_turn K) 1 ["times"] (pkV [0, 1] [.int 1])) : FnOk P w K mg base CX0 9 f fd ["store"] (sp__law_named_right K) := by
  refine F.ok sc__law_named_right (fun vs H Q E h => ?_) (fun cdv A outer s H vs Q E hr h => ?_)
  · obtain ⟨_, rfl, _⟩ := h
    rfl
  · obtain ⟨st, rfl, h0, k⟩ := h
    refine ⟨_, (pss_cons (ps_set (i := 1) sc__law_named_right.nd rfl (.inl rfl) (pc C__law_turns (hr.mono (by decide)) (by rfl) (pa_cons pe_int (pa_cons pe_int pa_nil))))
 (pss_cons (ps_set (i := 2) sc__law_named_right.nd rfl (.inl rfl) (pe_ix (kx_list (K := K) rfl) (pe_lst (pa_cons (pc C__law_point (hr.mono (by decide)) (by rfl) (pa_cons (pv 0) pa_nil)) (pa_cons (pc C__law_great (hr.mono (by decide)) (by rfl) (pa_cons (pv 0) pa_nil)) pa_nil))) (pc C__law_take (hr.mono (by decide)) (by rfl) (pa_cons (pv 0) (pa_cons pe_int pa_nil))) (fun _ _ => rfl)))
 (pss_cons (ps_if (PW.pt (pw_or (pt_not (pt_val (pc C__law_same (hr.mono (by decide)) (by rfl) (pa_cons (pe_gd GT_STILL (by rfl)) (pa_cons (pv 1) pa_nil))))) (pw_or1 (pt_not (pt_val (pc C__law_same (hr.mono (by decide)) (by rfl) (pa_cons (pc C_shift_by (hr.mono (by decide)) (by rfl) (pa_cons (pv 2) pa_nil)) (pa_cons (pe_tup (pa_cons (pe_ix (kx_tup (K := K) rfl) (pv 1) pe_int (fun _ _ => rfl)) (pa_cons (pv 2) pa_nil))) pa_nil))))))))
 (pss_one (ps_ret pe_bl))
 pss_nil)
 (pss_cons (ps_set (i := 3) sc__law_named_right.nd rfl (.inl rfl) (pc C__law_take (hr.mono (by decide)) (by rfl) (pa_cons (pv 0) (pa_cons pe_int pa_nil))))
 (pss_cons (ps_set (i := 4) sc__law_named_right.nd rfl (.inl rfl) (pc C__law_take (hr.mono (by decide)) (by rfl) (pa_cons (pv 0) (pa_cons pe_int pa_nil))))
 (pss_cons (ps_set (i := 5) sc__law_named_right.nd rfl (.inl rfl) (pe_lst (pa_cons (pe_tup (pa_cons pe_int (pa_cons pe_int pa_nil))) (pa_cons (pe_tup (pa_cons pe_int (pa_cons pe_int pa_nil))) (pa_cons (pe_tup (pa_cons pe_int (pa_cons pe_int pa_nil))) pa_nil)))))
 (pss_cons (ps_asg (pe_tup (pa_cons (pe_un un_neg pe_int) (pa_cons pe_int pa_nil))) (pg_sub (pv 5) (pv 3) set_list))
 (pss_cons (ps_if (PW.pt (pw_or (pt_not (pt_val (pc C__law_same (hr.mono (by decide)) (by rfl) (pa_cons (pc C_mirror_axis (hr.mono (by decide)) (by rfl) (pa_cons (pv 3) pa_nil)) (pa_cons (pc C__law_scaled (hr.mono (by decide)) (by rfl) (pa_cons (pv 5) pa_nil)) pa_nil))))) (pw_or1 (pt_not (pt_val (pc C__law_same (hr.mono (by decide)) (by rfl) (pa_cons (pcK KC_quarter_turn_1 (hr.mono (by decide)) (by rfl) (pa_cons (pv 3) pa_nil) pk_nil) (pa_cons (pc C__law_turns (hr.mono (by decide)) (by rfl) (pa_cons (pv 3) (pa_cons pe_int pa_nil))) pa_nil))))))))
 (pss_one (ps_ret pe_bl))
 pss_nil)
 (pss_cons (ps_if (pt_not (pt_val (pc C__law_same (hr.mono (by decide)) (by rfl) (pa_cons (pcK KC_quarter_turn_1_times (hr.mono (by decide)) (by rfl) (pa_cons (pv 3) pa_nil) (pk_cons (pv 4) pk_nil)) (pa_cons (pc C__law_turns (hr.mono (by decide)) (by rfl) (pa_cons (pv 3) (pa_cons (pv 4) pa_nil))) pa_nil)))))
 (pss_one (ps_ret pe_bl))
 pss_nil)
 (pss_cons (ps_setLc (i := 5) (own := [("x", 6)]) rfl sc__law_named_right.nd rfl rfl (sw_true rfl rfl rfl (by decide +kernel)) (kp_tup (K := K) rfl (pv 2)) (blkOk_by (own := [("x", 6)]) (N := ["store", "still", "v", "at", "many", "factors", "x", "k"]) (sc := defScope s__law_named_right) (by decide +kernel)) (fun _ _ _ _ _ => (pg_name (i := 6) sc__law_named_right.nd rfl (.inl rfl))) (fun _ _ _ _ _ => pts_nil) (fun _ _ _ _ _ => (pc C__law_pick (hr.mono (by decide)) (by rfl) (pa_cons (pv 0) (pa_cons (pe_lst (pa_cons (pv 6) (pa_cons (pe_tup (pa_cons pe_int (pa_cons pe_int pa_nil))) (pa_cons (pe_tup (pa_cons (pe_un un_neg pe_int) (pa_cons pe_int pa_nil))) pa_nil)))) pa_nil)))))
 (pss_cons (ps_for PassesOwn.never rfl (pi_range1 (by rfl) T.range (pa_cons pe_int pa_nil)) (pg_name (i := 7) sc__law_named_right.nd rfl (.inl rfl))
 (pss_one (ps_if (pt_cmpR op_eq (pe_ix (kx_tup (K := K) rfl) (pe_ix (kx_list (K := K) rfl) (pv 5) (pv 7) (fun _ _ => rfl)) pe_int (fun _ _ => rfl)) pe_int (nomark _))
 (pss_one (ps_asg (pe_tup (pa_cons pe_int (pa_cons pe_int pa_nil))) (pg_sub (pv 5) (pv 7) set_list)))
 pss_nil)))
 (pss_cons (ps_if (pt_not (pt_val (pc C__law_same (hr.mono (by decide)) (by rfl) (pa_cons (pc C_scale_by (hr.mono (by decide)) (by rfl) (pa_cons (pe_callTy (kc_tuple (K := K) rfl) (by rfl) T.tuple (by decide +kernel) (pa_cons (pv 5) pa_nil)) pa_nil)) (pa_cons (pc C__law_scaled (hr.mono (by decide)) (by rfl) (pa_cons (pv 5) pa_nil)) pa_nil)))))
 (pss_one (ps_ret pe_bl))
 pss_nil)
 (pss_cons (ps_asg (pe_tup (pa_cons pe_int (pa_cons pe_int pa_nil))) (pg_sub (pv 5) (pv 3) set_list))
 (pss_one (ps_ret (pc C__law_refused (hr.mono (by decide)) (by rfl) (pa_cons pe_non (pa_cons pe_non (pa_cons (pe_callTy (kc_tuple (K := K) rfl) (by rfl) T.tuple (by decide +kernel) (pa_cons (pv 5) pa_nil)) pa_nil))))))))))))))))))), ?_⟩
    have a3 : (⟨((0 : Int) : Rat), ((0 : Int) : Rat), ((0 : Int) : Rat)⟩ : V3) = o3 := by apply V3.ext' <;> decide +kernel
    walk_at "g"
    rename_i H1 still s1 hs1 H2 pa pq f2 t2 va2 vn2 H3 ga gp f3 t3 vg3 gvn L4 H4 n4 s4 h4 H5 w5 f5 t5 w0 w1
    obtain ⟨pp, p3, ex, hp3, hv3⟩ : ∃ (pp : Addr) (p3 : V3), atI [V.ref pa, V.ref ga] w5 = some (.ref pp) ∧ Vc K H5 pp p3 ∧ VN 134 134 p3 := by
      obtain rfl | rfl : w5 = 0 ∨ w5 = 1 := by omega
      · exact ⟨pa, pq, rfl, by walk_at "vc", vn2.le (by decide) (by decide)⟩
      · exact ⟨ga, gp, rfl, by walk_at "vc", gvn⟩
    refine r_ixL (by walk_at "sl") ex ?_
    have ms5 : Mv K H5 still My.still := (by walk_at "mv" : Mv K H5 still (tns 0 (Int.toNat 0)))
    have tk5 : TK K H H5 := TK.trans (TK.same s1) (TK.trans (TK.fr f2 (St.same s1 h0)) (TK.trans (TK.fr f3 t2) (TK.trans (TK.same s4) (TK.fr f5 (St.same s4 t3)))))
    clear s1 hs1 f2 t2 va2 vn2 f3 t3 vg3 n4 s4 h4 f5 gvn ex
    obtain ⟨sr, ss, q5, ⟨sx, sy, sz, q6, u0, u1, u2⟩, u3⟩ := id ms5
    walk_at "g"
    rename_i ga' gr gs gx gy gz e0' e1' v0 v1 v2 v3
    have msG : Mv K H5 ga' My.still := ⟨_, _, e0', ⟨_, _, _, e1', v0, v1, v2⟩, v3⟩
    refine u__law_same (Mv.dp msG) (Mv.dp ms5) (pe_m _) ?_
    intro H6 s6
    clear e0' e1' v0 v1 v2 v3 msG
    walk_at "g"
    rename_i H7 m7 s7 hm7 T8 H8 n8 s8 h8
    have s58 : Same H5 H8 := s6.trans (s7.trans s8)
    have mT : Mv K H8 T8 ⟨e0, e1, e2, p3⟩ := ⟨sr, pp, SqT.of h8, ⟨sx, sy, sz, Same.tup s58 q6, Vc.same s58 u0, Vc.same s58 u1, Vc.same s58 u2⟩, Vc.same s58 hp3⟩
    refine u__law_same (Mv.dp (Mv.same s8 hm7)) (Mv.dp mT) (pe_m _) ?_
    intro H9 s9
    have tk9 : TK K H H9 := TK.trans tk5 (TK.same (s58.trans s9))
    have st9 : St K H9 st := St.same (s58.trans s9) t5
    have hp9 : Vc K H9 pp p3 := Vc.same (s58.trans s9) hp3
    clear s58 mT h8 n8 s8 hm7 s7 s6 u0 u1 u2 u3 q5 q6 ms5 tk5 t5 hp3 s9
    walk_at "g"
    rename_i H10 at' f10 t10 at0 at1 H11 many f11 t11 m0 m1 c0 G0 n0 s0 e0' c1 G1 n1 s1 e1' c2 G2 n2 s2 e2' l G3 n3 s3 hl nu G4 n4 s4 hnu
    have t2 : St K G2 st := by walk_at "st"
    have hl4 : G4 l = some (.lst [.ref c0, .ref c1, .ref c2]) := by walk_at "ls"
    have q0 : SqT K G4 c0 [.int 1, .int 1] := by walk_at "sq"
    have q1 : SqT K G4 c1 [.int 1, .int 1] := by walk_at "sq"
    have q2 : SqT K G4 c2 [.int 1, .int 1] := by walk_at "sq"
    have q3 : SqT K G4 nu [.int (-1), .int 1] := by walk_at "sq"
    have hp4 : Vc K G4 pp p3 := by walk_at "vc"
    have t4 : St K G4 st := by walk_at "st"
    have f24 : Fr st G2 G4 := by walk_at "fr"
    have tk4 : TK K H G4 := TK.trans tk9 (TK.trans (TK.fr f10 st9) (TK.trans (TK.fr f11 t10) (TK.same (s0.trans (s1.trans (s2.trans (s3.trans s4)))))))
    clear e0' e1' e2' hl hnu s0 s1 s2 s3 s4 n0 n1 n2 n4 f10 f11 tk9 hp9 st9
    have bn1 : BN 2 1 ((1 : Int) : Rat) := BN.int (B.lit (by decide +kernel))
    have bnm : BN 2 1 ((-1 : Int) : Rat) := BN.int (B.lit (by decide +kernel))
    obtain ⟨b0, b1, b2, x, y, z, ey, g0, g1, g2, ed, ix⟩ : ∃ (b0 b1 b2 : Addr) (x y z : Rat), ([.ref c0, .ref c1, .ref c2] : List V).set at'.toNat (.ref nu) = [.ref b0, .ref b1, .ref b2] ∧ SqT K G4 b0 [.int x.num, .int (x.den : Int)] ∧ SqT K G4 b1 [.int y.num, .int (y.den : Int)] ∧ SqT K G4 b2 [.int z.num, .int (z.den : Int)] ∧ dg x y z = dg ((if at' = 0 then -1 else 1 : Int) : Rat) ((if at' = 1 then -1 else 1 : Int) : Rat) ((if at' = 2 then -1 else 1 : Int) : Rat) ∧ ixN 3 at' = some at'.toNat := by
      obtain rfl | rfl | rfl : at' = 0 ∨ at' = 1 ∨ at' = 2 := by omega
      · exact ⟨nu, c1, c2, ((-1 : Int) : Rat), ((1 : Int) : Rat), ((1 : Int) : Rat), rfl, SqT.ofInt q3, SqT.ofInt q1, SqT.ofInt q2, rfl, rfl⟩
      · exact ⟨c0, nu, c2, ((1 : Int) : Rat), ((-1 : Int) : Rat), ((1 : Int) : Rat), rfl, SqT.ofInt q0, SqT.ofInt q3, SqT.ofInt q2, rfl, rfl⟩
      · exact ⟨c0, c1, nu, ((1 : Int) : Rat), ((1 : Int) : Rat), ((-1 : Int) : Rat), rfl, SqT.ofInt q0, SqT.ofInt q1, SqT.ofInt q3, rfl, rfl⟩
    clear q0 q1 q2 q3
    refine r_setK (K := K) n3 t2 f24 t4 hl4 ix ey (fun G5 f5 t5 hl5 tk5 => ?_)
    replace g0 := tk5 _ _ g0
    replace g1 := tk5 _ _ g1
    replace g2 := tk5 _ _ g2
    replace hp4 := Vc.tk tk5 hp4
    have tk5' : TK K H G5 := TK.trans tk4 tk5
    clear tk5 tk4 f24 hl4 ey f5
    walk_at "g"
    rename_i H12 m12 s12 hm12 H13 m13 s13 hm13
    rw [← ed] at hm12
    refine u__law_same (Mv.dp (Mv.same s13 hm12)) (Mv.dp hm13) (pe_m _) ?_
    intro H14 s14
    clear hm12 hm13
    walk_at "g"
    rename_i H15 r15 s15 h15 H16 r16 s16 h16 H17 s17 H18 r18 s18 h18 H19 r19 s19 h19 HZ s20
    have sz0 : Same G5 HZ := s12.trans (s13.trans (s14.trans (s15.trans (s16.trans (s17.trans (s18.trans (s19.trans s20)))))))
    have stz : St K HZ st := St.same sz0 t5
    have tkz : TK K H HZ := TK.trans tk5' (TK.same sz0)
    obtain ⟨xa, xb, xc, q0, q1, q2, q3⟩ := Vc.same sz0 hp4
    clear h15 h16 h18 h19 s12 s13 s14 s15 s16 s17 s18 s19 s20 tk5' hp4 g0 g1 g2 hl5 sz0 t5 bn1 bnm ed
    have b1 : BN 134 134 (1 : Rat) := ⟨B.lit (by decide +kernel), B.lit (by decide +kernel)⟩
    have b23 : BN 134 134 ((-2 : Rat) / 3) := ⟨B.lit (by decide +kernel), B.lit (by decide +kernel)⟩
    have bh : BN 134 134 (1 / 2 : Rat) := ⟨B.lit (by decide +kernel), B.lit (by decide +kernel)⟩
    have nh : (1 / 2 : Rat) ≠ 0 := by decide +kernel
    walk_at "g"
    intro Da hD
    have LG := lcG_go (K := K) (s := st) (J := fun n acc H' => ∃ qs, QtL K H' acc qs ∧ ∀ q, q ∈ qs → BN 134 134 q) hD stz (fun _ _ _ _ e ⟨qs, h, h2⟩ => ⟨qs, h.tk e, h2⟩)
    refine lc_tupA (K := K) (xs := [.ref xa, .ref xb, .ref xc]) (Go K st HZ) (fun n acc H' => ∃ qs, QtL K H' acc qs ∧ ∀ q, q ∈ qs → BN 134 134 q) (go_new hD stz) ⟨[], .nil, fun _ h => by cases h⟩ (fun H2 acc _ g => Fr.tup g.1 stz q0) ?_ ?_
    · rintro i u acc H2 hu ha hDa ⟨f2, s2⟩ ⟨qs, Jq, Jb⟩
      obtain ⟨b', q, rfl, hb, hq, hi3⟩ : ∃ b' q, u = .ref b' ∧ SqT K H2 b' [.int q.num, .int (q.den : Int)] ∧ BN 134 134 q ∧ i < 3 := by
        rcases i with _ | _ | _ | i
        · cases hu; exact ⟨_, _, rfl, Fr.tup f2 stz q1, hv3.x, by decide⟩
        · cases hu; exact ⟨_, _, rfl, Fr.tup f2 stz q2, hv3.y, by decide⟩
        · cases hu; exact ⟨_, _, rfl, Fr.tup f2 stz q3, hv3.z, by decide⟩
        · simp at hu
      walk_at "g"
      refine ⟨rfl, ?_⟩
      walk_at "g"
      rename_i c0 G0 n0 w0' e0' c1 G1 n1 w1' e1' L G2 n2 w2' e2' G3 i3 v3 f3 s3 e3
      obtain ⟨b4, q4, rfl, hb4, hq4⟩ : ∃ b q, v3 = .ref b ∧ SqT K G3 b [.int q.num, .int (q.den : Int)] ∧ BN 134 134 q := by
        rcases i3 with _ | _ | _ | i3
        · cases e3; exact ⟨b', q, rfl, by walk_at "sq", hq⟩
        · cases e3; exact ⟨c0, (1 : Rat), rfl, qt (by walk_at "sq") (by decide +kernel) (by decide +kernel), b1⟩
        · cases e3; exact ⟨c1, (-2 : Rat) / 3, rfl, qt (by walk_at "sq") (by decide +kernel) (by decide +kernel), b23⟩
        · simp at e3
      have sG : Same H2 G2 := w0'.trans (w1'.trans w2')
      refine r_lcQ (K := K) LG (by omega) ha (Fr.lstN f3 (St.same sG s2) (sG _ _ hDa) Jq.notS) ⟨f2.trans ((Same.fr sG).trans f3), s3⟩ ⟨qs ++ [q4], (Jq.tk (TK.trans (TK.same sG) (TK.fr f3 (St.same sG s2)))).snoc hb4, fun q hm => ?_⟩
      rcases List.mem_append.1 hm with hm | hm
      · exact Jb q hm
      · rw [List.mem_singleton.1 hm]; exact hq4
    · rintro acc H2 ha hDa ⟨f2, s2⟩ ⟨qs, Jq, Jb⟩
      obtain ⟨x, y, z, rfl⟩ : ∃ x y z, qs = [x, y, z] := by
        have := Jq.len
        rw [ha] at this
        match qs, this with
        | [x, y, z], _ => exact ⟨x, y, z, rfl⟩
      obtain ⟨a0, a1, a2, rfl, r0, r1, r2⟩ := QtL.three Jq
      have k0 := Jb x (by simp)
      have k1 := Jb y (by simp)
      have k2 := Jb z (by simp)
      clear Jq Jb LG ha
      walk_at "g"
      refine f_range (n := 3) (fun i σ' H' => ∃ (o7 : Option V) (a0 a1 a2 : Addr) (x y z : Rat) (o6 : Option V), σ' = [some (.ref st), some (.ref still), some (.ref pp), some (.int at'), some (.int many), some (.ref Da), o6, o7] ∧ Fr st HZ H' ∧ St K H' st ∧ TK K H H' ∧ H' Da = some (.lst [.ref a0, .ref a1, .ref a2]) ∧ SqT K H' a0 [.int x.num, .int (x.den : Int)] ∧ SqT K H' a1 [.int y.num, .int (y.den : Int)] ∧ SqT K H' a2 [.int z.num, .int (z.den : Int)] ∧ BN 134 134 x ∧ BN 134 134 y ∧ BN 134 134 z ∧ (0 < i → x ≠ 0) ∧ (1 < i → y ≠ 0) ∧ (2 < i → z ≠ 0)) ⟨_, a0, a1, a2, x, y, z, _, rfl, f2, s2, TK.trans tkz (TK.fr f2 stz), hDa, r0, r1, r2, k0, k1, k2, fun h => by omega, fun h => by omega, fun h => by omega⟩ ?_ ?_
      · rintro i σ' G hi ⟨o7, a0, a1, a2, x, y, z, o6, rfl, fz, sz', tz, hL, r0, r1, r2, k0, k1, k2, e0, e1, e2⟩
        walk_at "g"
        obtain rfl | rfl | rfl : i = 0 ∨ i = 1 ∨ i = 2 := by omega
        all_goals walk_at "g"
        · refine if_eqI (fun cz => ?_) (fun cz => ?_)
          · walk_at "g"
            rename_i nu Gn nn sn hnu
            refine r_setK (K := K) (j := 0) hD stz (fz.trans (Same.fr sn)) (St.same sn sz') (sn _ _ hL) rfl rfl (fun G1 f1 s1 hl1 tk => ?_)
            have qh : SqT K G1 nu [.int (1 / 2 : Rat).num, .int ((1 / 2 : Rat).den : Int)] := tk _ _ (qt (SqT.of hnu) (by decide +kernel) (by decide +kernel))
            walk_at "g"
            exact ⟨_, nu, a1, a2, (1 / 2 : Rat), y, z, _, rfl, f1, s1, TK.trans tz (TK.trans (TK.same sn) tk), hl1, qh, (tk _ _ (Same.tup sn r1)), (tk _ _ (Same.tup sn r2)), (bh), k1, k2, fun _ => nh, fun h => by omega, fun h => by omega⟩
          · replace cz : x ≠ 0 := fun e => cz (by rw [e]; rfl)
            walk_at "g"
            exact ⟨_, a0, a1, a2, x, y, z, _, rfl, fz, sz', tz, hL, r0, r1, r2, k0, k1, k2, fun _ => cz, fun h => by omega, fun h => by omega⟩
        · refine if_eqI (fun cz => ?_) (fun cz => ?_)
          · walk_at "g"
            rename_i nu Gn nn sn hnu
            refine r_setK (K := K) (j := 1) hD stz (fz.trans (Same.fr sn)) (St.same sn sz') (sn _ _ hL) rfl rfl (fun G1 f1 s1 hl1 tk => ?_)
            have qh : SqT K G1 nu [.int (1 / 2 : Rat).num, .int ((1 / 2 : Rat).den : Int)] := tk _ _ (qt (SqT.of hnu) (by decide +kernel) (by decide +kernel))
            walk_at "g"
            exact ⟨_, a0, nu, a2, x, (1 / 2 : Rat), z, _, rfl, f1, s1, TK.trans tz (TK.trans (TK.same sn) tk), hl1, (tk _ _ (Same.tup sn r0)), qh, (tk _ _ (Same.tup sn r2)), k0, (bh), k2, fun _ => e0 (by omega), fun _ => nh, fun h => by omega⟩
          · replace cz : y ≠ 0 := fun e => cz (by rw [e]; rfl)
            walk_at "g"
            exact ⟨_, a0, a1, a2, x, y, z, _, rfl, fz, sz', tz, hL, r0, r1, r2, k0, k1, k2, fun _ => e0 (by omega), fun _ => cz, fun h => by omega⟩
        · refine if_eqI (fun cz => ?_) (fun cz => ?_)
          · walk_at "g"
            rename_i nu Gn nn sn hnu
            refine r_setK (K := K) (j := 2) hD stz (fz.trans (Same.fr sn)) (St.same sn sz') (sn _ _ hL) rfl rfl (fun G1 f1 s1 hl1 tk => ?_)
            have qh : SqT K G1 nu [.int (1 / 2 : Rat).num, .int ((1 / 2 : Rat).den : Int)] := tk _ _ (qt (SqT.of hnu) (by decide +kernel) (by decide +kernel))
            walk_at "g"
            exact ⟨_, a0, a1, nu, x, y, (1 / 2 : Rat), _, rfl, f1, s1, TK.trans tz (TK.trans (TK.same sn) tk), hl1, (tk _ _ (Same.tup sn r0)), (tk _ _ (Same.tup sn r1)), qh, k0, k1, (bh), fun _ => e0 (by omega), fun _ => e1 (by omega), fun _ => nh⟩
          · replace cz : z ≠ 0 := fun e => cz (by rw [e]; rfl)
            walk_at "g"
            exact ⟨_, a0, a1, a2, x, y, z, _, rfl, fz, sz', tz, hL, r0, r1, r2, k0, k1, k2, fun _ => e0 (by omega), fun _ => e1 (by omega), fun _ => cz⟩
      · rintro σ' G ⟨o7, a0, a1, a2, x, y, z, o6, rfl, fz, sz', tz, hL, r0, r1, r2, k0, k1, k2, e0, e1, e2⟩
        have x0 := e0 (by decide)
        have y0 := e1 (by decide)
        have z0 := e2 (by decide)
        clear e0 e1 e2 f2 s2 hDa q0 q1 q2 q3 tkz
        walk_at "g"
        rename_i T6 G6 n6 s6 h6 G7 m7 s7 h7 G8 m8 s8 h8 G9 s9 nu G10 n10 s10 hnu
        have s010 : Same G G10 := s6.trans (s7.trans (s8.trans (s9.trans s10)))
        have q3 : SqT K G10 nu [.int (0 : Rat).num, .int ((0 : Rat).den : Int)] := qt (SqT.of hnu) rfl rfl
        obtain ⟨b0, b1, b2, x', y', z', ey, g0, g1, g2, ez⟩ : ∃ (b0 b1 b2 : Addr) (x' y' z' : Rat), ([.ref a0, .ref a1, .ref a2] : List V).set at'.toNat (.ref nu) = [.ref b0, .ref b1, .ref b2] ∧ SqT K G10 b0 [.int x'.num, .int (x'.den : Int)] ∧ SqT K G10 b1 [.int y'.num, .int (y'.den : Int)] ∧ SqT K G10 b2 [.int z'.num, .int (z'.den : Int)] ∧ (x' = 0 ∨ y' = 0 ∨ z' = 0) := by
          obtain rfl | rfl | rfl : at' = 0 ∨ at' = 1 ∨ at' = 2 := by omega
          · exact ⟨nu, a1, a2, 0, y, z, rfl, q3, Same.tup s010 r1, Same.tup s010 r2, .inl rfl⟩
          · exact ⟨a0, nu, a2, x, 0, z, rfl, Same.tup s010 r0, q3, Same.tup s010 r2, .inr (.inl rfl)⟩
          · exact ⟨a0, a1, nu, x, y, 0, rfl, Same.tup s010 r0, Same.tup s010 r1, q3, .inr (.inr rfl)⟩
        refine r_setK (K := K) hD stz (fz.trans (Same.fr s010)) (St.same s010 sz') (s010 _ _ hL) ix ey (fun G11 f11 t11 hl11 tk11 => ?_)
        replace g0 := tk11 _ _ g0
        replace g1 := tk11 _ _ g1
        replace g2 := tk11 _ _ g2
        have tkf : TK K H G11 := TK.trans tz (TK.trans (TK.same s010) tk11)
        clear h6 h7 h8 hnu s6 s7 s8 s9 s10 s010 q3 tk11 tz r0 r1 r2 hL
        walk_at "g"
        rename_i T12 G12 n12 s12 h12 G13 s13
        exact k _ (TK.trans tkf (TK.same (s12.trans s13))) (St.same (s12.trans s13) t11)
in #guard_msgs in universe u_z
abbrev s_law : Stmt := top 95
theorem sc_law : FnScope ["script", "store", "move", "wide", "k", "bent"] ["script"] (defScope s_law) := ⟨rfl, rfl, rfl, by decide +kernel, rfl, by decide +kernel, by decide +kernel⟩
set_option Elab.async true in
set_option maxHeartbeats 4000000 in
theorem ok_law {f : Addr} {fd : FuncData} (F : FunA K "law" "law" s_law f fd) (T : Blt mg) (C__law_store : Cal P w K mg base "_law_store" 2 ["script"] (sp__law_store K)) (C__law_move : Cal P w K mg base "_law_move" 5 ["store"] (sp__law_move K)) (C__law_great : Cal P w K mg base "_law_great" 4 ["store"] (sp__law_great K)) (C__law_made_right : CalG P w K mg base "_law_made_right" 9 ["store", "rows", "shift"] (sp__law_made_right K)) (C__law_take : Cal P w K mg base "_law_take" 2 ["store", "many"] (sp__law_take K)) (C__law_bent : Cal P w K mg base "_law_bent" 4 ["store", "move"] (sp__law_bent K)) (C__law_same : Cal P w K mg base "_law_same" 8 ["actual", "due"] (sp__law_same K 6)) (C__law_named_right : Cal P w K mg base "_law_named_right" 9 ["store"] (sp__law_named_right K)) (C__law_singular : Cal P w K mg base "_law_singular" 5 ["store"] (sp__law_singular K)) (C_is_move : Cal P w K mg base "is_move" 5 ["value"] (sp_is_move K)) (C_mirrors : Cal P w K mg base "mirrors" 6 ["move"] (sp_mirrors K)) (C__law_is_move : Cal P w K mg base "_law_is_move" 5 ["value"] (sp__law_is_move K)) (C__law_det : Cal P w K mg base "_law_det" 5 ["move"] (sp__law_det K)) : FnG P w K mg base 10 f fd ["script"] (sp_law K) := by
  refine F.okG sc_law (fun vs H Q E h => ?_) (fun cdv A outer s H vs Q E hG hr h => ?_)
  · obtain ⟨_, _, rfl, _⟩ := h
    rfl
  · obtain ⟨sa, ns, rfl, h0, h1, k⟩ := h
    refine ⟨_, (pss_cons (ps_set (i := 1) sc_law.nd rfl (.inl rfl) (pc C__law_store (hr.mono (by decide)) (by rfl) (pa_cons (pv 0) pa_nil)))
 (pss_cons (ps_set (i := 2) sc_law.nd rfl (.inl rfl) (pc C__law_move (hr.mono (by decide)) (by rfl) (pa_cons (pv 1) pa_nil)))
 (pss_cons (ps_if (PW.pt (pw_or (pt_not (pt_val (pcG C__law_made_right hG (hr.mono (by decide)) (by rfl) (pa_cons (pv 1) (pa_cons (pe_ix (kx_tup (K := K) rfl) (pv 2) pe_int (fun _ _ => rfl)) (pa_cons (pe_ix (kx_tup (K := K) rfl) (pv 2) pe_int (fun _ _ => rfl)) pa_nil)))))) (pw_or1 (pt_not (pt_val (pc C__law_named_right (hr.mono (by decide)) (by rfl) (pa_cons (pv 1) pa_nil)))))))
 (pss_one (ps_ret pe_bl))
 pss_nil)
 (pss_cons (ps_if (pt_not (pt_val (pcG C__law_made_right hG (hr.mono (by decide)) (by rfl) (pa_cons (pv 1) (pa_cons (pc C__law_singular (hr.mono (by decide)) (by rfl) (pa_cons (pv 1) pa_nil)) (pa_cons (pe_ix (kx_tup (K := K) rfl) (pv 2) pe_int (fun _ _ => rfl)) pa_nil))))))
 (pss_one (ps_ret pe_bl))
 pss_nil)
 (pss_cons (ps_set (i := 3) sc_law.nd rfl (.inl rfl) (pe_lst (pa_cons (pe_ix (kx_tup (K := K) rfl) (pe_ix (kx_tup (K := K) rfl) (pv 2) pe_int (fun _ _ => rfl)) pe_int (fun _ _ => rfl)) (pa_cons (pe_ix (kx_tup (K := K) rfl) (pe_ix (kx_tup (K := K) rfl) (pv 2) pe_int (fun _ _ => rfl)) pe_int (fun _ _ => rfl)) (pa_cons (pe_ix (kx_tup (K := K) rfl) (pe_ix (kx_tup (K := K) rfl) (pv 2) pe_int (fun _ _ => rfl)) pe_int (fun _ _ => rfl)) pa_nil)))))
 (pss_cons (ps_asg (pc C__law_great (hr.mono (by decide)) (by rfl) (pa_cons (pv 1) pa_nil)) (pg_sub (pv 3) (pc C__law_take (hr.mono (by decide)) (by rfl) (pa_cons (pv 1) (pa_cons pe_int pa_nil))) set_list))
 (pss_cons (ps_if (pt_not (pt_val (pcG C__law_made_right hG (hr.mono (by decide)) (by rfl) (pa_cons (pv 1) (pa_cons (pe_callTy (kc_tuple (K := K) rfl) (by rfl) T.tuple (by decide +kernel) (pa_cons (pv 3) pa_nil)) (pa_cons (pc C__law_great (hr.mono (by decide)) (by rfl) (pa_cons (pv 1) pa_nil)) pa_nil))))))
 (pss_one (ps_ret pe_bl))
 pss_nil)
 (pss_cons (ps_for PassesOwn.never rfl (pi_range1 (by rfl) T.range (pa_cons pe_int pa_nil)) (pg_name (i := 4) sc_law.nd rfl (.inl rfl))
 (pss_cons (ps_set (i := 5) sc_law.nd rfl (.inl rfl) (pc C__law_bent (hr.mono (by decide)) (by rfl) (pa_cons (pv 1) (pa_cons (pv 2) pa_nil))))
 (pss_one (ps_if (pt_not (pt_val (pc C__law_same (hr.mono (by decide)) (by rfl) (pa_cons (pc C_is_move (hr.mono (by decide)) (by rfl) (pa_cons (pv 5) pa_nil)) (pa_cons (pc C__law_is_move (hr.mono (by decide)) (by rfl) (pa_cons (pv 5) pa_nil)) pa_nil)))))
 (pss_one (ps_ret pe_bl))
 pss_nil))))
 (pss_one (ps_ret (pe_and (pe_cmpR op_isB (pc C_is_move (hr.mono (by decide)) (by rfl) (pa_cons (pv 2) pa_nil)) pe_bl (nomark _)) (pe_one (pc C__law_same (hr.mono (by decide)) (by rfl) (pa_cons (pc C_mirrors (hr.mono (by decide)) (by rfl) (pa_cons (pv 2) pa_nil)) (pa_cons (pe_cmpR op_lt (pe_ix (kx_tup (K := K) rfl) (pc C__law_det (hr.mono (by decide)) (by rfl) (pa_cons (pv 2) pa_nil)) pe_int (fun _ _ => rfl)) pe_int (nomark _)) pa_nil))))))))))))))), ?_⟩
    walk_at "g"
    rename_i H1 st s1 t1 H2 mm A f2 t2 hm sm
    obtain ⟨mr, ms, qm, hR, hs⟩ := id hm
    have hmn := sm.mn
    have hpm : MN 150 150 A := hmn.le (by decide) (by decide)
    obtain ⟨x, y, z, qr, va, vb, vc⟩ := id hR
    refine r_ixT qm rfl ?_
    walk_at "g"
    rename_i H3 k3 t3 H4 k4 t4 H5 sm' p q r f5 t5 hR5 np nq nr hd
    have tk25 : TK K H2 H5 := TK.trans k3 (TK.trans k4 (TK.fr f5 t4))
    refine u__law_made_right (A := ⟨p, q, r, A.s⟩) t5 hR5 (Vc.tk tk25 hs) ⟨np.le (by decide) (by decide), nq.le (by decide) (by decide), nr.le (by decide) (by decide), hpm.s⟩ ?_
    intro H6 k6 t6
    have tk26 : TK K H2 H6 := TK.trans tk25 k6
    have hm6 : Mv K H6 mm A := Mv.tk tk26 hm
    have qm6 := tk26 _ _ qm
    have qr6 := tk26 _ _ qr
    have va6 := Vc.tk tk26 va
    have vb6 := Vc.tk tk26 vb
    have vc6 := Vc.tk tk26 vc
    clear tk26 tk25 k6 hR5 np nq nr hd f5 k4 k3 hm hs qm hR qr va vb vc f2 s1
    walk_at "g"
    rename_i l H7 n7 s7 h7 H8 gp p8 f8 t8 vg gv0 H9 i f9 t9 i0 i1
    have gvn : VN 150 150 p8 := gv0.le (by decide) (by decide)
    have ixe : ixN 3 i = some i.toNat := by
      obtain rfl | rfl | rfl : i = 0 ∨ i = 1 ∨ i = 2 := by omega
      all_goals rfl
    refine r_setV (l := l) (ps := [A.a, A.b, A.c]) (j := i.toNat) n7 t6 (by walk_at "fr") t9 ⟨_, by walk_at "ls", .cons ⟨_, rfl, by walk_at "vc"⟩ (.cons ⟨_, rfl, by walk_at "vc"⟩ (.cons ⟨_, rfl, by walk_at "vc"⟩ .nil))⟩ (by walk_at "vc") ixe (fun H10 f10 t10 tk10 hV => ?_)
    obtain ⟨p', q', r', es, np, nq, nr⟩ : ∃ p' q' r' : V3, ([A.a, A.b, A.c] : List V3).set i.toNat p8 = [p', q', r'] ∧ VN 150 150 p' ∧ VN 150 150 q' ∧ VN 150 150 r' := by
      obtain rfl | rfl | rfl : i = 0 ∨ i = 1 ∨ i = 2 := by omega
      · exact ⟨_, _, _, rfl, gvn, hpm.b, hpm.c⟩
      · exact ⟨_, _, _, rfl, hpm.a, gvn, hpm.c⟩
      · exact ⟨_, _, _, rfl, hpm.a, hpm.b, gvn⟩
    rw [es] at hV
    have hm10 : Mv K H10 mm A := Mv.tk (TK.fr f10 t6) hm6
    clear h7 s7 f8 t8 vg f9 t9 tk10 f10 hm6 qm6 qr6 va6 vb6 vc6
    walk_at "g"
    refine r_tplV (p := p') (q := q') (r := r') hV (fun a b c T H11 nT s11 hT va vb vc => ?_)
    walk_at "g"
    rename_i H12 gq p12 f12 t12 vg gv1
    have gvn2 : VN 150 150 p12 := gv1.le (by decide) (by decide)
    have s11t : St K H11 st := St.same s11 t10
    refine u__law_made_right (A := ⟨p', q', r', p12⟩) t12 (Rw.tk (TK.fr f12 s11t) ⟨a, b, c, SqT.of hT, va, vb, vc⟩) vg ⟨np, nq, nr, gvn2⟩ ?_
    intro H13 k13 t13
    have hm13 : Mv K H13 mm A := Mv.tk (TK.trans (TK.same s11) (TK.trans (TK.fr f12 s11t) k13)) hm10
    clear k13 vg f12 s11t s11 hT va vb vc hm10 hV
    walk_at "g"
    refine f_range (n := 4) (fun i σ' H' => ∃ (u v w' : Option V), σ' = [some (.ref sa), some (.ref st), some (.ref mm), u, v, w'] ∧ St K H' st ∧ Mv K H' mm A) ⟨_, _, _, rfl, t13, hm13⟩ ?_ ?_
    · rintro i σ' H14 hi ⟨u, v, w', rfl, t14, hm14⟩
      walk_at "g"
      rename_i H15 bv bd f15 t15 hob hbd Hx b1 sx hb1 Hy b2 sy hb2
      have e : b2 = b1 := iff2 hb1 hb2
      subst e
      refine u__law_same (Dp.bl _) (Dp.bl _) trivial ?_
      intro Hz sz
      walk_at "g"
      exact ⟨_, _, _, rfl, by walk_at "st", Mv.tk (TK.trans (TK.fr f15 t14) (TK.same (sx.trans (sy.trans sz)))) hm14⟩
    · rintro σ' H14 ⟨u, v, w', rfl, t14, hm14⟩
      walk_at "g"
      refine u_is_move (d := mD A) (.inl (Mv.dp hm14)) (bd_m (hpm.le (by decide) (by decide))) ?_
      intro H15 b1 s15 hb1
      have eb1 : b1 = true := hb1.2 ⟨A, rfl, sm.nz⟩
      subst eb1
      walk_at "g"
      refine if_decT rfl ?_
      walk_at "g"
      rename_i Hx b2 sx hb2 Hy y2 sy hy
      have eb : b2 = decide ((det3 A).num < 0) := by
        rw [Bool.eq_iff_iff, hb2, decide_eq_true_iff]
        exact num_neg.symm
      subst eb
      refine u__law_same (Dp.bl _) (Dp.bl _) trivial ?_
      intro Hz sz
      exact k _
in #guard_msgs in universe u_z
end
set_option Elab.async true in
set_option maxHeartbeats 0 in
theorem all_mk {l : PySem.W.OpenLaw} {w : World} {K : PySem.W.Frag} {h : Heap} {mg : Str → Option Value} {fa : Addr} (X : K.In h) (G : h.Ns mainGlobals mg) (hfa : mg "law" = some (.ref fa))
    {f0 : Addr} {od0 an0 : Option Addr} {sl0 : Array (Option Value)} {oc0 kV0 dc0 pm0 cd0 ct0 : Value}
    (a0 : PySem.W.nsIn K mainGlobals "is_integer" = some (some (.ref f0))) (l0 : K.lookup f0 = some ⟨oc0, od0, .func (PySem.W.fnOf "is_integer" "is_integer" (defArgs s_is_integer) (defBody s_is_integer) (defScope s_is_integer) .none kV0 dc0 pm0 an0 cd0 ct0), sl0⟩) (c0 : PySem.W.codeIn K cd0 "is_integer" = true) (k0 : PySem.W.keepIn K (.ref f0) = true)
    {f1 : Addr} {od1 an1 : Option Addr} {sl1 : Array (Option Value)} {oc1 kV1 dc1 pm1 cd1 ct1 : Value} {T1 : Addr} {oT1 : Obj} {its1 : Array Value} {m1 : Nat}
    (a1 : PySem.W.nsIn K mainGlobals "ratio" = some (some (.ref f1))) (l1 : K.lookup f1 = some ⟨oc1, od1, .func (PySem.W.fnOf "ratio" "ratio" (defArgs s_ratio) (defBody s_ratio) (defScope s_ratio) (.ref T1) kV1 dc1 pm1 an1 cd1 ct1), sl1⟩) (c1 : PySem.W.codeIn K cd1 "ratio" = true) (k1 : PySem.W.keepIn K (.ref f1) = true) (lT1 : K.lookup T1 = some oT1) (dT1 : oT1.data = .seq its1 m1) (vT1 : Vals [.int 1] its1.toList)
    {f2 : Addr} {od2 an2 : Option Addr} {sl2 : Array (Option Value)} {oc2 kV2 dc2 pm2 cd2 ct2 : Value}
    (a2 : PySem.W.nsIn K mainGlobals "is_ratio" = some (some (.ref f2))) (l2 : K.lookup f2 = some ⟨oc2, od2, .func (PySem.W.fnOf "is_ratio" "is_ratio" (defArgs s_is_ratio) (defBody s_is_ratio) (defScope s_is_ratio) .none kV2 dc2 pm2 an2 cd2 ct2), sl2⟩) (c2 : PySem.W.codeIn K cd2 "is_ratio" = true) (k2 : PySem.W.keepIn K (.ref f2) = true)
    {f3 : Addr} {od3 an3 : Option Addr} {sl3 : Array (Option Value)} {oc3 kV3 dc3 pm3 cd3 ct3 : Value}
    (a3 : PySem.W.nsIn K mainGlobals "as_ratio" = some (some (.ref f3))) (l3 : K.lookup f3 = some ⟨oc3, od3, .func (PySem.W.fnOf "as_ratio" "as_ratio" (defArgs s_as_ratio) (defBody s_as_ratio) (defScope s_as_ratio) .none kV3 dc3 pm3 an3 cd3 ct3), sl3⟩) (c3 : PySem.W.codeIn K cd3 "as_ratio" = true) (k3 : PySem.W.keepIn K (.ref f3) = true)
    {f4 : Addr} {od4 an4 : Option Addr} {sl4 : Array (Option Value)} {oc4 kV4 dc4 pm4 cd4 ct4 : Value}
    (a4 : PySem.W.nsIn K mainGlobals "add" = some (some (.ref f4))) (l4 : K.lookup f4 = some ⟨oc4, od4, .func (PySem.W.fnOf "add" "add" (defArgs s_add) (defBody s_add) (defScope s_add) .none kV4 dc4 pm4 an4 cd4 ct4), sl4⟩) (c4 : PySem.W.codeIn K cd4 "add" = true) (k4 : PySem.W.keepIn K (.ref f4) = true)
    {f5 : Addr} {od5 an5 : Option Addr} {sl5 : Array (Option Value)} {oc5 kV5 dc5 pm5 cd5 ct5 : Value}
    (a5 : PySem.W.nsIn K mainGlobals "subtract" = some (some (.ref f5))) (l5 : K.lookup f5 = some ⟨oc5, od5, .func (PySem.W.fnOf "subtract" "subtract" (defArgs s_subtract) (defBody s_subtract) (defScope s_subtract) .none kV5 dc5 pm5 an5 cd5 ct5), sl5⟩) (c5 : PySem.W.codeIn K cd5 "subtract" = true) (k5 : PySem.W.keepIn K (.ref f5) = true)
    {f6 : Addr} {od6 an6 : Option Addr} {sl6 : Array (Option Value)} {oc6 kV6 dc6 pm6 cd6 ct6 : Value}
    (a6 : PySem.W.nsIn K mainGlobals "multiply" = some (some (.ref f6))) (l6 : K.lookup f6 = some ⟨oc6, od6, .func (PySem.W.fnOf "multiply" "multiply" (defArgs s_multiply) (defBody s_multiply) (defScope s_multiply) .none kV6 dc6 pm6 an6 cd6 ct6), sl6⟩) (c6 : PySem.W.codeIn K cd6 "multiply" = true) (k6 : PySem.W.keepIn K (.ref f6) = true)
    {f7 : Addr} {od7 an7 : Option Addr} {sl7 : Array (Option Value)} {oc7 kV7 dc7 pm7 cd7 ct7 : Value}
    (a7 : PySem.W.nsIn K mainGlobals "integer_sign" = some (some (.ref f7))) (l7 : K.lookup f7 = some ⟨oc7, od7, .func (PySem.W.fnOf "integer_sign" "integer_sign" (defArgs s_integer_sign) (defBody s_integer_sign) (defScope s_integer_sign) .none kV7 dc7 pm7 an7 cd7 ct7), sl7⟩) (c7 : PySem.W.codeIn K cd7 "integer_sign" = true) (k7 : PySem.W.keepIn K (.ref f7) = true)
    {f8 : Addr} {od8 an8 : Option Addr} {sl8 : Array (Option Value)} {oc8 kV8 dc8 pm8 cd8 ct8 : Value}
    (a8 : PySem.W.nsIn K mainGlobals "sign" = some (some (.ref f8))) (l8 : K.lookup f8 = some ⟨oc8, od8, .func (PySem.W.fnOf "sign" "sign" (defArgs s_sign) (defBody s_sign) (defScope s_sign) .none kV8 dc8 pm8 an8 cd8 ct8), sl8⟩) (c8 : PySem.W.codeIn K cd8 "sign" = true) (k8 : PySem.W.keepIn K (.ref f8) = true)
    {f9 : Addr} {od9 an9 : Option Addr} {sl9 : Array (Option Value)} {oc9 kV9 dc9 pm9 cd9 ct9 : Value}
    (a9 : PySem.W.nsIn K mainGlobals "vector" = some (some (.ref f9))) (l9 : K.lookup f9 = some ⟨oc9, od9, .func (PySem.W.fnOf "vector" "vector" (defArgs s_vector) (defBody s_vector) (defScope s_vector) .none kV9 dc9 pm9 an9 cd9 ct9), sl9⟩) (c9 : PySem.W.codeIn K cd9 "vector" = true) (k9 : PySem.W.keepIn K (.ref f9) = true)
    {f10 : Addr} {od10 an10 : Option Addr} {sl10 : Array (Option Value)} {oc10 kV10 dc10 pm10 cd10 ct10 : Value}
    (a10 : PySem.W.nsIn K mainGlobals "is_vector" = some (some (.ref f10))) (l10 : K.lookup f10 = some ⟨oc10, od10, .func (PySem.W.fnOf "is_vector" "is_vector" (defArgs s_is_vector) (defBody s_is_vector) (defScope s_is_vector) .none kV10 dc10 pm10 an10 cd10 ct10), sl10⟩) (c10 : PySem.W.codeIn K cd10 "is_vector" = true) (k10 : PySem.W.keepIn K (.ref f10) = true)
    {f11 : Addr} {od11 an11 : Option Addr} {sl11 : Array (Option Value)} {oc11 kV11 dc11 pm11 cd11 ct11 : Value}
    (a11 : PySem.W.nsIn K mainGlobals "plus" = some (some (.ref f11))) (l11 : K.lookup f11 = some ⟨oc11, od11, .func (PySem.W.fnOf "plus" "plus" (defArgs s_plus) (defBody s_plus) (defScope s_plus) .none kV11 dc11 pm11 an11 cd11 ct11), sl11⟩) (c11 : PySem.W.codeIn K cd11 "plus" = true) (k11 : PySem.W.keepIn K (.ref f11) = true)
    {f12 : Addr} {od12 an12 : Option Addr} {sl12 : Array (Option Value)} {oc12 kV12 dc12 pm12 cd12 ct12 : Value}
    (a12 : PySem.W.nsIn K mainGlobals "scaled" = some (some (.ref f12))) (l12 : K.lookup f12 = some ⟨oc12, od12, .func (PySem.W.fnOf "scaled" "scaled" (defArgs s_scaled) (defBody s_scaled) (defScope s_scaled) .none kV12 dc12 pm12 an12 cd12 ct12), sl12⟩) (c12 : PySem.W.codeIn K cd12 "scaled" = true) (k12 : PySem.W.keepIn K (.ref f12) = true)
    {f13 : Addr} {od13 an13 : Option Addr} {sl13 : Array (Option Value)} {oc13 kV13 dc13 pm13 cd13 ct13 : Value}
    (a13 : PySem.W.nsIn K mainGlobals "dot" = some (some (.ref f13))) (l13 : K.lookup f13 = some ⟨oc13, od13, .func (PySem.W.fnOf "dot" "dot" (defArgs s_dot) (defBody s_dot) (defScope s_dot) .none kV13 dc13 pm13 an13 cd13 ct13), sl13⟩) (c13 : PySem.W.codeIn K cd13 "dot" = true) (k13 : PySem.W.keepIn K (.ref f13) = true)
    {f14 : Addr} {od14 an14 : Option Addr} {sl14 : Array (Option Value)} {oc14 kV14 dc14 pm14 cd14 ct14 : Value}
    (a14 : PySem.W.nsIn K mainGlobals "cross" = some (some (.ref f14))) (l14 : K.lookup f14 = some ⟨oc14, od14, .func (PySem.W.fnOf "cross" "cross" (defArgs s_cross) (defBody s_cross) (defScope s_cross) .none kV14 dc14 pm14 an14 cd14 ct14), sl14⟩) (c14 : PySem.W.codeIn K cd14 "cross" = true) (k14 : PySem.W.keepIn K (.ref f14) = true)
    {f15 : Addr} {od15 an15 : Option Addr} {sl15 : Array (Option Value)} {oc15 kV15 dc15 pm15 cd15 ct15 : Value}
    (a15 : PySem.W.nsIn K mainGlobals "triple" = some (some (.ref f15))) (l15 : K.lookup f15 = some ⟨oc15, od15, .func (PySem.W.fnOf "triple" "triple" (defArgs s_triple) (defBody s_triple) (defScope s_triple) .none kV15 dc15 pm15 an15 cd15 ct15), sl15⟩) (c15 : PySem.W.codeIn K cd15 "triple" = true) (k15 : PySem.W.keepIn K (.ref f15) = true)
    {f16 : Addr} {od16 an16 : Option Addr} {sl16 : Array (Option Value)} {oc16 kV16 dc16 pm16 cd16 ct16 : Value}
    (a16 : PySem.W.nsIn K mainGlobals "axis_vector" = some (some (.ref f16))) (l16 : K.lookup f16 = some ⟨oc16, od16, .func (PySem.W.fnOf "axis_vector" "axis_vector" (defArgs s_axis_vector) (defBody s_axis_vector) (defScope s_axis_vector) .none kV16 dc16 pm16 an16 cd16 ct16), sl16⟩) (c16 : PySem.W.codeIn K cd16 "axis_vector" = true) (k16 : PySem.W.keepIn K (.ref f16) = true)
    {f17 : Addr} {od17 an17 : Option Addr} {sl17 : Array (Option Value)} {oc17 kV17 dc17 pm17 cd17 ct17 : Value}
    (a17 : PySem.W.nsIn K mainGlobals "make_move" = some (some (.ref f17))) (l17 : K.lookup f17 = some ⟨oc17, od17, .func (PySem.W.fnOf "make_move" "make_move" (defArgs s_make_move) (defBody s_make_move) (defScope s_make_move) .none kV17 dc17 pm17 an17 cd17 ct17), sl17⟩) (c17 : PySem.W.codeIn K cd17 "make_move" = true) (k17 : PySem.W.keepIn K (.ref f17) = true)
    {f18 : Addr} {od18 an18 : Option Addr} {sl18 : Array (Option Value)} {oc18 kV18 dc18 pm18 cd18 ct18 : Value}
    (a18 : PySem.W.nsIn K mainGlobals "is_move" = some (some (.ref f18))) (l18 : K.lookup f18 = some ⟨oc18, od18, .func (PySem.W.fnOf "is_move" "is_move" (defArgs s_is_move) (defBody s_is_move) (defScope s_is_move) .none kV18 dc18 pm18 an18 cd18 ct18), sl18⟩) (c18 : PySem.W.codeIn K cd18 "is_move" = true) (k18 : PySem.W.keepIn K (.ref f18) = true)
    {f19 : Addr} {od19 an19 : Option Addr} {sl19 : Array (Option Value)} {oc19 kV19 dc19 pm19 cd19 ct19 : Value}
    (a19 : PySem.W.nsIn K mainGlobals "shift_by" = some (some (.ref f19))) (l19 : K.lookup f19 = some ⟨oc19, od19, .func (PySem.W.fnOf "shift_by" "shift_by" (defArgs s_shift_by) (defBody s_shift_by) (defScope s_shift_by) .none kV19 dc19 pm19 an19 cd19 ct19), sl19⟩) (c19 : PySem.W.codeIn K cd19 "shift_by" = true) (k19 : PySem.W.keepIn K (.ref f19) = true)
    {f20 : Addr} {od20 an20 : Option Addr} {sl20 : Array (Option Value)} {oc20 kV20 dc20 pm20 cd20 ct20 : Value}
    (a20 : PySem.W.nsIn K mainGlobals "scale_by" = some (some (.ref f20))) (l20 : K.lookup f20 = some ⟨oc20, od20, .func (PySem.W.fnOf "scale_by" "scale_by" (defArgs s_scale_by) (defBody s_scale_by) (defScope s_scale_by) .none kV20 dc20 pm20 an20 cd20 ct20), sl20⟩) (c20 : PySem.W.codeIn K cd20 "scale_by" = true) (k20 : PySem.W.keepIn K (.ref f20) = true)
    {f21 : Addr} {od21 an21 : Option Addr} {sl21 : Array (Option Value)} {oc21 kV21 dc21 pm21 cd21 ct21 : Value}
    (a21 : PySem.W.nsIn K mainGlobals "mirror_axis" = some (some (.ref f21))) (l21 : K.lookup f21 = some ⟨oc21, od21, .func (PySem.W.fnOf "mirror_axis" "mirror_axis" (defArgs s_mirror_axis) (defBody s_mirror_axis) (defScope s_mirror_axis) .none kV21 dc21 pm21 an21 cd21 ct21), sl21⟩) (c21 : PySem.W.codeIn K cd21 "mirror_axis" = true) (k21 : PySem.W.keepIn K (.ref f21) = true)
    {f22 : Addr} {od22 an22 : Option Addr} {sl22 : Array (Option Value)} {oc22 kV22 dc22 pm22 cd22 ct22 : Value}
    (a22 : PySem.W.nsIn K mainGlobals "one_turn" = some (some (.ref f22))) (l22 : K.lookup f22 = some ⟨oc22, od22, .func (PySem.W.fnOf "one_turn" "one_turn" (defArgs s_one_turn) (defBody s_one_turn) (defScope s_one_turn) .none kV22 dc22 pm22 an22 cd22 ct22), sl22⟩) (c22 : PySem.W.codeIn K cd22 "one_turn" = true) (k22 : PySem.W.keepIn K (.ref f22) = true)
    {f23 : Addr} {od23 an23 : Option Addr} {sl23 : Array (Option Value)} {oc23 kV23 dc23 pm23 cd23 ct23 : Value} {T23 : Addr} {oT23 : Obj} {its23 : Array Value} {m23 : Nat}
    (a23 : PySem.W.nsIn K mainGlobals "quarter_turn" = some (some (.ref f23))) (l23 : K.lookup f23 = some ⟨oc23, od23, .func (PySem.W.fnOf "quarter_turn" "quarter_turn" (defArgs s_quarter_turn) (defBody s_quarter_turn) (defScope s_quarter_turn) (.ref T23) kV23 dc23 pm23 an23 cd23 ct23), sl23⟩) (c23 : PySem.W.codeIn K cd23 "quarter_turn" = true) (k23 : PySem.W.keepIn K (.ref f23) = true) (lT23 : K.lookup T23 = some oT23) (dT23 : oT23.data = .seq its23 m23) (vT23 : Vals [.int 1] its23.toList)
    {f24 : Addr} {od24 an24 : Option Addr} {sl24 : Array (Option Value)} {oc24 kV24 dc24 pm24 cd24 ct24 : Value}
    (a24 : PySem.W.nsIn K mainGlobals "moved_point" = some (some (.ref f24))) (l24 : K.lookup f24 = some ⟨oc24, od24, .func (PySem.W.fnOf "moved_point" "moved_point" (defArgs s_moved_point) (defBody s_moved_point) (defScope s_moved_point) .none kV24 dc24 pm24 an24 cd24 ct24), sl24⟩) (c24 : PySem.W.codeIn K cd24 "moved_point" = true) (k24 : PySem.W.keepIn K (.ref f24) = true)
    {f25 : Addr} {od25 an25 : Option Addr} {sl25 : Array (Option Value)} {oc25 kV25 dc25 pm25 cd25 ct25 : Value}
    (a25 : PySem.W.nsIn K mainGlobals "moved_vector" = some (some (.ref f25))) (l25 : K.lookup f25 = some ⟨oc25, od25, .func (PySem.W.fnOf "moved_vector" "moved_vector" (defArgs s_moved_vector) (defBody s_moved_vector) (defScope s_moved_vector) .none kV25 dc25 pm25 an25 cd25 ct25), sl25⟩) (c25 : PySem.W.codeIn K cd25 "moved_vector" = true) (k25 : PySem.W.keepIn K (.ref f25) = true)
    {f26 : Addr} {od26 an26 : Option Addr} {sl26 : Array (Option Value)} {oc26 kV26 dc26 pm26 cd26 ct26 : Value}
    (a26 : PySem.W.nsIn K mainGlobals "combine" = some (some (.ref f26))) (l26 : K.lookup f26 = some ⟨oc26, od26, .func (PySem.W.fnOf "combine" "combine" (defArgs s_combine) (defBody s_combine) (defScope s_combine) .none kV26 dc26 pm26 an26 cd26 ct26), sl26⟩) (c26 : PySem.W.codeIn K cd26 "combine" = true) (k26 : PySem.W.keepIn K (.ref f26) = true)
    {f27 : Addr} {od27 an27 : Option Addr} {sl27 : Array (Option Value)} {oc27 kV27 dc27 pm27 cd27 ct27 : Value}
    (a27 : PySem.W.nsIn K mainGlobals "determinant" = some (some (.ref f27))) (l27 : K.lookup f27 = some ⟨oc27, od27, .func (PySem.W.fnOf "determinant" "determinant" (defArgs s_determinant) (defBody s_determinant) (defScope s_determinant) .none kV27 dc27 pm27 an27 cd27 ct27), sl27⟩) (c27 : PySem.W.codeIn K cd27 "determinant" = true) (k27 : PySem.W.keepIn K (.ref f27) = true)
    {f28 : Addr} {od28 an28 : Option Addr} {sl28 : Array (Option Value)} {oc28 kV28 dc28 pm28 cd28 ct28 : Value}
    (a28 : PySem.W.nsIn K mainGlobals "mirrors" = some (some (.ref f28))) (l28 : K.lookup f28 = some ⟨oc28, od28, .func (PySem.W.fnOf "mirrors" "mirrors" (defArgs s_mirrors) (defBody s_mirrors) (defScope s_mirrors) .none kV28 dc28 pm28 an28 cd28 ct28), sl28⟩) (c28 : PySem.W.codeIn K cd28 "mirrors" = true) (k28 : PySem.W.keepIn K (.ref f28) = true)
    {f29 : Addr} {od29 an29 : Option Addr} {sl29 : Array (Option Value)} {oc29 kV29 dc29 pm29 cd29 ct29 : Value}
    (a29 : PySem.W.nsIn K mainGlobals "_law_mix" = some (some (.ref f29))) (l29 : K.lookup f29 = some ⟨oc29, od29, .func (PySem.W.fnOf "_law_mix" "_law_mix" (defArgs s__law_mix) (defBody s__law_mix) (defScope s__law_mix) .none kV29 dc29 pm29 an29 cd29 ct29), sl29⟩) (c29 : PySem.W.codeIn K cd29 "_law_mix" = true) (k29 : PySem.W.keepIn K (.ref f29) = true)
    {f30 : Addr} {od30 an30 : Option Addr} {sl30 : Array (Option Value)} {oc30 kV30 dc30 pm30 cd30 ct30 : Value}
    (a30 : PySem.W.nsIn K mainGlobals "_law_store" = some (some (.ref f30))) (l30 : K.lookup f30 = some ⟨oc30, od30, .func (PySem.W.fnOf "_law_store" "_law_store" (defArgs s__law_store) (defBody s__law_store) (defScope s__law_store) .none kV30 dc30 pm30 an30 cd30 ct30), sl30⟩) (c30 : PySem.W.codeIn K cd30 "_law_store" = true) (k30 : PySem.W.keepIn K (.ref f30) = true)
    {f31 : Addr} {od31 an31 : Option Addr} {sl31 : Array (Option Value)} {oc31 kV31 dc31 pm31 cd31 ct31 : Value}
    (a31 : PySem.W.nsIn K mainGlobals "_law_take" = some (some (.ref f31))) (l31 : K.lookup f31 = some ⟨oc31, od31, .func (PySem.W.fnOf "_law_take" "_law_take" (defArgs s__law_take) (defBody s__law_take) (defScope s__law_take) .none kV31 dc31 pm31 an31 cd31 ct31), sl31⟩) (c31 : PySem.W.codeIn K cd31 "_law_take" = true) (k31 : PySem.W.keepIn K (.ref f31) = true)
    {f32 : Addr} {od32 an32 : Option Addr} {sl32 : Array (Option Value)} {oc32 kV32 dc32 pm32 cd32 ct32 : Value}
    (a32 : PySem.W.nsIn K mainGlobals "_law_pick" = some (some (.ref f32))) (l32 : K.lookup f32 = some ⟨oc32, od32, .func (PySem.W.fnOf "_law_pick" "_law_pick" (defArgs s__law_pick) (defBody s__law_pick) (defScope s__law_pick) .none kV32 dc32 pm32 an32 cd32 ct32), sl32⟩) (c32 : PySem.W.codeIn K cd32 "_law_pick" = true) (k32 : PySem.W.keepIn K (.ref f32) = true)
    {f33 : Addr} {od33 an33 : Option Addr} {sl33 : Array (Option Value)} {oc33 kV33 dc33 pm33 cd33 ct33 : Value}
    (a33 : PySem.W.nsIn K mainGlobals "_law_wide" = some (some (.ref f33))) (l33 : K.lookup f33 = some ⟨oc33, od33, .func (PySem.W.fnOf "_law_wide" "_law_wide" (defArgs s__law_wide) (defBody s__law_wide) (defScope s__law_wide) .none kV33 dc33 pm33 an33 cd33 ct33), sl33⟩) (c33 : PySem.W.codeIn K cd33 "_law_wide" = true) (k33 : PySem.W.keepIn K (.ref f33) = true)
    {f34 : Addr} {od34 an34 : Option Addr} {sl34 : Array (Option Value)} {oc34 kV34 dc34 pm34 cd34 ct34 : Value}
    (a34 : PySem.W.nsIn K mainGlobals "_law_gcd" = some (some (.ref f34))) (l34 : K.lookup f34 = some ⟨oc34, od34, .func (PySem.W.fnOf "_law_gcd" "_law_gcd" (defArgs s__law_gcd) (defBody s__law_gcd) (defScope s__law_gcd) .none kV34 dc34 pm34 an34 cd34 ct34), sl34⟩) (c34 : PySem.W.codeIn K cd34 "_law_gcd" = true) (k34 : PySem.W.keepIn K (.ref f34) = true)
    {f35 : Addr} {od35 an35 : Option Addr} {sl35 : Array (Option Value)} {oc35 kV35 dc35 pm35 cd35 ct35 : Value}
    (a35 : PySem.W.nsIn K mainGlobals "_law_frac" = some (some (.ref f35))) (l35 : K.lookup f35 = some ⟨oc35, od35, .func (PySem.W.fnOf "_law_frac" "_law_frac" (defArgs s__law_frac) (defBody s__law_frac) (defScope s__law_frac) .none kV35 dc35 pm35 an35 cd35 ct35), sl35⟩) (c35 : PySem.W.codeIn K cd35 "_law_frac" = true) (k35 : PySem.W.keepIn K (.ref f35) = true)
    {f36 : Addr} {od36 an36 : Option Addr} {sl36 : Array (Option Value)} {oc36 kV36 dc36 pm36 cd36 ct36 : Value}
    (a36 : PySem.W.nsIn K mainGlobals "_law_radd" = some (some (.ref f36))) (l36 : K.lookup f36 = some ⟨oc36, od36, .func (PySem.W.fnOf "_law_radd" "_law_radd" (defArgs s__law_radd) (defBody s__law_radd) (defScope s__law_radd) .none kV36 dc36 pm36 an36 cd36 ct36), sl36⟩) (c36 : PySem.W.codeIn K cd36 "_law_radd" = true) (k36 : PySem.W.keepIn K (.ref f36) = true)
    {f37 : Addr} {od37 an37 : Option Addr} {sl37 : Array (Option Value)} {oc37 kV37 dc37 pm37 cd37 ct37 : Value}
    (a37 : PySem.W.nsIn K mainGlobals "_law_rsub" = some (some (.ref f37))) (l37 : K.lookup f37 = some ⟨oc37, od37, .func (PySem.W.fnOf "_law_rsub" "_law_rsub" (defArgs s__law_rsub) (defBody s__law_rsub) (defScope s__law_rsub) .none kV37 dc37 pm37 an37 cd37 ct37), sl37⟩) (c37 : PySem.W.codeIn K cd37 "_law_rsub" = true) (k37 : PySem.W.keepIn K (.ref f37) = true)
    {f38 : Addr} {od38 an38 : Option Addr} {sl38 : Array (Option Value)} {oc38 kV38 dc38 pm38 cd38 ct38 : Value}
    (a38 : PySem.W.nsIn K mainGlobals "_law_rmul" = some (some (.ref f38))) (l38 : K.lookup f38 = some ⟨oc38, od38, .func (PySem.W.fnOf "_law_rmul" "_law_rmul" (defArgs s__law_rmul) (defBody s__law_rmul) (defScope s__law_rmul) .none kV38 dc38 pm38 an38 cd38 ct38), sl38⟩) (c38 : PySem.W.codeIn K cd38 "_law_rmul" = true) (k38 : PySem.W.keepIn K (.ref f38) = true)
    {f39 : Addr} {od39 an39 : Option Addr} {sl39 : Array (Option Value)} {oc39 kV39 dc39 pm39 cd39 ct39 : Value}
    (a39 : PySem.W.nsIn K mainGlobals "_law_ratio" = some (some (.ref f39))) (l39 : K.lookup f39 = some ⟨oc39, od39, .func (PySem.W.fnOf "_law_ratio" "_law_ratio" (defArgs s__law_ratio) (defBody s__law_ratio) (defScope s__law_ratio) .none kV39 dc39 pm39 an39 cd39 ct39), sl39⟩) (c39 : PySem.W.codeIn K cd39 "_law_ratio" = true) (k39 : PySem.W.keepIn K (.ref f39) = true)
    {f40 : Addr} {od40 an40 : Option Addr} {sl40 : Array (Option Value)} {oc40 kV40 dc40 pm40 cd40 ct40 : Value}
    (a40 : PySem.W.nsIn K mainGlobals "_law_number" = some (some (.ref f40))) (l40 : K.lookup f40 = some ⟨oc40, od40, .func (PySem.W.fnOf "_law_number" "_law_number" (defArgs s__law_number) (defBody s__law_number) (defScope s__law_number) .none kV40 dc40 pm40 an40 cd40 ct40), sl40⟩) (c40 : PySem.W.codeIn K cd40 "_law_number" = true) (k40 : PySem.W.keepIn K (.ref f40) = true)
    {f41 : Addr} {od41 an41 : Option Addr} {sl41 : Array (Option Value)} {oc41 kV41 dc41 pm41 cd41 ct41 : Value}
    (a41 : PySem.W.nsIn K mainGlobals "_law_is_integer" = some (some (.ref f41))) (l41 : K.lookup f41 = some ⟨oc41, od41, .func (PySem.W.fnOf "_law_is_integer" "_law_is_integer" (defArgs s__law_is_integer) (defBody s__law_is_integer) (defScope s__law_is_integer) .none kV41 dc41 pm41 an41 cd41 ct41), sl41⟩) (c41 : PySem.W.codeIn K cd41 "_law_is_integer" = true) (k41 : PySem.W.keepIn K (.ref f41) = true)
    {f42 : Addr} {od42 an42 : Option Addr} {sl42 : Array (Option Value)} {oc42 kV42 dc42 pm42 cd42 ct42 : Value}
    (a42 : PySem.W.nsIn K mainGlobals "_law_same" = some (some (.ref f42))) (l42 : K.lookup f42 = some ⟨oc42, od42, .func (PySem.W.fnOf "_law_same" "_law_same" (defArgs s__law_same) (defBody s__law_same) (defScope s__law_same) .none kV42 dc42 pm42 an42 cd42 ct42), sl42⟩) (c42 : PySem.W.codeIn K cd42 "_law_same" = true) (k42 : PySem.W.keepIn K (.ref f42) = true)
    {f43 : Addr} {od43 an43 : Option Addr} {sl43 : Array (Option Value)} {oc43 kV43 dc43 pm43 cd43 ct43 : Value}
    (a43 : PySem.W.nsIn K mainGlobals "_law_inner" = some (some (.ref f43))) (l43 : K.lookup f43 = some ⟨oc43, od43, .func (PySem.W.fnOf "_law_inner" "_law_inner" (defArgs s__law_inner) (defBody s__law_inner) (defScope s__law_inner) .none kV43 dc43 pm43 an43 cd43 ct43), sl43⟩) (c43 : PySem.W.codeIn K cd43 "_law_inner" = true) (k43 : PySem.W.keepIn K (.ref f43) = true)
    {f44 : Addr} {od44 an44 : Option Addr} {sl44 : Array (Option Value)} {oc44 kV44 dc44 pm44 cd44 ct44 : Value}
    (a44 : PySem.W.nsIn K mainGlobals "_law_spoil" = some (some (.ref f44))) (l44 : K.lookup f44 = some ⟨oc44, od44, .func (PySem.W.fnOf "_law_spoil" "_law_spoil" (defArgs s__law_spoil) (defBody s__law_spoil) (defScope s__law_spoil) .none kV44 dc44 pm44 an44 cd44 ct44), sl44⟩) (c44 : PySem.W.codeIn K cd44 "_law_spoil" = true) (k44 : PySem.W.keepIn K (.ref f44) = true)
    {f45 : Addr} {od45 an45 : Option Addr} {sl45 : Array (Option Value)} {oc45 kV45 dc45 pm45 cd45 ct45 : Value}
    (a45 : PySem.W.nsIn K mainGlobals "_law_vadd" = some (some (.ref f45))) (l45 : K.lookup f45 = some ⟨oc45, od45, .func (PySem.W.fnOf "_law_vadd" "_law_vadd" (defArgs s__law_vadd) (defBody s__law_vadd) (defScope s__law_vadd) .none kV45 dc45 pm45 an45 cd45 ct45), sl45⟩) (c45 : PySem.W.codeIn K cd45 "_law_vadd" = true) (k45 : PySem.W.keepIn K (.ref f45) = true)
    {f46 : Addr} {od46 an46 : Option Addr} {sl46 : Array (Option Value)} {oc46 kV46 dc46 pm46 cd46 ct46 : Value}
    (a46 : PySem.W.nsIn K mainGlobals "_law_vmul" = some (some (.ref f46))) (l46 : K.lookup f46 = some ⟨oc46, od46, .func (PySem.W.fnOf "_law_vmul" "_law_vmul" (defArgs s__law_vmul) (defBody s__law_vmul) (defScope s__law_vmul) .none kV46 dc46 pm46 an46 cd46 ct46), sl46⟩) (c46 : PySem.W.codeIn K cd46 "_law_vmul" = true) (k46 : PySem.W.keepIn K (.ref f46) = true)
    {f47 : Addr} {od47 an47 : Option Addr} {sl47 : Array (Option Value)} {oc47 kV47 dc47 pm47 cd47 ct47 : Value}
    (a47 : PySem.W.nsIn K mainGlobals "_law_vdot" = some (some (.ref f47))) (l47 : K.lookup f47 = some ⟨oc47, od47, .func (PySem.W.fnOf "_law_vdot" "_law_vdot" (defArgs s__law_vdot) (defBody s__law_vdot) (defScope s__law_vdot) .none kV47 dc47 pm47 an47 cd47 ct47), sl47⟩) (c47 : PySem.W.codeIn K cd47 "_law_vdot" = true) (k47 : PySem.W.keepIn K (.ref f47) = true)
    {f48 : Addr} {od48 an48 : Option Addr} {sl48 : Array (Option Value)} {oc48 kV48 dc48 pm48 cd48 ct48 : Value}
    (a48 : PySem.W.nsIn K mainGlobals "_law_vcross" = some (some (.ref f48))) (l48 : K.lookup f48 = some ⟨oc48, od48, .func (PySem.W.fnOf "_law_vcross" "_law_vcross" (defArgs s__law_vcross) (defBody s__law_vcross) (defScope s__law_vcross) .none kV48 dc48 pm48 an48 cd48 ct48), sl48⟩) (c48 : PySem.W.codeIn K cd48 "_law_vcross" = true) (k48 : PySem.W.keepIn K (.ref f48) = true)
    {f49 : Addr} {od49 an49 : Option Addr} {sl49 : Array (Option Value)} {oc49 kV49 dc49 pm49 cd49 ct49 : Value}
    (a49 : PySem.W.nsIn K mainGlobals "_law_point" = some (some (.ref f49))) (l49 : K.lookup f49 = some ⟨oc49, od49, .func (PySem.W.fnOf "_law_point" "_law_point" (defArgs s__law_point) (defBody s__law_point) (defScope s__law_point) .none kV49 dc49 pm49 an49 cd49 ct49), sl49⟩) (c49 : PySem.W.codeIn K cd49 "_law_point" = true) (k49 : PySem.W.keepIn K (.ref f49) = true)
    {f50 : Addr} {od50 an50 : Option Addr} {sl50 : Array (Option Value)} {oc50 kV50 dc50 pm50 cd50 ct50 : Value}
    (a50 : PySem.W.nsIn K mainGlobals "_law_is_ratio" = some (some (.ref f50))) (l50 : K.lookup f50 = some ⟨oc50, od50, .func (PySem.W.fnOf "_law_is_ratio" "_law_is_ratio" (defArgs s__law_is_ratio) (defBody s__law_is_ratio) (defScope s__law_is_ratio) .none kV50 dc50 pm50 an50 cd50 ct50), sl50⟩) (c50 : PySem.W.codeIn K cd50 "_law_is_ratio" = true) (k50 : PySem.W.keepIn K (.ref f50) = true)
    {f51 : Addr} {od51 an51 : Option Addr} {sl51 : Array (Option Value)} {oc51 kV51 dc51 pm51 cd51 ct51 : Value}
    (a51 : PySem.W.nsIn K mainGlobals "_law_is_vector" = some (some (.ref f51))) (l51 : K.lookup f51 = some ⟨oc51, od51, .func (PySem.W.fnOf "_law_is_vector" "_law_is_vector" (defArgs s__law_is_vector) (defBody s__law_is_vector) (defScope s__law_is_vector) .none kV51 dc51 pm51 an51 cd51 ct51), sl51⟩) (c51 : PySem.W.codeIn K cd51 "_law_is_vector" = true) (k51 : PySem.W.keepIn K (.ref f51) = true)
    {f52 : Addr} {od52 an52 : Option Addr} {sl52 : Array (Option Value)} {oc52 kV52 dc52 pm52 cd52 ct52 : Value}
    (a52 : PySem.W.nsIn K mainGlobals "_law_is_move" = some (some (.ref f52))) (l52 : K.lookup f52 = some ⟨oc52, od52, .func (PySem.W.fnOf "_law_is_move" "_law_is_move" (defArgs s__law_is_move) (defBody s__law_is_move) (defScope s__law_is_move) .none kV52 dc52 pm52 an52 cd52 ct52), sl52⟩) (c52 : PySem.W.codeIn K cd52 "_law_is_move" = true) (k52 : PySem.W.keepIn K (.ref f52) = true)
    {f53 : Addr} {od53 an53 : Option Addr} {sl53 : Array (Option Value)} {oc53 kV53 dc53 pm53 cd53 ct53 : Value}
    (a53 : PySem.W.nsIn K mainGlobals "_law_whole_vector" = some (some (.ref f53))) (l53 : K.lookup f53 = some ⟨oc53, od53, .func (PySem.W.fnOf "_law_whole_vector" "_law_whole_vector" (defArgs s__law_whole_vector) (defBody s__law_whole_vector) (defScope s__law_whole_vector) .none kV53 dc53 pm53 an53 cd53 ct53), sl53⟩) (c53 : PySem.W.codeIn K cd53 "_law_whole_vector" = true) (k53 : PySem.W.keepIn K (.ref f53) = true)
    {f54 : Addr} {od54 an54 : Option Addr} {sl54 : Array (Option Value)} {oc54 kV54 dc54 pm54 cd54 ct54 : Value}
    (a54 : PySem.W.nsIn K mainGlobals "_law_turn_rows" = some (some (.ref f54))) (l54 : K.lookup f54 = some ⟨oc54, od54, .func (PySem.W.fnOf "_law_turn_rows" "_law_turn_rows" (defArgs s__law_turn_rows) (defBody s__law_turn_rows) (defScope s__law_turn_rows) .none kV54 dc54 pm54 an54 cd54 ct54), sl54⟩) (c54 : PySem.W.codeIn K cd54 "_law_turn_rows" = true) (k54 : PySem.W.keepIn K (.ref f54) = true)
    {f55 : Addr} {od55 an55 : Option Addr} {sl55 : Array (Option Value)} {oc55 kV55 dc55 pm55 cd55 ct55 : Value}
    (a55 : PySem.W.nsIn K mainGlobals "_law_matrix" = some (some (.ref f55))) (l55 : K.lookup f55 = some ⟨oc55, od55, .func (PySem.W.fnOf "_law_matrix" "_law_matrix" (defArgs s__law_matrix) (defBody s__law_matrix) (defScope s__law_matrix) .none kV55 dc55 pm55 an55 cd55 ct55), sl55⟩) (c55 : PySem.W.codeIn K cd55 "_law_matrix" = true) (k55 : PySem.W.keepIn K (.ref f55) = true)
    {f56 : Addr} {od56 an56 : Option Addr} {sl56 : Array (Option Value)} {oc56 kV56 dc56 pm56 cd56 ct56 : Value}
    (a56 : PySem.W.nsIn K mainGlobals "_law_move" = some (some (.ref f56))) (l56 : K.lookup f56 = some ⟨oc56, od56, .func (PySem.W.fnOf "_law_move" "_law_move" (defArgs s__law_move) (defBody s__law_move) (defScope s__law_move) .none kV56 dc56 pm56 an56 cd56 ct56), sl56⟩) (c56 : PySem.W.codeIn K cd56 "_law_move" = true) (k56 : PySem.W.keepIn K (.ref f56) = true)
    {f57 : Addr} {od57 an57 : Option Addr} {sl57 : Array (Option Value)} {oc57 kV57 dc57 pm57 cd57 ct57 : Value}
    (a57 : PySem.W.nsIn K mainGlobals "_law_singular" = some (some (.ref f57))) (l57 : K.lookup f57 = some ⟨oc57, od57, .func (PySem.W.fnOf "_law_singular" "_law_singular" (defArgs s__law_singular) (defBody s__law_singular) (defScope s__law_singular) .none kV57 dc57 pm57 an57 cd57 ct57), sl57⟩) (c57 : PySem.W.codeIn K cd57 "_law_singular" = true) (k57 : PySem.W.keepIn K (.ref f57) = true)
    {f58 : Addr} {od58 an58 : Option Addr} {sl58 : Array (Option Value)} {oc58 kV58 dc58 pm58 cd58 ct58 : Value}
    (a58 : PySem.W.nsIn K mainGlobals "_law_moved_vector" = some (some (.ref f58))) (l58 : K.lookup f58 = some ⟨oc58, od58, .func (PySem.W.fnOf "_law_moved_vector" "_law_moved_vector" (defArgs s__law_moved_vector) (defBody s__law_moved_vector) (defScope s__law_moved_vector) .none kV58 dc58 pm58 an58 cd58 ct58), sl58⟩) (c58 : PySem.W.codeIn K cd58 "_law_moved_vector" = true) (k58 : PySem.W.keepIn K (.ref f58) = true)
    {f59 : Addr} {od59 an59 : Option Addr} {sl59 : Array (Option Value)} {oc59 kV59 dc59 pm59 cd59 ct59 : Value}
    (a59 : PySem.W.nsIn K mainGlobals "_law_moved" = some (some (.ref f59))) (l59 : K.lookup f59 = some ⟨oc59, od59, .func (PySem.W.fnOf "_law_moved" "_law_moved" (defArgs s__law_moved) (defBody s__law_moved) (defScope s__law_moved) .none kV59 dc59 pm59 an59 cd59 ct59), sl59⟩) (c59 : PySem.W.codeIn K cd59 "_law_moved" = true) (k59 : PySem.W.keepIn K (.ref f59) = true)
    {f60 : Addr} {od60 an60 : Option Addr} {sl60 : Array (Option Value)} {oc60 kV60 dc60 pm60 cd60 ct60 : Value}
    (a60 : PySem.W.nsIn K mainGlobals "_law_det" = some (some (.ref f60))) (l60 : K.lookup f60 = some ⟨oc60, od60, .func (PySem.W.fnOf "_law_det" "_law_det" (defArgs s__law_det) (defBody s__law_det) (defScope s__law_det) .none kV60 dc60 pm60 an60 cd60 ct60), sl60⟩) (c60 : PySem.W.codeIn K cd60 "_law_det" = true) (k60 : PySem.W.keepIn K (.ref f60) = true)
    {f61 : Addr} {od61 an61 : Option Addr} {sl61 : Array (Option Value)} {oc61 kV61 dc61 pm61 cd61 ct61 : Value}
    (a61 : PySem.W.nsIn K mainGlobals "_law_only" = some (some (.ref f61))) (l61 : K.lookup f61 = some ⟨oc61, od61, .func (PySem.W.fnOf "_law_only" "_law_only" (defArgs s__law_only) (defBody s__law_only) (defScope s__law_only) .none kV61 dc61 pm61 an61 cd61 ct61), sl61⟩) (c61 : PySem.W.codeIn K cd61 "_law_only" = true) (k61 : PySem.W.keepIn K (.ref f61) = true)
    {f62 : Addr} {od62 an62 : Option Addr} {sl62 : Array (Option Value)} {oc62 kV62 dc62 pm62 cd62 ct62 : Value}
    (a62 : PySem.W.nsIn K mainGlobals "_law_refused" = some (some (.ref f62))) (l62 : K.lookup f62 = some ⟨oc62, od62, .func (PySem.W.fnOf "_law_refused" "_law_refused" (defArgs s__law_refused) (defBody s__law_refused) (defScope s__law_refused) .none kV62 dc62 pm62 an62 cd62 ct62), sl62⟩) (c62 : PySem.W.codeIn K cd62 "_law_refused" = true) (k62 : PySem.W.keepIn K (.ref f62) = true)
    {f63 : Addr} {od63 an63 : Option Addr} {sl63 : Array (Option Value)} {oc63 kV63 dc63 pm63 cd63 ct63 : Value}
    (a63 : PySem.W.nsIn K mainGlobals "_law_great" = some (some (.ref f63))) (l63 : K.lookup f63 = some ⟨oc63, od63, .func (PySem.W.fnOf "_law_great" "_law_great" (defArgs s__law_great) (defBody s__law_great) (defScope s__law_great) .none kV63 dc63 pm63 an63 cd63 ct63), sl63⟩) (c63 : PySem.W.codeIn K cd63 "_law_great" = true) (k63 : PySem.W.keepIn K (.ref f63) = true)
    {f64 : Addr} {od64 an64 : Option Addr} {sl64 : Array (Option Value)} {oc64 kV64 dc64 pm64 cd64 ct64 : Value}
    (a64 : PySem.W.nsIn K mainGlobals "_law_either" = some (some (.ref f64))) (l64 : K.lookup f64 = some ⟨oc64, od64, .func (PySem.W.fnOf "_law_either" "_law_either" (defArgs s__law_either) (defBody s__law_either) (defScope s__law_either) .none kV64 dc64 pm64 an64 cd64 ct64), sl64⟩) (c64 : PySem.W.codeIn K cd64 "_law_either" = true) (k64 : PySem.W.keepIn K (.ref f64) = true)
    {f65 : Addr} {od65 an65 : Option Addr} {sl65 : Array (Option Value)} {oc65 kV65 dc65 pm65 cd65 ct65 : Value}
    (a65 : PySem.W.nsIn K mainGlobals "_law_turned" = some (some (.ref f65))) (l65 : K.lookup f65 = some ⟨oc65, od65, .func (PySem.W.fnOf "_law_turned" "_law_turned" (defArgs s__law_turned) (defBody s__law_turned) (defScope s__law_turned) .none kV65 dc65 pm65 an65 cd65 ct65), sl65⟩) (c65 : PySem.W.codeIn K cd65 "_law_turned" = true) (k65 : PySem.W.keepIn K (.ref f65) = true)
    {f66 : Addr} {od66 an66 : Option Addr} {sl66 : Array (Option Value)} {oc66 kV66 dc66 pm66 cd66 ct66 : Value}
    (a66 : PySem.W.nsIn K mainGlobals "_law_turns" = some (some (.ref f66))) (l66 : K.lookup f66 = some ⟨oc66, od66, .func (PySem.W.fnOf "_law_turns" "_law_turns" (defArgs s__law_turns) (defBody s__law_turns) (defScope s__law_turns) .none kV66 dc66 pm66 an66 cd66 ct66), sl66⟩) (c66 : PySem.W.codeIn K cd66 "_law_turns" = true) (k66 : PySem.W.keepIn K (.ref f66) = true)
    {f67 : Addr} {od67 an67 : Option Addr} {sl67 : Array (Option Value)} {oc67 kV67 dc67 pm67 cd67 ct67 : Value}
    (a67 : PySem.W.nsIn K mainGlobals "_law_scaled" = some (some (.ref f67))) (l67 : K.lookup f67 = some ⟨oc67, od67, .func (PySem.W.fnOf "_law_scaled" "_law_scaled" (defArgs s__law_scaled) (defBody s__law_scaled) (defScope s__law_scaled) .none kV67 dc67 pm67 an67 cd67 ct67), sl67⟩) (c67 : PySem.W.codeIn K cd67 "_law_scaled" = true) (k67 : PySem.W.keepIn K (.ref f67) = true)
    {f68 : Addr} {od68 an68 : Option Addr} {sl68 : Array (Option Value)} {oc68 kV68 dc68 pm68 cd68 ct68 : Value}
    (a68 : PySem.W.nsIn K mainGlobals "_law_bent" = some (some (.ref f68))) (l68 : K.lookup f68 = some ⟨oc68, od68, .func (PySem.W.fnOf "_law_bent" "_law_bent" (defArgs s__law_bent) (defBody s__law_bent) (defScope s__law_bent) .none kV68 dc68 pm68 an68 cd68 ct68), sl68⟩) (c68 : PySem.W.codeIn K cd68 "_law_bent" = true) (k68 : PySem.W.keepIn K (.ref f68) = true)
    {f69 : Addr} {od69 an69 : Option Addr} {sl69 : Array (Option Value)} {oc69 kV69 dc69 pm69 cd69 ct69 : Value}
    (a69 : PySem.W.nsIn K mainGlobals "_law_made_right" = some (some (.ref f69))) (l69 : K.lookup f69 = some ⟨oc69, od69, .func (PySem.W.fnOf "_law_made_right" "_law_made_right" (defArgs s__law_made_right) (defBody s__law_made_right) (defScope s__law_made_right) .none kV69 dc69 pm69 an69 cd69 ct69), sl69⟩) (c69 : PySem.W.codeIn K cd69 "_law_made_right" = true) (k69 : PySem.W.keepIn K (.ref f69) = true)
    {f70 : Addr} {od70 an70 : Option Addr} {sl70 : Array (Option Value)} {oc70 kV70 dc70 pm70 cd70 ct70 : Value}
    (a70 : PySem.W.nsIn K mainGlobals "_law_named_right" = some (some (.ref f70))) (l70 : K.lookup f70 = some ⟨oc70, od70, .func (PySem.W.fnOf "_law_named_right" "_law_named_right" (defArgs s__law_named_right) (defBody s__law_named_right) (defScope s__law_named_right) .none kV70 dc70 pm70 an70 cd70 ct70), sl70⟩) (c70 : PySem.W.codeIn K cd70 "_law_named_right" = true) (k70 : PySem.W.keepIn K (.ref f70) = true)
    {f71 : Addr} {od71 an71 : Option Addr} {sl71 : Array (Option Value)} {oc71 kV71 dc71 pm71 cd71 ct71 : Value}
    (a71 : PySem.W.nsIn K mainGlobals "law" = some (some (.ref f71))) (l71 : K.lookup f71 = some ⟨oc71, od71, .func (PySem.W.fnOf "law" "law" (defArgs s_law) (defBody s_law) (defScope s_law) .none kV71 dc71 pm71 an71 cd71 ct71), sl71⟩) (c71 : PySem.W.codeIn K cd71 "law" = true) (k71 : PySem.W.keepIn K (.ref f71) = true)
    (z_len : PySem.W.nsIn K mainGlobals "len" = some none)
    (z_int : PySem.W.nsIn K mainGlobals "int" = some none)
    (z_abs : PySem.W.nsIn K mainGlobals "abs" = some none)
    (z_max : PySem.W.nsIn K mainGlobals "max" = some none)
    (z_min : PySem.W.nsIn K mainGlobals "min" = some none)
    (z_range : PySem.W.nsIn K mainGlobals "range" = some none)
    (z_isinstance : PySem.W.nsIn K mainGlobals "isinstance" = some none)
    (z_list : PySem.W.nsIn K mainGlobals "list" = some none)
    (z_tuple : PySem.W.nsIn K mainGlobals "tuple" = some none)
    (z_bool : PySem.W.nsIn K mainGlobals "bool" = some none)
    (z_str : PySem.W.nsIn K mainGlobals "str" = some none)
    (z_zip : PySem.W.nsIn K mainGlobals "zip" = some none)
    (z_enumerate : PySem.W.nsIn K mainGlobals "enumerate" = some none)
    (z_sum : PySem.W.nsIn K mainGlobals "sum" = some none)
    (g_gcd : PySem.W.nsIn K mainGlobals "gcd" = some (some (.builtin "math.gcd")))
    {x_SpaceError : Addr} {x_TextFault : Addr} {x_RunFault : Addr} {x_BadRow : Addr} {x_ZeroDenominator : Addr} {x_NoNormal : Addr} {x_InLine : Addr} {x_Flat : Addr} {x_BadPolygon : Addr} {x_Singular : Addr} {x_NoDirection : Addr} {x_BadPath : Addr} {x_TooLarge : Addr} {x_BadOrder : Addr} {x_Unbounded : Addr} {x_NoParting : Addr} {x_NothingToUndo : Addr}
    (gx_SpaceError : PySem.W.nsIn K mainGlobals "SpaceError" = some (some (.ref x_SpaceError)))
    (gx_TextFault : PySem.W.nsIn K mainGlobals "TextFault" = some (some (.ref x_TextFault)))
    (gx_RunFault : PySem.W.nsIn K mainGlobals "RunFault" = some (some (.ref x_RunFault)))
    (gx_BadRow : PySem.W.nsIn K mainGlobals "BadRow" = some (some (.ref x_BadRow)))
    (gx_ZeroDenominator : PySem.W.nsIn K mainGlobals "ZeroDenominator" = some (some (.ref x_ZeroDenominator)))
    (gx_NoNormal : PySem.W.nsIn K mainGlobals "NoNormal" = some (some (.ref x_NoNormal)))
    (gx_InLine : PySem.W.nsIn K mainGlobals "InLine" = some (some (.ref x_InLine)))
    (gx_Flat : PySem.W.nsIn K mainGlobals "Flat" = some (some (.ref x_Flat)))
    (gx_BadPolygon : PySem.W.nsIn K mainGlobals "BadPolygon" = some (some (.ref x_BadPolygon)))
    (gx_Singular : PySem.W.nsIn K mainGlobals "Singular" = some (some (.ref x_Singular)))
    (gx_NoDirection : PySem.W.nsIn K mainGlobals "NoDirection" = some (some (.ref x_NoDirection)))
    (gx_BadPath : PySem.W.nsIn K mainGlobals "BadPath" = some (some (.ref x_BadPath)))
    (gx_TooLarge : PySem.W.nsIn K mainGlobals "TooLarge" = some (some (.ref x_TooLarge)))
    (gx_BadOrder : PySem.W.nsIn K mainGlobals "BadOrder" = some (some (.ref x_BadOrder)))
    (gx_Unbounded : PySem.W.nsIn K mainGlobals "Unbounded" = some (some (.ref x_Unbounded)))
    (gx_NoParting : PySem.W.nsIn K mainGlobals "NoParting" = some (some (.ref x_NoParting)))
    (gx_NothingToUndo : PySem.W.nsIn K mainGlobals "NothingToUndo" = some (some (.ref x_NothingToUndo)))
    (fk_Singular : PySem.W.keepIn K (.ref x_Singular) = true)
    (fe_Singular : PySem.W.excIn K x_Singular [.type "ValueError", .type "Exception", .type "BaseException", .type "object"] "ValueError.__new__" = true)
    (fb_Singular : PySem.W.subIn K (.ref x_Singular) (.type "BaseException") = some true)
    (ft_Singular : PySem.W.typeIn K (.ref x_Singular) = some (.type "type"))
    (xg_Singular : PySem.W.findIn K (.ref x_Singular) "__getattribute__" = some (some (.builtin "BaseException.__getattribute__")))
    (xk_Singular : PySem.W.findIn K (.ref x_Singular) "__getattr__" = some none)
    (hd_Singular : PySem.W.hasDictIn K x_Singular = true)
    (xa_Singular : PySem.W.findIn K (.ref x_Singular) "__class__" = some (some (.builtin "object.__class__")))
    (xn : PySem.W.specialIn K (.builtin "object.__class__") "__get__" = some (some (.builtin "getset_descriptor.__get__")))
    (xt : PySem.W.takesIn K (.builtin "object.__class__") = some true)
    (xm_Singular : PySem.W.mroIn K x_Singular (.type "object") = some true)
    (fb_SpaceError : PySem.W.subIn K (.ref x_SpaceError) (.type "BaseException") = some true)
    (hd_SpaceError : PySem.W.hasDictIn K x_SpaceError = true)
    (ft_SpaceError : PySem.W.typeIn K (.ref x_SpaceError) = some (.type "type"))
    (sx_Singular_SpaceError : PySem.W.subIn K (.ref x_Singular) (.ref x_SpaceError) = some true)
    (nx_Singular_SpaceError : (Value.ref x_Singular == Value.ref x_SpaceError) = false)
    (hd_TextFault : PySem.W.hasDictIn K x_TextFault = true)
    (ft_TextFault : PySem.W.typeIn K (.ref x_TextFault) = some (.type "type"))
    (sx_Singular_TextFault : PySem.W.subIn K (.ref x_Singular) (.ref x_TextFault) = some false)
    (nx_Singular_TextFault : (Value.ref x_Singular == Value.ref x_TextFault) = false)
    (hd_RunFault : PySem.W.hasDictIn K x_RunFault = true)
    (ft_RunFault : PySem.W.typeIn K (.ref x_RunFault) = some (.type "type"))
    (sx_Singular_RunFault : PySem.W.subIn K (.ref x_Singular) (.ref x_RunFault) = some false)
    (nx_Singular_RunFault : (Value.ref x_Singular == Value.ref x_RunFault) = false)
    (hd_BadRow : PySem.W.hasDictIn K x_BadRow = true)
    (ft_BadRow : PySem.W.typeIn K (.ref x_BadRow) = some (.type "type"))
    (sx_Singular_BadRow : PySem.W.subIn K (.ref x_Singular) (.ref x_BadRow) = some false)
    (nx_Singular_BadRow : (Value.ref x_Singular == Value.ref x_BadRow) = false)
    (hd_ZeroDenominator : PySem.W.hasDictIn K x_ZeroDenominator = true)
    (ft_ZeroDenominator : PySem.W.typeIn K (.ref x_ZeroDenominator) = some (.type "type"))
    (sx_Singular_ZeroDenominator : PySem.W.subIn K (.ref x_Singular) (.ref x_ZeroDenominator) = some false)
    (nx_Singular_ZeroDenominator : (Value.ref x_Singular == Value.ref x_ZeroDenominator) = false)
    (hd_NoNormal : PySem.W.hasDictIn K x_NoNormal = true)
    (ft_NoNormal : PySem.W.typeIn K (.ref x_NoNormal) = some (.type "type"))
    (sx_Singular_NoNormal : PySem.W.subIn K (.ref x_Singular) (.ref x_NoNormal) = some false)
    (nx_Singular_NoNormal : (Value.ref x_Singular == Value.ref x_NoNormal) = false)
    (hd_InLine : PySem.W.hasDictIn K x_InLine = true)
    (ft_InLine : PySem.W.typeIn K (.ref x_InLine) = some (.type "type"))
    (sx_Singular_InLine : PySem.W.subIn K (.ref x_Singular) (.ref x_InLine) = some false)
    (nx_Singular_InLine : (Value.ref x_Singular == Value.ref x_InLine) = false)
    (hd_Flat : PySem.W.hasDictIn K x_Flat = true)
    (ft_Flat : PySem.W.typeIn K (.ref x_Flat) = some (.type "type"))
    (sx_Singular_Flat : PySem.W.subIn K (.ref x_Singular) (.ref x_Flat) = some false)
    (nx_Singular_Flat : (Value.ref x_Singular == Value.ref x_Flat) = false)
    (hd_BadPolygon : PySem.W.hasDictIn K x_BadPolygon = true)
    (ft_BadPolygon : PySem.W.typeIn K (.ref x_BadPolygon) = some (.type "type"))
    (sx_Singular_BadPolygon : PySem.W.subIn K (.ref x_Singular) (.ref x_BadPolygon) = some false)
    (nx_Singular_BadPolygon : (Value.ref x_Singular == Value.ref x_BadPolygon) = false)
    (hd_NoDirection : PySem.W.hasDictIn K x_NoDirection = true)
    (ft_NoDirection : PySem.W.typeIn K (.ref x_NoDirection) = some (.type "type"))
    (sx_Singular_NoDirection : PySem.W.subIn K (.ref x_Singular) (.ref x_NoDirection) = some false)
    (nx_Singular_NoDirection : (Value.ref x_Singular == Value.ref x_NoDirection) = false)
    (hd_BadPath : PySem.W.hasDictIn K x_BadPath = true)
    (ft_BadPath : PySem.W.typeIn K (.ref x_BadPath) = some (.type "type"))
    (sx_Singular_BadPath : PySem.W.subIn K (.ref x_Singular) (.ref x_BadPath) = some false)
    (nx_Singular_BadPath : (Value.ref x_Singular == Value.ref x_BadPath) = false)
    (hd_TooLarge : PySem.W.hasDictIn K x_TooLarge = true)
    (ft_TooLarge : PySem.W.typeIn K (.ref x_TooLarge) = some (.type "type"))
    (sx_Singular_TooLarge : PySem.W.subIn K (.ref x_Singular) (.ref x_TooLarge) = some false)
    (nx_Singular_TooLarge : (Value.ref x_Singular == Value.ref x_TooLarge) = false)
    (hd_BadOrder : PySem.W.hasDictIn K x_BadOrder = true)
    (ft_BadOrder : PySem.W.typeIn K (.ref x_BadOrder) = some (.type "type"))
    (sx_Singular_BadOrder : PySem.W.subIn K (.ref x_Singular) (.ref x_BadOrder) = some false)
    (nx_Singular_BadOrder : (Value.ref x_Singular == Value.ref x_BadOrder) = false)
    (hd_Unbounded : PySem.W.hasDictIn K x_Unbounded = true)
    (ft_Unbounded : PySem.W.typeIn K (.ref x_Unbounded) = some (.type "type"))
    (sx_Singular_Unbounded : PySem.W.subIn K (.ref x_Singular) (.ref x_Unbounded) = some false)
    (nx_Singular_Unbounded : (Value.ref x_Singular == Value.ref x_Unbounded) = false)
    (hd_NoParting : PySem.W.hasDictIn K x_NoParting = true)
    (ft_NoParting : PySem.W.typeIn K (.ref x_NoParting) = some (.type "type"))
    (sx_Singular_NoParting : PySem.W.subIn K (.ref x_Singular) (.ref x_NoParting) = some false)
    (nx_Singular_NoParting : (Value.ref x_Singular == Value.ref x_NoParting) = false)
    (hd_NothingToUndo : PySem.W.hasDictIn K x_NothingToUndo = true)
    (ft_NothingToUndo : PySem.W.typeIn K (.ref x_NothingToUndo) = some (.type "type"))
    (sx_Singular_NothingToUndo : PySem.W.subIn K (.ref x_Singular) (.ref x_NothingToUndo) = some false)
    (nx_Singular_NothingToUndo : (Value.ref x_Singular == Value.ref x_NothingToUndo) = false)
    (vx_Singular : PySem.W.subIn K (.ref x_Singular) (.type "ValueError") = some true)
    (z_ValueError : PySem.W.nsIn K mainGlobals "ValueError" = some none)
    (z_all : PySem.W.nsIn K mainGlobals "all" = some none)
    (z_any : PySem.W.nsIn K mainGlobals "any" = some none)
    (z_repr : PySem.W.nsIn K mainGlobals "repr" = some none)
    {gx_STILL : Addr} (gg_STILL : PySem.W.nsIn K mainGlobals "STILL" = some (some (.ref gx_STILL))) (gr_STILL : rdV K 9 (.ref gx_STILL) = some stD)
    : ∃ fd : FuncData, (∀ (s : Shared) (v : Value), BindsTo s fd ⟨[v], []⟩ [("script", v)]) ∧ ∀ base : Heap, K.In base → base.Ns mainGlobals mg → FnG l.prog w K mg base 10 fa fd ["script"] (sp_law K) := by
  have e := hfa.symm.trans (PySem.W.mg_of X G a71)
  cases e
  have T : Blt mg := ⟨PySem.W.mg_none_of X G z_len, PySem.W.mg_none_of X G z_int, PySem.W.mg_none_of X G z_abs, PySem.W.mg_none_of X G z_max, PySem.W.mg_none_of X G z_min, PySem.W.mg_none_of X G z_range, PySem.W.mg_none_of X G z_isinstance, PySem.W.mg_none_of X G z_list, PySem.W.mg_none_of X G z_tuple, PySem.W.mg_none_of X G z_bool, PySem.W.mg_none_of X G z_str, PySem.W.mg_none_of X G z_zip, PySem.W.mg_none_of X G z_enumerate, PySem.W.mg_none_of X G z_sum, PySem.W.mg_of X G g_gcd⟩
  refine ⟨PySem.W.fnOf "law" "law" (defArgs s_law) (defBody s_law) (defScope s_law) .none kV71 dc71 pm71 an71 cd71 ct71, fun s v => .of_eq rfl, fun base _ _ => ?_⟩
  have TB_all := PySem.W.mg_none_of X G z_all
  have TB_any := PySem.W.mg_none_of X G z_any
  have TB_repr := PySem.W.mg_none_of X G z_repr
  have GT_STILL : GMD K mg "STILL" stD := gd_of (PySem.W.mg_of X G gg_STILL) gr_STILL
  have EC : EF K mg ⟨x_SpaceError, x_TextFault, x_RunFault, x_BadRow, x_ZeroDenominator, x_NoNormal, x_InLine, x_Flat, x_BadPolygon, x_Singular, x_NoDirection, x_BadPath, x_TooLarge, x_BadOrder, x_Unbounded, x_NoParting, x_NothingToUndo⟩ := ⟨(PySem.W.mg_of X G gx_SpaceError), (PySem.W.mg_of X G gx_TextFault), (PySem.W.mg_of X G gx_RunFault), (PySem.W.mg_of X G gx_BadRow), (PySem.W.mg_of X G gx_ZeroDenominator), (PySem.W.mg_of X G gx_NoNormal), (PySem.W.mg_of X G gx_InLine), (PySem.W.mg_of X G gx_Flat), (PySem.W.mg_of X G gx_BadPolygon), (PySem.W.mg_of X G gx_Singular), (PySem.W.mg_of X G gx_NoDirection), (PySem.W.mg_of X G gx_BadPath), (PySem.W.mg_of X G gx_TooLarge), (PySem.W.mg_of X G gx_BadOrder), (PySem.W.mg_of X G gx_Unbounded), (PySem.W.mg_of X G gx_NoParting), (PySem.W.mg_of X G gx_NothingToUndo), fk_Singular, fe_Singular, fb_Singular, ft_Singular, ⟨xg_Singular, xk_Singular, fb_Singular, hd_Singular, xa_Singular, xn, xt, xm_Singular⟩, (PySem.W.exm_ref fb_SpaceError hd_SpaceError ft_SpaceError sx_Singular_SpaceError), (kit_ref hd_SpaceError ft_SpaceError sx_Singular_SpaceError nx_Singular_SpaceError), (kit_ref hd_TextFault ft_TextFault sx_Singular_TextFault nx_Singular_TextFault), (kit_ref hd_RunFault ft_RunFault sx_Singular_RunFault nx_Singular_RunFault), (kit_ref hd_BadRow ft_BadRow sx_Singular_BadRow nx_Singular_BadRow), (kit_ref hd_ZeroDenominator ft_ZeroDenominator sx_Singular_ZeroDenominator nx_Singular_ZeroDenominator), (kit_ref hd_NoNormal ft_NoNormal sx_Singular_NoNormal nx_Singular_NoNormal), (kit_ref hd_InLine ft_InLine sx_Singular_InLine nx_Singular_InLine), (kit_ref hd_Flat ft_Flat sx_Singular_Flat nx_Singular_Flat), (kit_ref hd_BadPolygon ft_BadPolygon sx_Singular_BadPolygon nx_Singular_BadPolygon), kit_self, (kit_ref hd_NoDirection ft_NoDirection sx_Singular_NoDirection nx_Singular_NoDirection), (kit_ref hd_BadPath ft_BadPath sx_Singular_BadPath nx_Singular_BadPath), (kit_ref hd_TooLarge ft_TooLarge sx_Singular_TooLarge nx_Singular_TooLarge), (kit_ref hd_BadOrder ft_BadOrder sx_Singular_BadOrder nx_Singular_BadOrder), (kit_ref hd_Unbounded ft_Unbounded sx_Singular_Unbounded nx_Singular_Unbounded), (kit_ref hd_NoParting ft_NoParting sx_Singular_NoParting nx_Singular_NoParting), (kit_ref hd_NothingToUndo ft_NothingToUndo sx_Singular_NothingToUndo nx_Singular_NothingToUndo), (kit_b (by decide +kernel) vx_Singular), (PySem.W.mg_none_of X G z_ValueError)⟩
  have C_is_integer : Cal l.prog w K mg base "is_integer" 1 ["value"] (sp_is_integer K) := ⟨⟨f0, _, ok_is_integer (funA_mk l0 c0) T, PySem.W.mg_of X G a0, k0, .all fun us hl => match us, hl with | [_], _ => rfl⟩⟩
  have bd1 : Binds K (PySem.W.fnOf "ratio" "ratio" (defArgs s_ratio) (defBody s_ratio) (defScope s_ratio) (.ref T1) kV1 dc1 pm1 an1 cd1 ct1) ["top", "bottom"] [] := fun s us X hl => by
    rw [List.append_nil] at hl ⊢
    obtain ⟨il⟩ := its1
    cases vT1 with
    | cons r q =>
      cases q
      refine BindsTo.of_looks fun M => ?_
      match us, hl with
      | [_, _], _ => exact looks_items X lT1 dT1 (.of_pure rfl)
  have C_ratio : Cal l.prog w K mg base "ratio" 1 ["top", "bottom"] (sp_ratio K) := ⟨⟨f1, _, ok_ratio (funA_mk l1 c1) T, PySem.W.mg_of X G a1, k1, bd1⟩⟩
  have C_as_ratio : Cal l.prog w K mg base "as_ratio" 1 ["number"] (sp_as_ratio K) := ⟨⟨f3, _, ok_as_ratio (funA_mk l3 c3) T, PySem.W.mg_of X G a3, k3, .all fun us hl => match us, hl with | [_], _ => rfl⟩⟩
  have C_integer_sign : Cal l.prog w K mg base "integer_sign" 1 ["number"] (sp_integer_sign K) := ⟨⟨f7, _, ok_integer_sign (funA_mk l7 c7) T, PySem.W.mg_of X G a7, k7, .all fun us hl => match us, hl with | [_], _ => rfl⟩⟩
  have C_shift_by : Cal l.prog w K mg base "shift_by" 1 ["step"] (sp_shift_by K) := ⟨⟨f19, _, ok_shift_by (funA_mk l19 c19) T GT_STILL, PySem.W.mg_of X G a19, k19, .all fun us hl => match us, hl with | [_], _ => rfl⟩⟩
  have C__law_mix : Cal l.prog w K mg base "_law_mix" 1 ["one", "two"] (sp__law_mix K) := ⟨⟨f29, _, ok__law_mix (funA_mk l29 c29) T, PySem.W.mg_of X G a29, k29, .all fun us hl => match us, hl with | [_, _], _ => rfl⟩⟩
  have C__law_gcd : Cal l.prog w K mg base "_law_gcd" 1 ["one", "two"] (sp__law_gcd K) := ⟨⟨f34, _, ok__law_gcd (funA_mk l34 c34) T, PySem.W.mg_of X G a34, k34, .all fun us hl => match us, hl with | [_, _], _ => rfl⟩⟩
  have C__law_is_integer : Cal l.prog w K mg base "_law_is_integer" 1 ["value"] (sp__law_is_integer K) := ⟨⟨f41, _, ok__law_is_integer (funA_mk l41 c41) T, PySem.W.mg_of X G a41, k41, .all fun us hl => match us, hl with | [_], _ => rfl⟩⟩
  have C__law_is_integer_V_P : Cal l.prog w K mg base "_law_is_integer" 1 ["value"] (sp__law_is_integer_V_P K) := ⟨⟨f41, _, ok__law_is_integer_V_P (funA_mk l41 c41) T, PySem.W.mg_of X G a41, k41, .all fun us hl => match us, hl with | [_], _ => rfl⟩⟩
  have C__law_whole_vector : Cal l.prog w K mg base "_law_whole_vector" 1 ["a", "b", "c"] (sp__law_whole_vector K) := ⟨⟨f53, _, ok__law_whole_vector (funA_mk l53 c53) T, PySem.W.mg_of X G a53, k53, .all fun us hl => match us, hl with | [_, _, _], _ => rfl⟩⟩
  have CE__law_only_Singular : CalE l.prog w K mg base x_Singular "_law_only" 1 ["e"] (sp__law_only_E_Singular K ⟨x_SpaceError, x_TextFault, x_RunFault, x_BadRow, x_ZeroDenominator, x_NoNormal, x_InLine, x_Flat, x_BadPolygon, x_Singular, x_NoDirection, x_BadPath, x_TooLarge, x_BadOrder, x_Unbounded, x_NoParting, x_NothingToUndo⟩) := ⟨⟨f61, _, ok__law_only_E_Singular (funA_mk l61 c61) T EC, PySem.W.mg_of X G a61, k61, .all fun us hl => match us, hl with | [_], _ => rfl⟩⟩
  have C__law_turned : Cal l.prog w K mg base "_law_turned" 1 ["at", "p"] (sp__law_turned K) := ⟨⟨f65, _, ok__law_turned (funA_mk l65 c65) T, PySem.W.mg_of X G a65, k65, .all fun us hl => match us, hl with | [_, _], _ => rfl⟩⟩
  have C_is_ratio : Cal l.prog w K mg base "is_ratio" 2 ["value"] (sp_is_ratio K) := ⟨⟨f2, _, ok_is_ratio (funA_mk l2 c2) T C_is_integer, PySem.W.mg_of X G a2, k2, .all fun us hl => match us, hl with | [_], _ => rfl⟩⟩
  have C_add : Cal l.prog w K mg base "add" 2 ["x", "y"] (sp_add K) := ⟨⟨f4, _, ok_add (funA_mk l4 c4) T C_ratio, PySem.W.mg_of X G a4, k4, .all fun us hl => match us, hl with | [_, _], _ => rfl⟩⟩
  have C_subtract : Cal l.prog w K mg base "subtract" 2 ["x", "y"] (sp_subtract K) := ⟨⟨f5, _, ok_subtract (funA_mk l5 c5) T C_ratio, PySem.W.mg_of X G a5, k5, .all fun us hl => match us, hl with | [_, _], _ => rfl⟩⟩
  have C_multiply : Cal l.prog w K mg base "multiply" 2 ["x", "y"] (sp_multiply K) := ⟨⟨f6, _, ok_multiply (funA_mk l6 c6) T C_ratio, PySem.W.mg_of X G a6, k6, .all fun us hl => match us, hl with | [_, _], _ => rfl⟩⟩
  have C_sign : Cal l.prog w K mg base "sign" 2 ["x"] (sp_sign K) := ⟨⟨f8, _, ok_sign (funA_mk l8 c8) T C_integer_sign, PySem.W.mg_of X G a8, k8, .all fun us hl => match us, hl with | [_], _ => rfl⟩⟩
  have C_vector : Cal l.prog w K mg base "vector" 2 ["x", "y", "z"] (sp_vector K) := ⟨⟨f9, _, ok_vector (funA_mk l9 c9) T C_as_ratio, PySem.W.mg_of X G a9, k9, .all fun us hl => match us, hl with | [_, _, _], _ => rfl⟩⟩
  have C__law_store : Cal l.prog w K mg base "_law_store" 2 ["script"] (sp__law_store K) := ⟨⟨f30, _, ok__law_store (funA_mk l30 c30) T C__law_mix, PySem.W.mg_of X G a30, k30, .all fun us hl => match us, hl with | [_], _ => rfl⟩⟩
  have C__law_take : Cal l.prog w K mg base "_law_take" 2 ["store", "many"] (sp__law_take K) := ⟨⟨f31, _, ok__law_take (funA_mk l31 c31) T C__law_mix, PySem.W.mg_of X G a31, k31, .all fun us hl => match us, hl with | [_, _], _ => rfl⟩⟩
  have C__law_frac : Cal l.prog w K mg base "_law_frac" 2 ["top", "bottom"] (sp__law_frac K) := ⟨⟨f35, _, ok__law_frac (funA_mk l35 c35) T C__law_gcd, PySem.W.mg_of X G a35, k35, .all fun us hl => match us, hl with | [_, _], _ => rfl⟩⟩
  have C__law_is_ratio : Cal l.prog w K mg base "_law_is_ratio" 2 ["value"] (sp__law_is_ratio K) := ⟨⟨f50, _, ok__law_is_ratio (funA_mk l50 c50) T C__law_is_integer_V_P C__law_gcd, PySem.W.mg_of X G a50, k50, .all fun us hl => match us, hl with | [_], _ => rfl⟩⟩
  have C__law_turn_rows : Cal l.prog w K mg base "_law_turn_rows" 2 ["at"] (sp__law_turn_rows K) := ⟨⟨f54, _, ok__law_turn_rows (funA_mk l54 c54) T C__law_whole_vector, PySem.W.mg_of X G a54, k54, .all fun us hl => match us, hl with | [_], _ => rfl⟩⟩
  have C__law_turns : Cal l.prog w K mg base "_law_turns" 2 ["at", "many"] (sp__law_turns K) := ⟨⟨f66, _, ok__law_turns (funA_mk l66 c66) T C__law_whole_vector C__law_turned, PySem.W.mg_of X G a66, k66, .all fun us hl => match us, hl with | [_, _], _ => rfl⟩⟩
  have C__law_scaled : Cal l.prog w K mg base "_law_scaled" 2 ["factors"] (sp__law_scaled K) := ⟨⟨f67, _, ok__law_scaled (funA_mk l67 c67) T C__law_whole_vector, PySem.W.mg_of X G a67, k67, .all fun us hl => match us, hl with | [_], _ => rfl⟩⟩
  have C_is_vector : Cal l.prog w K mg base "is_vector" 3 ["value"] (sp_is_vector K) := ⟨⟨f10, _, ok_is_vector (funA_mk l10 c10) T C_is_ratio TB_all, PySem.W.mg_of X G a10, k10, .all fun us hl => match us, hl with | [_], _ => rfl⟩⟩
  have C_plus : Cal l.prog w K mg base "plus" 3 ["u", "v"] (sp_plus K) := ⟨⟨f11, _, ok_plus (funA_mk l11 c11) T C_add, PySem.W.mg_of X G a11, k11, .all fun us hl => match us, hl with | [_, _], _ => rfl⟩⟩
  have C_scaled : Cal l.prog w K mg base "scaled" 3 ["factor", "v"] (sp_scaled K) := ⟨⟨f12, _, ok_scaled (funA_mk l12 c12) T C_multiply, PySem.W.mg_of X G a12, k12, .all fun us hl => match us, hl with | [_, _], _ => rfl⟩⟩
  have C_dot : Cal l.prog w K mg base "dot" 3 ["u", "v"] (sp_dot K) := ⟨⟨f13, _, ok_dot (funA_mk l13 c13) T C_add C_multiply, PySem.W.mg_of X G a13, k13, .all fun us hl => match us, hl with | [_, _], _ => rfl⟩⟩
  have C_cross : Cal l.prog w K mg base "cross" 3 ["u", "v"] (sp_cross K) := ⟨⟨f14, _, ok_cross (funA_mk l14 c14) T C_subtract C_multiply, PySem.W.mg_of X G a14, k14, .all fun us hl => match us, hl with | [_, _], _ => rfl⟩⟩
  have C_axis_vector : Cal l.prog w K mg base "axis_vector" 3 ["axis"] (sp_axis_vector K) := ⟨⟨f16, _, ok_axis_vector (funA_mk l16 c16) T C_vector, PySem.W.mg_of X G a16, k16, .all fun us hl => match us, hl with | [_], _ => rfl⟩⟩
  have C__law_pick : Cal l.prog w K mg base "_law_pick" 3 ["store", "items"] (sp__law_pick K) := ⟨⟨f32, _, ok__law_pick (funA_mk l32 c32) T C__law_take, PySem.W.mg_of X G a32, k32, .all fun us hl => match us, hl with | [_, _], _ => rfl⟩⟩
  have C__law_wide : Cal l.prog w K mg base "_law_wide" 3 ["store", "many"] (sp__law_wide K) := ⟨⟨f33, _, ok__law_wide (funA_mk l33 c33) T C__law_take, PySem.W.mg_of X G a33, k33, .all fun us hl => match us, hl with | [_, _], _ => rfl⟩⟩
  have C__law_radd : Cal l.prog w K mg base "_law_radd" 3 ["x", "y"] (sp__law_radd K) := ⟨⟨f36, _, ok__law_radd (funA_mk l36 c36) T C__law_frac, PySem.W.mg_of X G a36, k36, .all fun us hl => match us, hl with | [_, _], _ => rfl⟩⟩
  have C__law_rsub : Cal l.prog w K mg base "_law_rsub" 3 ["x", "y"] (sp__law_rsub K) := ⟨⟨f37, _, ok__law_rsub (funA_mk l37 c37) T C__law_frac, PySem.W.mg_of X G a37, k37, .all fun us hl => match us, hl with | [_, _], _ => rfl⟩⟩
  have C__law_rmul : Cal l.prog w K mg base "_law_rmul" 3 ["x", "y"] (sp__law_rmul K) := ⟨⟨f38, _, ok__law_rmul (funA_mk l38 c38) T C__law_frac, PySem.W.mg_of X G a38, k38, .all fun us hl => match us, hl with | [_, _], _ => rfl⟩⟩
  have C__law_ratio : Cal l.prog w K mg base "_law_ratio" 3 ["store"] (sp__law_ratio K) := ⟨⟨f39, _, ok__law_ratio (funA_mk l39 c39) T C__law_take C__law_frac, PySem.W.mg_of X G a39, k39, .all fun us hl => match us, hl with | [_], _ => rfl⟩⟩
  have C__law_number : Cal l.prog w K mg base "_law_number" 3 ["store", "x"] (sp__law_number K) := ⟨⟨f40, _, ok__law_number (funA_mk l40 c40) T C__law_take, PySem.W.mg_of X G a40, k40, .all fun us hl => match us, hl with | [_, _], _ => rfl⟩⟩
  have C__law_is_vector : Cal l.prog w K mg base "_law_is_vector" 3 ["value"] (sp__law_is_vector K) := ⟨⟨f51, _, ok__law_is_vector (funA_mk l51 c51) T C__law_is_ratio, PySem.W.mg_of X G a51, k51, .all fun us hl => match us, hl with | [_], _ => rfl⟩⟩
  have C__law_either : Cal l.prog w K mg base "_law_either" 3 ["store", "parts"] (sp__law_either K) := ⟨⟨f64, _, ok__law_either (funA_mk l64 c64) T C__law_take, PySem.W.mg_of X G a64, k64, .all fun us hl => match us, hl with | [_, _], _ => rfl⟩⟩
  have C_triple : Cal l.prog w K mg base "triple" 4 ["u", "v", "w"] (sp_triple K) := ⟨⟨f15, _, ok_triple (funA_mk l15 c15) T C_dot C_cross, PySem.W.mg_of X G a15, k15, .all fun us hl => match us, hl with | [_, _, _], _ => rfl⟩⟩
  have C_scale_by : Cal l.prog w K mg base "scale_by" 4 ["factors"] (sp_scale_by K) := ⟨⟨f20, _, ok_scale_by (funA_mk l20 c20) T C_scaled C_sign C_axis_vector TB_any GT_STILL, PySem.W.mg_of X G a20, k20, .all fun us hl => match us, hl with | [_], _ => rfl⟩⟩
  have CX_scale_by_X : CalX l.prog w K mg base "scale_by" 4 ["factors"] (sp_scale_by_X K ⟨x_SpaceError, x_TextFault, x_RunFault, x_BadRow, x_ZeroDenominator, x_NoNormal, x_InLine, x_Flat, x_BadPolygon, x_Singular, x_NoDirection, x_BadPath, x_TooLarge, x_BadOrder, x_Unbounded, x_NoParting, x_NothingToUndo⟩) := ⟨⟨f20, _, ok_scale_by_X (funA_mk l20 c20) T EC C_scaled C_sign C_axis_vector TB_any GT_STILL, PySem.W.mg_of X G a20, k20, .all fun us hl => match us, hl with | [_], _ => rfl⟩⟩
  have C_one_turn : Cal l.prog w K mg base "one_turn" 4 ["axis"] (sp_one_turn K) := ⟨⟨f22, _, ok_one_turn (funA_mk l22 c22) T C_scaled C_axis_vector GT_STILL, PySem.W.mg_of X G a22, k22, .all fun us hl => match us, hl with | [_], _ => rfl⟩⟩
  have C_moved_vector : Cal l.prog w K mg base "moved_vector" 4 ["move", "direction"] (sp_moved_vector K) := ⟨⟨f25, _, ok_moved_vector (funA_mk l25 c25) T C_dot, PySem.W.mg_of X G a25, k25, .all fun us hl => match us, hl with | [_, _], _ => rfl⟩⟩
  have C__law_vadd : Cal l.prog w K mg base "_law_vadd" 4 ["u", "v"] (sp__law_vadd K) := ⟨⟨f45, _, ok__law_vadd (funA_mk l45 c45) T C__law_radd, PySem.W.mg_of X G a45, k45, .all fun us hl => match us, hl with | [_, _], _ => rfl⟩⟩
  have C__law_vmul : Cal l.prog w K mg base "_law_vmul" 4 ["t", "v"] (sp__law_vmul K) := ⟨⟨f46, _, ok__law_vmul (funA_mk l46 c46) T C__law_rmul, PySem.W.mg_of X G a46, k46, .all fun us hl => match us, hl with | [_, _], _ => rfl⟩⟩
  have C__law_vdot : Cal l.prog w K mg base "_law_vdot" 4 ["u", "v"] (sp__law_vdot K) := ⟨⟨f47, _, ok__law_vdot (funA_mk l47 c47) T C__law_radd C__law_rmul, PySem.W.mg_of X G a47, k47, .all fun us hl => match us, hl with | [_, _], _ => rfl⟩⟩
  have C__law_vcross : Cal l.prog w K mg base "_law_vcross" 4 ["u", "v"] (sp__law_vcross K) := ⟨⟨f48, _, ok__law_vcross (funA_mk l48 c48) T C__law_rsub C__law_rmul, PySem.W.mg_of X G a48, k48, .all fun us hl => match us, hl with | [_, _], _ => rfl⟩⟩
  have C__law_point : Cal l.prog w K mg base "_law_point" 4 ["store"] (sp__law_point K) := ⟨⟨f49, _, ok__law_point (funA_mk l49 c49) T C__law_take C__law_ratio, PySem.W.mg_of X G a49, k49, .all fun us hl => match us, hl with | [_], _ => rfl⟩⟩
  have C__law_matrix : Cal l.prog w K mg base "_law_matrix" 4 ["store"] (sp__law_matrix K) := ⟨⟨f55, _, ok__law_matrix (funA_mk l55 c55) T C__law_take C__law_turn_rows C__law_whole_vector C__law_pick, PySem.W.mg_of X G a55, k55, .all fun us hl => match us, hl with | [_], _ => rfl⟩⟩
  have C__law_great : Cal l.prog w K mg base "_law_great" 4 ["store"] (sp__law_great K) := ⟨⟨f63, _, ok__law_great (funA_mk l63 c63) T C__law_wide C__law_frac C__law_take, PySem.W.mg_of X G a63, k63, .all fun us hl => match us, hl with | [_], _ => rfl⟩⟩
  have C__law_bent : Cal l.prog w K mg base "_law_bent" 4 ["store", "move"] (sp__law_bent K) := ⟨⟨f68, _, ok__law_bent (funA_mk l68 c68) T C__law_take C__law_pick, PySem.W.mg_of X G a68, k68, .all fun us hl => match us, hl with | [_, _], _ => rfl⟩⟩
  have C_make_move : Cal l.prog w K mg base "make_move" 5 ["rows", "shift"] (sp_make_move K) := ⟨⟨f17, _, ok_make_move (funA_mk l17 c17) T C_vector C_triple, PySem.W.mg_of X G a17, k17, .all fun us hl => match us, hl with | [_, _], _ => rfl⟩⟩
  have CX_make_move_X : CalX l.prog w K mg base "make_move" 5 ["rows", "shift"] (sp_make_move_X K ⟨x_SpaceError, x_TextFault, x_RunFault, x_BadRow, x_ZeroDenominator, x_NoNormal, x_InLine, x_Flat, x_BadPolygon, x_Singular, x_NoDirection, x_BadPath, x_TooLarge, x_BadOrder, x_Unbounded, x_NoParting, x_NothingToUndo⟩) := ⟨⟨f17, _, ok_make_move_X (funA_mk l17 c17) T EC C_vector C_triple, PySem.W.mg_of X G a17, k17, .all fun us hl => match us, hl with | [_, _], _ => rfl⟩⟩
  have C_is_move : Cal l.prog w K mg base "is_move" 5 ["value"] (sp_is_move K) := ⟨⟨f18, _, ok_is_move (funA_mk l18 c18) T C_is_vector C_triple TB_all, PySem.W.mg_of X G a18, k18, .all fun us hl => match us, hl with | [_], _ => rfl⟩⟩
  have C_mirror_axis : Cal l.prog w K mg base "mirror_axis" 5 ["axis"] (sp_mirror_axis K) := ⟨⟨f21, _, ok_mirror_axis (funA_mk l21 c21) T C_scale_by, PySem.W.mg_of X G a21, k21, .all fun us hl => match us, hl with | [_], _ => rfl⟩⟩
  have C_moved_point : Cal l.prog w K mg base "moved_point" 5 ["move", "point"] (sp_moved_point K) := ⟨⟨f24, _, ok_moved_point (funA_mk l24 c24) T C_plus C_moved_vector, PySem.W.mg_of X G a24, k24, .all fun us hl => match us, hl with | [_, _], _ => rfl⟩⟩
  have C_determinant : Cal l.prog w K mg base "determinant" 5 ["move"] (sp_determinant K) := ⟨⟨f27, _, ok_determinant (funA_mk l27 c27) T C_triple, PySem.W.mg_of X G a27, k27, .all fun us hl => match us, hl with | [_], _ => rfl⟩⟩
  have C__law_is_move : Cal l.prog w K mg base "_law_is_move" 5 ["value"] (sp__law_is_move K) := ⟨⟨f52, _, ok__law_is_move (funA_mk l52 c52) T C__law_is_vector C__law_vdot C__law_vcross, PySem.W.mg_of X G a52, k52, .all fun us hl => match us, hl with | [_], _ => rfl⟩⟩
  have C__law_move : Cal l.prog w K mg base "_law_move" 5 ["store"] (sp__law_move K) := ⟨⟨f56, _, ok__law_move (funA_mk l56 c56) T C__law_matrix C__law_take C__law_point C__law_whole_vector, PySem.W.mg_of X G a56, k56, .all fun us hl => match us, hl with | [_], _ => rfl⟩⟩
  have C__law_singular : Cal l.prog w K mg base "_law_singular" 5 ["store"] (sp__law_singular K) := ⟨⟨f57, _, ok__law_singular (funA_mk l57 c57) T C__law_take C__law_vmul C__law_vadd C__law_matrix, PySem.W.mg_of X G a57, k57, .all fun us hl => match us, hl with | [_], _ => rfl⟩⟩
  have C__law_moved_vector : Cal l.prog w K mg base "_law_moved_vector" 5 ["move", "v"] (sp__law_moved_vector K) := ⟨⟨f58, _, ok__law_moved_vector (funA_mk l58 c58) T C__law_vdot, PySem.W.mg_of X G a58, k58, .all fun us hl => match us, hl with | [_, _], _ => rfl⟩⟩
  have C__law_det : Cal l.prog w K mg base "_law_det" 5 ["move"] (sp__law_det K) := ⟨⟨f60, _, ok__law_det (funA_mk l60 c60) T C__law_vdot C__law_vcross, PySem.W.mg_of X G a60, k60, .all fun us hl => match us, hl with | [_], _ => rfl⟩⟩
  have C_combine : Cal l.prog w K mg base "combine" 6 ["first", "second"] (sp_combine K) := ⟨⟨f26, _, ok_combine (funA_mk l26 c26) T C_plus C_moved_point C_scaled, PySem.W.mg_of X G a26, k26, .all fun us hl => match us, hl with | [_, _], _ => rfl⟩⟩
  have C_mirrors : Cal l.prog w K mg base "mirrors" 6 ["move"] (sp_mirrors K) := ⟨⟨f28, _, ok_mirrors (funA_mk l28 c28) T C_sign C_determinant, PySem.W.mg_of X G a28, k28, .all fun us hl => match us, hl with | [_], _ => rfl⟩⟩
  have C__law_moved : Cal l.prog w K mg base "_law_moved" 6 ["move", "p"] (sp__law_moved K) := ⟨⟨f59, _, ok__law_moved (funA_mk l59 c59) T C__law_vadd C__law_moved_vector, PySem.W.mg_of X G a59, k59, .all fun us hl => match us, hl with | [_, _], _ => rfl⟩⟩
  have C__law_refused : Cal l.prog w K mg base "_law_refused" 6 ["rows", "shift", "factors"] (sp__law_refused K) := ⟨⟨f62, _, ok__law_refused (funA_mk l62 c62) T EC CX_make_move_X CX_scale_by_X CE__law_only_Singular, PySem.W.mg_of X G a62, k62, .all fun us hl => match us, hl with | [_, _, _], _ => rfl⟩⟩
  have C__law_refused_V_B : Cal l.prog w K mg base "_law_refused" 6 ["rows", "shift", "factors"] (sp__law_refused_V_B K) := ⟨⟨f62, _, ok__law_refused_V_B (funA_mk l62 c62) T EC CX_make_move_X CX_scale_by_X CE__law_only_Singular, PySem.W.mg_of X G a62, k62, .all fun us hl => match us, hl with | [_, _, _], _ => rfl⟩⟩
  have bd23 : Binds K (PySem.W.fnOf "quarter_turn" "quarter_turn" (defArgs s_quarter_turn) (defBody s_quarter_turn) (defScope s_quarter_turn) (.ref T23) kV23 dc23 pm23 an23 cd23 ct23) ["axis", "times"] [] := fun s us X hl => by
    rw [List.append_nil] at hl ⊢
    obtain ⟨il⟩ := its23
    cases vT23 with
    | cons r q =>
      cases q
      refine BindsTo.of_looks fun M => ?_
      match us, hl with
      | [_, _], _ => exact looks_items X lT23 dT23 (.of_pure rfl)
  have C_quarter_turn : Cal l.prog w K mg base "quarter_turn" 7 ["axis", "times"] (sp_quarter_turn K) := ⟨⟨f23, _, ok_quarter_turn (funA_mk l23 c23) T C_combine C_one_turn GT_STILL, PySem.W.mg_of X G a23, k23, bd23⟩⟩
  have KC_quarter_turn_1 : KCal l.prog w K mg base "quarter_turn" 7 ["axis", "times"] (sp_quarter_turn K) 1 [] (pkV [0, 1] [.int 1]) := by
    obtain ⟨il⟩ := its23
    cases vT23 with
    | cons r q =>
      cases q
      exact ⟨⟨f23, _, ok_quarter_turn (funA_mk l23 c23) T C_combine C_one_turn GT_STILL, PySem.W.mg_of X G a23, k23, pkU [0, 1] [_], fun s us ws X l1 l2 => match us, ws, l1, l2 with | [_], [], _, _ => BindsTo.of_looks fun M => looks_items X lT23 dT23 (.of_pure rfl), fun r1 r2 => pk_rel (.cons r .nil) r1 r2 _⟩⟩
  have KC_quarter_turn_1_times : KCal l.prog w K mg base "quarter_turn" 7 ["axis", "times"] (sp_quarter_turn K) 1 ["times"] (pkV [0, 1] [.int 1]) := by
    obtain ⟨il⟩ := its23
    cases vT23 with
    | cons r q =>
      cases q
      exact ⟨⟨f23, _, ok_quarter_turn (funA_mk l23 c23) T C_combine C_one_turn GT_STILL, PySem.W.mg_of X G a23, k23, pkU [0, 1] [_], fun s us ws X l1 l2 => match us, ws, l1, l2 with | [_], [_], _, _ => BindsTo.of_looks fun M => looks_items X lT23 dT23 (.of_pure rfl), fun r1 r2 => pk_rel (.cons r .nil) r1 r2 _⟩⟩
  have R0__law_inner : Cal l.prog w K mg base "_law_inner" 1 ["value"] (sp__law_inner K 0) := ⟨⟨f43, PySem.W.fnOf "_law_inner" "_law_inner" (defArgs s__law_inner) (defBody s__law_inner) (defScope s__law_inner) .none kV43 dc43 pm43 an43 cd43 ct43, ⟨fun vs H Q E h => (sp0__law_inner h).elim, fun _ _ _ _ _ _ _ _ _ _ _ _ _ h => (sp0__law_inner h).elim⟩, PySem.W.mg_of X G a43, k43, .all fun us hl => match us, hl with | [_], _ => rfl⟩⟩
  have R1__law_inner : Cal l.prog w K mg base "_law_inner" 2 ["value"] (sp__law_inner K 1) := ⟨⟨f43, _, ok__law_inner (funA_mk l43 c43) T (by decide) R0__law_inner, PySem.W.mg_of X G a43, k43, .all fun us hl => match us, hl with | [_], _ => rfl⟩⟩
  have R2__law_inner : Cal l.prog w K mg base "_law_inner" 3 ["value"] (sp__law_inner K 2) := ⟨⟨f43, _, ok__law_inner (funA_mk l43 c43) T (by decide) R1__law_inner, PySem.W.mg_of X G a43, k43, .all fun us hl => match us, hl with | [_], _ => rfl⟩⟩
  have R3__law_inner : Cal l.prog w K mg base "_law_inner" 4 ["value"] (sp__law_inner K 3) := ⟨⟨f43, _, ok__law_inner (funA_mk l43 c43) T (by decide) R2__law_inner, PySem.W.mg_of X G a43, k43, .all fun us hl => match us, hl with | [_], _ => rfl⟩⟩
  have R4__law_inner : Cal l.prog w K mg base "_law_inner" 5 ["value"] (sp__law_inner K 4) := ⟨⟨f43, _, ok__law_inner (funA_mk l43 c43) T (by decide) R3__law_inner, PySem.W.mg_of X G a43, k43, .all fun us hl => match us, hl with | [_], _ => rfl⟩⟩
  have R5__law_inner : Cal l.prog w K mg base "_law_inner" 6 ["value"] (sp__law_inner K 5) := ⟨⟨f43, _, ok__law_inner (funA_mk l43 c43) T (by decide) R4__law_inner, PySem.W.mg_of X G a43, k43, .all fun us hl => match us, hl with | [_], _ => rfl⟩⟩
  have R6__law_inner : Cal l.prog w K mg base "_law_inner" 7 ["value"] (sp__law_inner K 6) := ⟨⟨f43, _, ok__law_inner (funA_mk l43 c43) T (by decide) R5__law_inner, PySem.W.mg_of X G a43, k43, .all fun us hl => match us, hl with | [_], _ => rfl⟩⟩
  have C__law_inner := R6__law_inner
  have R0__law_same : Cal l.prog w K mg base "_law_same" 2 ["actual", "due"] (sp__law_same K 0) := ⟨⟨f42, PySem.W.fnOf "_law_same" "_law_same" (defArgs s__law_same) (defBody s__law_same) (defScope s__law_same) .none kV42 dc42 pm42 an42 cd42 ct42, ⟨fun vs H Q E h => (sp0__law_same h).elim, fun _ _ _ _ _ _ _ _ _ _ _ _ _ h => (sp0__law_same h).elim⟩, PySem.W.mg_of X G a42, k42, .all fun us hl => match us, hl with | [_, _], _ => rfl⟩⟩
  have R1__law_same : Cal l.prog w K mg base "_law_same" 3 ["actual", "due"] (sp__law_same K 1) := ⟨⟨f42, _, ok__law_same (funA_mk l42 c42) T C__law_is_integer (by decide) R0__law_same, PySem.W.mg_of X G a42, k42, .all fun us hl => match us, hl with | [_, _], _ => rfl⟩⟩
  have R2__law_same : Cal l.prog w K mg base "_law_same" 4 ["actual", "due"] (sp__law_same K 2) := ⟨⟨f42, _, ok__law_same (funA_mk l42 c42) T C__law_is_integer (by decide) R1__law_same, PySem.W.mg_of X G a42, k42, .all fun us hl => match us, hl with | [_, _], _ => rfl⟩⟩
  have R3__law_same : Cal l.prog w K mg base "_law_same" 5 ["actual", "due"] (sp__law_same K 3) := ⟨⟨f42, _, ok__law_same (funA_mk l42 c42) T C__law_is_integer (by decide) R2__law_same, PySem.W.mg_of X G a42, k42, .all fun us hl => match us, hl with | [_, _], _ => rfl⟩⟩
  have R4__law_same : Cal l.prog w K mg base "_law_same" 6 ["actual", "due"] (sp__law_same K 4) := ⟨⟨f42, _, ok__law_same (funA_mk l42 c42) T C__law_is_integer (by decide) R3__law_same, PySem.W.mg_of X G a42, k42, .all fun us hl => match us, hl with | [_, _], _ => rfl⟩⟩
  have R5__law_same : Cal l.prog w K mg base "_law_same" 7 ["actual", "due"] (sp__law_same K 5) := ⟨⟨f42, _, ok__law_same (funA_mk l42 c42) T C__law_is_integer (by decide) R4__law_same, PySem.W.mg_of X G a42, k42, .all fun us hl => match us, hl with | [_, _], _ => rfl⟩⟩
  have R6__law_same : Cal l.prog w K mg base "_law_same" 8 ["actual", "due"] (sp__law_same K 6) := ⟨⟨f42, _, ok__law_same (funA_mk l42 c42) T C__law_is_integer (by decide) R5__law_same, PySem.W.mg_of X G a42, k42, .all fun us hl => match us, hl with | [_, _], _ => rfl⟩⟩
  have C__law_same := R6__law_same
  have C__law_spoil : Cal l.prog w K mg base "_law_spoil" 8 ["value"] (sp__law_spoil K) := ⟨⟨f44, _, ok__law_spoil (funA_mk l44 c44) T C__law_inner, PySem.W.mg_of X G a44, k44, .all fun us hl => match us, hl with | [_], _ => rfl⟩⟩
  have C__law_made_right : CalG l.prog w K mg base "_law_made_right" 9 ["store", "rows", "shift"] (sp__law_made_right K) := ⟨⟨f69, _, ok__law_made_right (funA_mk l69 c69) T C__law_either C_make_move C__law_spoil C__law_det C__law_same C__law_take C__law_number C__law_refused C__law_point C__law_great C_moved_point C__law_moved C_moved_vector C__law_moved_vector C_determinant C_mirrors TB_repr, PySem.W.mg_of X G a69, k69, .all fun us hl => match us, hl with | [_, _, _], _ => rfl⟩⟩
  have C__law_named_right : Cal l.prog w K mg base "_law_named_right" 9 ["store"] (sp__law_named_right K) := ⟨⟨f70, _, ok__law_named_right (funA_mk l70 c70) T C__law_turns C__law_take C__law_refused_V_B C__law_same C__law_pick C__law_point C__law_great C_quarter_turn C_scale_by C__law_scaled C_shift_by C_mirror_axis GT_STILL KC_quarter_turn_1 KC_quarter_turn_1_times, PySem.W.mg_of X G a70, k70, .all fun us hl => match us, hl with | [_], _ => rfl⟩⟩
  exact ok_law (funA_mk l71 c71) T C__law_store C__law_move C__law_great C__law_made_right C__law_take C__law_bent C__law_same C__law_named_right C__law_singular C_is_move C_mirrors C__law_is_move C__law_det
in #guard_msgs in universe u_z
set_option Elab.async true in
theorem walk {l : PySem.W.OpenLaw} {q : Program} {loose : List Str} {XP : (Str → Option Value) → Heap → Prop} {YP : World → Heap → Prop} {d : DefRec} {K : Params → PySem.W.Frag} (hn : l.most = some 63) (hdf : d.params.defaults = [])
    (hY : ∀ (w : World) (h : Heap), YP w h → (K w.params).In h)
    (F : ∀ (w : World) (mg : Str → Option Value) (fa : Addr) (h : Heap), (K w.params).In h → h.Ns mainGlobals mg → mg d.name = some (.ref fa) →
      ∃ fd : FuncData, (∀ (s : Shared) (u : Value), BindsTo s fd ⟨[u], []⟩ [("script", u)]) ∧ ∀ base : Heap, (K w.params).In base → base.Ns mainGlobals mg → FnG l.prog w (K w.params) mg base 10 fa fd ["script"] (sp_law (K w.params))) :
    PySem.W.WalkO q loose XP YP l.row.toRowW d [] (fun f vs => PySem.call f vs) :=
  walk_ofG (n := 63) (k := 10) (x := "script") (sp := fun w => sp_law (K w.params)) hn (by decide) hdf ⟨rfl, by decide, by decide⟩ hY F (fun _ _ a ns hl hS => ⟨a, ns, rfl, hS, hl, fun _ => rfl⟩)
in #guard_msgs in universe u_z
end My
open PySem PySem.W PyProof.Rows in
set_option maxRecDepth 100000 in
set_option maxHeartbeats 0 in
theorem PySem.Challenge.cw_everypoint_k15_made_moves_holds : PySem.Challenge.rw_everypoint_k15_made_moves.Holds := by
  w_on; o_law; k_head; (case hw => w_witness2)
  k_fill
  refine My.walk (l := PySem.Challenge.rw_everypoint_k15_made_moves) rfl rfl (fun w h Y => PySem.W.kIn_of Y) ?F
  case F =>
    intro w mg fa h KX G hmg
    refine' My.all_mk KX G hmg ?a0 ?l0 ?c0 ?k0 ?a1 ?l1 ?c1 ?k1 ?lT1 ?dT1 ?vT1 ?a2 ?l2 ?c2 ?k2 ?a3 ?l3 ?c3 ?k3 ?a4 ?l4 ?c4 ?k4 ?a5 ?l5 ?c5 ?k5 ?a6 ?l6 ?c6 ?k6 ?a7 ?l7 ?c7 ?k7 ?a8 ?l8 ?c8 ?k8 ?a9 ?l9 ?c9 ?k9 ?a10 ?l10 ?c10 ?k10 ?a11 ?l11 ?c11 ?k11 ?a12 ?l12 ?c12 ?k12 ?a13 ?l13 ?c13 ?k13 ?a14 ?l14 ?c14 ?k14 ?a15 ?l15 ?c15 ?k15 ?a16 ?l16 ?c16 ?k16 ?a17 ?l17 ?c17 ?k17 ?a18 ?l18 ?c18 ?k18 ?a19 ?l19 ?c19 ?k19 ?a20 ?l20 ?c20 ?k20 ?a21 ?l21 ?c21 ?k21 ?a22 ?l22 ?c22 ?k22 ?a23 ?l23 ?c23 ?k23 ?lT23 ?dT23 ?vT23 ?a24 ?l24 ?c24 ?k24 ?a25 ?l25 ?c25 ?k25 ?a26 ?l26 ?c26 ?k26 ?a27 ?l27 ?c27 ?k27 ?a28 ?l28 ?c28 ?k28 ?a29 ?l29 ?c29 ?k29 ?a30 ?l30 ?c30 ?k30 ?a31 ?l31 ?c31 ?k31 ?a32 ?l32 ?c32 ?k32 ?a33 ?l33 ?c33 ?k33 ?a34 ?l34 ?c34 ?k34 ?a35 ?l35 ?c35 ?k35 ?a36 ?l36 ?c36 ?k36 ?a37 ?l37 ?c37 ?k37 ?a38 ?l38 ?c38 ?k38 ?a39 ?l39 ?c39 ?k39 ?a40 ?l40 ?c40 ?k40 ?a41 ?l41 ?c41 ?k41 ?a42 ?l42 ?c42 ?k42 ?a43 ?l43 ?c43 ?k43 ?a44 ?l44 ?c44 ?k44 ?a45 ?l45 ?c45 ?k45 ?a46 ?l46 ?c46 ?k46 ?a47 ?l47 ?c47 ?k47 ?a48 ?l48 ?c48 ?k48 ?a49 ?l49 ?c49 ?k49 ?a50 ?l50 ?c50 ?k50 ?a51 ?l51 ?c51 ?k51 ?a52 ?l52 ?c52 ?k52 ?a53 ?l53 ?c53 ?k53 ?a54 ?l54 ?c54 ?k54 ?a55 ?l55 ?c55 ?k55 ?a56 ?l56 ?c56 ?k56 ?a57 ?l57 ?c57 ?k57 ?a58 ?l58 ?c58 ?k58 ?a59 ?l59 ?c59 ?k59 ?a60 ?l60 ?c60 ?k60 ?a61 ?l61 ?c61 ?k61 ?a62 ?l62 ?c62 ?k62 ?a63 ?l63 ?c63 ?k63 ?a64 ?l64 ?c64 ?k64 ?a65 ?l65 ?c65 ?k65 ?a66 ?l66 ?c66 ?k66 ?a67 ?l67 ?c67 ?k67 ?a68 ?l68 ?c68 ?k68 ?a69 ?l69 ?c69 ?k69 ?a70 ?l70 ?c70 ?k70 ?a71 ?l71 ?c71 ?k71 ?z_len ?z_int ?z_abs ?z_max ?z_min ?z_range ?z_isinstance ?z_list ?z_tuple ?z_bool ?z_str ?z_zip ?z_enumerate ?z_sum ?g_gcd ?gx_SpaceError ?gx_TextFault ?gx_RunFault ?gx_BadRow ?gx_ZeroDenominator ?gx_NoNormal ?gx_InLine ?gx_Flat ?gx_BadPolygon ?gx_Singular ?gx_NoDirection ?gx_BadPath ?gx_TooLarge ?gx_BadOrder ?gx_Unbounded ?gx_NoParting ?gx_NothingToUndo ?fk_Singular ?fe_Singular ?fb_Singular ?ft_Singular ?xg_Singular ?xk_Singular ?hd_Singular ?xa_Singular ?xn ?xt ?xm_Singular ?fb_SpaceError ?hd_SpaceError ?ft_SpaceError ?sx_Singular_SpaceError ?nx_Singular_SpaceError ?hd_TextFault ?ft_TextFault ?sx_Singular_TextFault ?nx_Singular_TextFault ?hd_RunFault ?ft_RunFault ?sx_Singular_RunFault ?nx_Singular_RunFault ?hd_BadRow ?ft_BadRow ?sx_Singular_BadRow ?nx_Singular_BadRow ?hd_ZeroDenominator ?ft_ZeroDenominator ?sx_Singular_ZeroDenominator ?nx_Singular_ZeroDenominator ?hd_NoNormal ?ft_NoNormal ?sx_Singular_NoNormal ?nx_Singular_NoNormal ?hd_InLine ?ft_InLine ?sx_Singular_InLine ?nx_Singular_InLine ?hd_Flat ?ft_Flat ?sx_Singular_Flat ?nx_Singular_Flat ?hd_BadPolygon ?ft_BadPolygon ?sx_Singular_BadPolygon ?nx_Singular_BadPolygon ?hd_NoDirection ?ft_NoDirection ?sx_Singular_NoDirection ?nx_Singular_NoDirection ?hd_BadPath ?ft_BadPath ?sx_Singular_BadPath ?nx_Singular_BadPath ?hd_TooLarge ?ft_TooLarge ?sx_Singular_TooLarge ?nx_Singular_TooLarge ?hd_BadOrder ?ft_BadOrder ?sx_Singular_BadOrder ?nx_Singular_BadOrder ?hd_Unbounded ?ft_Unbounded ?sx_Singular_Unbounded ?nx_Singular_Unbounded ?hd_NoParting ?ft_NoParting ?sx_Singular_NoParting ?nx_Singular_NoParting ?hd_NothingToUndo ?ft_NothingToUndo ?sx_Singular_NothingToUndo ?nx_Singular_NothingToUndo ?vx_Singular ?z_ValueError ?z_all ?z_any ?z_repr ?gg_STILL ?gr_STILL
    (case a0 => k_is)
    (case l0 => k_is)
    (case c0 => k_is)
    (case k0 => k_is)
    (case a1 => k_is)
    (case l1 => k_is)
    (case c1 => k_is)
    (case k1 => k_is)
    (case lT1 => k_is)
    (case dT1 => rfl)
    (case vT1 => exact .cons ⟨_, rfl⟩ .nil)
    (case a2 => k_is)
    (case l2 => k_is)
    (case c2 => k_is)
    (case k2 => k_is)
    (case a3 => k_is)
    (case l3 => k_is)
    (case c3 => k_is)
    (case k3 => k_is)
    (case a4 => k_is)
    (case l4 => k_is)
    (case c4 => k_is)
    (case k4 => k_is)
    (case a5 => k_is)
    (case l5 => k_is)
    (case c5 => k_is)
    (case k5 => k_is)
    (case a6 => k_is)
    (case l6 => k_is)
    (case c6 => k_is)
    (case k6 => k_is)
    (case a7 => k_is)
    (case l7 => k_is)
    (case c7 => k_is)
    (case k7 => k_is)
    (case a8 => k_is)
    (case l8 => k_is)
    (case c8 => k_is)
    (case k8 => k_is)
    (case a9 => k_is)
    (case l9 => k_is)
    (case c9 => k_is)
    (case k9 => k_is)
    (case a10 => k_is)
    (case l10 => k_is)
    (case c10 => k_is)
    (case k10 => k_is)
    (case a11 => k_is)
    (case l11 => k_is)
    (case c11 => k_is)
    (case k11 => k_is)
    (case a12 => k_is)
    (case l12 => k_is)
    (case c12 => k_is)
    (case k12 => k_is)
    (case a13 => k_is)
    (case l13 => k_is)
    (case c13 => k_is)
    (case k13 => k_is)
    (case a14 => k_is)
    (case l14 => k_is)
    (case c14 => k_is)
    (case k14 => k_is)
    (case a15 => k_is)
    (case l15 => k_is)
    (case c15 => k_is)
    (case k15 => k_is)
    (case a16 => k_is)
    (case l16 => k_is)
    (case c16 => k_is)
    (case k16 => k_is)
    (case a17 => k_is)
    (case l17 => k_is)
    (case c17 => k_is)
    (case k17 => k_is)
    (case a18 => k_is)
    (case l18 => k_is)
    (case c18 => k_is)
    (case k18 => k_is)
    (case a19 => k_is)
    (case l19 => k_is)
    (case c19 => k_is)
    (case k19 => k_is)
    (case a20 => k_is)
    (case l20 => k_is)
    (case c20 => k_is)
    (case k20 => k_is)
    (case a21 => k_is)
    (case l21 => k_is)
    (case c21 => k_is)
    (case k21 => k_is)
    (case a22 => k_is)
    (case l22 => k_is)
    (case c22 => k_is)
    (case k22 => k_is)
    (case a23 => k_is)
    (case l23 => k_is)
    (case c23 => k_is)
    (case k23 => k_is)
    (case lT23 => k_is)
    (case dT23 => rfl)
    (case vT23 => exact .cons ⟨_, rfl⟩ .nil)
    (case a24 => k_is)
    (case l24 => k_is)
    (case c24 => k_is)
    (case k24 => k_is)
    (case a25 => k_is)
    (case l25 => k_is)
    (case c25 => k_is)
    (case k25 => k_is)
    (case a26 => k_is)
    (case l26 => k_is)
    (case c26 => k_is)
    (case k26 => k_is)
    (case a27 => k_is)
    (case l27 => k_is)
    (case c27 => k_is)
    (case k27 => k_is)
    (case a28 => k_is)
    (case l28 => k_is)
    (case c28 => k_is)
    (case k28 => k_is)
    (case a29 => k_is)
    (case l29 => k_is)
    (case c29 => k_is)
    (case k29 => k_is)
    (case a30 => k_is)
    (case l30 => k_is)
    (case c30 => k_is)
    (case k30 => k_is)
    (case a31 => k_is)
    (case l31 => k_is)
    (case c31 => k_is)
    (case k31 => k_is)
    (case a32 => k_is)
    (case l32 => k_is)
    (case c32 => k_is)
    (case k32 => k_is)
    (case a33 => k_is)
    (case l33 => k_is)
    (case c33 => k_is)
    (case k33 => k_is)
    (case a34 => k_is)
    (case l34 => k_is)
    (case c34 => k_is)
    (case k34 => k_is)
    (case a35 => k_is)
    (case l35 => k_is)
    (case c35 => k_is)
    (case k35 => k_is)
    (case a36 => k_is)
    (case l36 => k_is)
    (case c36 => k_is)
    (case k36 => k_is)
    (case a37 => k_is)
    (case l37 => k_is)
    (case c37 => k_is)
    (case k37 => k_is)
    (case a38 => k_is)
    (case l38 => k_is)
    (case c38 => k_is)
    (case k38 => k_is)
    (case a39 => k_is)
    (case l39 => k_is)
    (case c39 => k_is)
    (case k39 => k_is)
    (case a40 => k_is)
    (case l40 => k_is)
    (case c40 => k_is)
    (case k40 => k_is)
    (case a41 => k_is)
    (case l41 => k_is)
    (case c41 => k_is)
    (case k41 => k_is)
    (case a42 => k_is)
    (case l42 => k_is)
    (case c42 => k_is)
    (case k42 => k_is)
    (case a43 => k_is)
    (case l43 => k_is)
    (case c43 => k_is)
    (case k43 => k_is)
    (case a44 => k_is)
    (case l44 => k_is)
    (case c44 => k_is)
    (case k44 => k_is)
    (case a45 => k_is)
    (case l45 => k_is)
    (case c45 => k_is)
    (case k45 => k_is)
    (case a46 => k_is)
    (case l46 => k_is)
    (case c46 => k_is)
    (case k46 => k_is)
    (case a47 => k_is)
    (case l47 => k_is)
    (case c47 => k_is)
    (case k47 => k_is)
    (case a48 => k_is)
    (case l48 => k_is)
    (case c48 => k_is)
    (case k48 => k_is)
    (case a49 => k_is)
    (case l49 => k_is)
    (case c49 => k_is)
    (case k49 => k_is)
    (case a50 => k_is)
    (case l50 => k_is)
    (case c50 => k_is)
    (case k50 => k_is)
    (case a51 => k_is)
    (case l51 => k_is)
    (case c51 => k_is)
    (case k51 => k_is)
    (case a52 => k_is)
    (case l52 => k_is)
    (case c52 => k_is)
    (case k52 => k_is)
    (case a53 => k_is)
    (case l53 => k_is)
    (case c53 => k_is)
    (case k53 => k_is)
    (case a54 => k_is)
    (case l54 => k_is)
    (case c54 => k_is)
    (case k54 => k_is)
    (case a55 => k_is)
    (case l55 => k_is)
    (case c55 => k_is)
    (case k55 => k_is)
    (case a56 => k_is)
    (case l56 => k_is)
    (case c56 => k_is)
    (case k56 => k_is)
    (case a57 => k_is)
    (case l57 => k_is)
    (case c57 => k_is)
    (case k57 => k_is)
    (case a58 => k_is)
    (case l58 => k_is)
    (case c58 => k_is)
    (case k58 => k_is)
    (case a59 => k_is)
    (case l59 => k_is)
    (case c59 => k_is)
    (case k59 => k_is)
    (case a60 => k_is)
    (case l60 => k_is)
    (case c60 => k_is)
    (case k60 => k_is)
    (case a61 => k_is)
    (case l61 => k_is)
    (case c61 => k_is)
    (case k61 => k_is)
    (case a62 => k_is)
    (case l62 => k_is)
    (case c62 => k_is)
    (case k62 => k_is)
    (case a63 => k_is)
    (case l63 => k_is)
    (case c63 => k_is)
    (case k63 => k_is)
    (case a64 => k_is)
    (case l64 => k_is)
    (case c64 => k_is)
    (case k64 => k_is)
    (case a65 => k_is)
    (case l65 => k_is)
    (case c65 => k_is)
    (case k65 => k_is)
    (case a66 => k_is)
    (case l66 => k_is)
    (case c66 => k_is)
    (case k66 => k_is)
    (case a67 => k_is)
    (case l67 => k_is)
    (case c67 => k_is)
    (case k67 => k_is)
    (case a68 => k_is)
    (case l68 => k_is)
    (case c68 => k_is)
    (case k68 => k_is)
    (case a69 => k_is)
    (case l69 => k_is)
    (case c69 => k_is)
    (case k69 => k_is)
    (case a70 => k_is)
    (case l70 => k_is)
    (case c70 => k_is)
    (case k70 => k_is)
    (case a71 => k_is)
    (case l71 => k_is)
    (case c71 => k_is)
    (case k71 => k_is)
    (case z_len => k_is)
    (case z_int => k_is)
    (case z_abs => k_is)
    (case z_max => k_is)
    (case z_min => k_is)
    (case z_range => k_is)
    (case z_isinstance => k_is)
    (case z_list => k_is)
    (case z_tuple => k_is)
    (case z_bool => k_is)
    (case z_str => k_is)
    (case z_zip => k_is)
    (case z_enumerate => k_is)
    (case z_sum => k_is)
    (case g_gcd => k_is)
    (case gx_SpaceError => k_is)
    (case gx_TextFault => k_is)
    (case gx_RunFault => k_is)
    (case gx_BadRow => k_is)
    (case gx_ZeroDenominator => k_is)
    (case gx_NoNormal => k_is)
    (case gx_InLine => k_is)
    (case gx_Flat => k_is)
    (case gx_BadPolygon => k_is)
    (case gx_Singular => k_is)
    (case gx_NoDirection => k_is)
    (case gx_BadPath => k_is)
    (case gx_TooLarge => k_is)
    (case gx_BadOrder => k_is)
    (case gx_Unbounded => k_is)
    (case gx_NoParting => k_is)
    (case gx_NothingToUndo => k_is)
    (case fk_Singular => k_is)
    (case fe_Singular => k_exc)
    (case fb_Singular => k_is)
    (case ft_Singular => k_is)
    (case xg_Singular => k_is)
    (case xk_Singular => k_is)
    (case hd_Singular => k_is)
    (case xa_Singular => k_is)
    (case xn => k_is)
    (case xt => k_is)
    (case xm_Singular => k_is)
    (case fb_SpaceError => k_is)
    (case hd_SpaceError => k_is)
    (case ft_SpaceError => k_is)
    (case sx_Singular_SpaceError => k_is)
    (case nx_Singular_SpaceError => rfl)
    (case hd_TextFault => k_is)
    (case ft_TextFault => k_is)
    (case sx_Singular_TextFault => k_is)
    (case nx_Singular_TextFault => rfl)
    (case hd_RunFault => k_is)
    (case ft_RunFault => k_is)
    (case sx_Singular_RunFault => k_is)
    (case nx_Singular_RunFault => rfl)
    (case hd_BadRow => k_is)
    (case ft_BadRow => k_is)
    (case sx_Singular_BadRow => k_is)
    (case nx_Singular_BadRow => rfl)
    (case hd_ZeroDenominator => k_is)
    (case ft_ZeroDenominator => k_is)
    (case sx_Singular_ZeroDenominator => k_is)
    (case nx_Singular_ZeroDenominator => rfl)
    (case hd_NoNormal => k_is)
    (case ft_NoNormal => k_is)
    (case sx_Singular_NoNormal => k_is)
    (case nx_Singular_NoNormal => rfl)
    (case hd_InLine => k_is)
    (case ft_InLine => k_is)
    (case sx_Singular_InLine => k_is)
    (case nx_Singular_InLine => rfl)
    (case hd_Flat => k_is)
    (case ft_Flat => k_is)
    (case sx_Singular_Flat => k_is)
    (case nx_Singular_Flat => rfl)
    (case hd_BadPolygon => k_is)
    (case ft_BadPolygon => k_is)
    (case sx_Singular_BadPolygon => k_is)
    (case nx_Singular_BadPolygon => rfl)
    (case hd_NoDirection => k_is)
    (case ft_NoDirection => k_is)
    (case sx_Singular_NoDirection => k_is)
    (case nx_Singular_NoDirection => rfl)
    (case hd_BadPath => k_is)
    (case ft_BadPath => k_is)
    (case sx_Singular_BadPath => k_is)
    (case nx_Singular_BadPath => rfl)
    (case hd_TooLarge => k_is)
    (case ft_TooLarge => k_is)
    (case sx_Singular_TooLarge => k_is)
    (case nx_Singular_TooLarge => rfl)
    (case hd_BadOrder => k_is)
    (case ft_BadOrder => k_is)
    (case sx_Singular_BadOrder => k_is)
    (case nx_Singular_BadOrder => rfl)
    (case hd_Unbounded => k_is)
    (case ft_Unbounded => k_is)
    (case sx_Singular_Unbounded => k_is)
    (case nx_Singular_Unbounded => rfl)
    (case hd_NoParting => k_is)
    (case ft_NoParting => k_is)
    (case sx_Singular_NoParting => k_is)
    (case nx_Singular_NoParting => rfl)
    (case hd_NothingToUndo => k_is)
    (case ft_NothingToUndo => k_is)
    (case sx_Singular_NothingToUndo => k_is)
    (case nx_Singular_NothingToUndo => rfl)
    (case vx_Singular => k_is)
    (case z_ValueError => k_is)
    (case z_all => k_is)
    (case z_any => k_is)
    (case z_repr => k_is)
    (case gg_STILL => k_is)
    (case gr_STILL => first | rfl | decide +kernel)
