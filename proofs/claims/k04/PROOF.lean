import PyProof.Rows.All
import Wide.All
import OpenK.AllK
import Wide.FinOn
import HandS.ForMost
import HandS.ExcInit
import HandS.ExcField
import HandS.ExcIs
import HandS.TryMany
import HandS.IsInst
import HandS.FStr
import HandS.OwnEq
import HandS.Zip
import HandS.StrMore
import HandS.MakeKw
import HandS.WordsExc
import KE.GoesNew
import KE.GoesMore
import PyProof.InstNe
import PyProof.StrOps2
import KE.KExcIs
import PyProof.Rows.StrCase
import PySem.Challenge.RW_backinstep_k04_texts_of_devices
set_option Elab.async false
set_option linter.all false
set_option maxRecDepth 100000
namespace Bk
open PySem L2
/-! ### readings, one step at a time -/
section
variable {σ : L2.St} {H : Hp} {Q : VK} {D : Ends} {v x y : V} {ta tb te : TE} {tt tu : TT} {K : PySem.W.Frag}
theorem r_var {i : Nat} (h : σ[i]? = some (some v)) (q : Q v H) : tVar i σ H Q := ⟨v, h, q⟩
theorem r_c (q : Q v H) : tC v σ H Q := q
theorem r_op {r : R2} (h : ta σ H fun x H1 => tb σ H1 fun y H2 => r x y H2 Q) : tOp r ta tb σ H Q := h
theorem r_un {r : V → Hp → VK → Prop} (h : ta σ H fun x H1 => r x H1 Q) : tUn r ta σ H Q := h
theorem r_I0 {g : Int → Int → V} {i j : Int} (q : Q (g i j) H) : rI0 g (.int i) (.int j) H Q := ⟨i, j, rfl, rfl, q⟩
theorem r_I {C : Int → Int → Prop} {g : Int → Int → V} {i j : Int} (c : C i j) (q : Q (g i j) H) : rI C g (.int i) (.int j) H Q := ⟨i, j, rfl, rfl, c, q⟩
theorem r_U {g : Int → V} {i : Int} (q : Q (g i) H) : rU g (.int i) H Q := ⟨i, rfl, q⟩
theorem r_eq (h : scal x y = true) (q : Q (.bl (decide (x = y))) H) : rEq x y H Q := ⟨h, q⟩
theorem r_ne (h : scal x y = true) (q : Q (.bl (!decide (x = y))) H) : rNe x y H Q := ⟨h, q⟩
theorem r_test {Q : Bool → Hp → Prop} (h : te σ H fun x H' => ∃ k, x = .bl k ∧ Q k H') : tTest te σ H Q := h
theorem r_B {Q : Bool → Hp → Prop} (h : te σ H fun x H' => ∃ k, x = .bl k ∧ Q k H') : tB te σ H Q := h
theorem r_not {Q : Bool → Hp → Prop} (h : tt σ H fun c H1 => Q (!c) H1) : tNot tt σ H Q := h
theorem r_and {Q : Bool → Hp → Prop} (h : tt σ H fun c H1 => if c = true then tu σ H1 Q else Q false H1) : tAnd tt tu σ H Q := h
theorem r_or {Q : Bool → Hp → Prop} (h : tt σ H fun c H1 => if c = true then Q true H1 else tu σ H1 Q) : tOr tt tu σ H Q := h
theorem r_andV (h : ta σ H fun x H1 => ∃ c, x = .bl c ∧ if c = true then tb σ H1 Q else Q (.bl false) H1) : tAndV ta tb σ H Q := h
theorem r_orV (h : ta σ H fun x H1 => ∃ c, x = .bl c ∧ if c = true then Q (.bl true) H1 else tb σ H1 Q) : tOrV ta tb σ H Q := h
theorem r_notV (h : ta σ H fun x H1 => ∃ c, x = .bl c ∧ Q (.bl (!c)) H1) : tNotV ta σ H Q := h
theorem r_if (h : tt σ H fun c H1 => if c = true then ta σ H1 Q else tb σ H1 Q) : tIf tt ta tb σ H Q := h
theorem r_exb {Q : Bool → Hp → Prop} {b : Bool} (q : Q b H) : ∃ k, V.bl b = V.bl k ∧ Q k H := ⟨b, rfl, q⟩
theorem r_exc {b : Bool} {P : Bool → Prop} (q : P b) : ∃ c, V.bl b = V.bl c ∧ P c := ⟨b, rfl, q⟩
theorem r_nil {Q : List V → Hp → Prop} (q : Q [] H) : tNil σ H Q := q
theorem r_cons {tr : TA} {Q : List V → Hp → Prop} (h : te σ H fun x H1 => tr σ H1 fun xs H2 => Q (x :: xs) H2) : tCons te tr σ H Q := h
theorem r_CB {r : List V → Hp → VK → Prop} {t : TA} (h : t σ H fun vs H1 => r vs H1 Q) : tCB r t σ H Q := h
theorem r_call {sp : Sp} {dvs : List V} {E : XK} {t : TA} (h : t σ H fun vs H1 => sp (vs ++ dvs) H1 Q E) : tCall sp dvs E t σ H Q := h
theorem r_lst {t : TA} (h : t σ H fun xs H1 => xs.length ≤ sizeLine ∧ ∀ p, H1 p = none → Q (.ref p) (upd H1 p (.lst xs))) : tLst t σ H Q := h
theorem r_tup {t : TA} (h : t σ H fun xs H1 => xs.length ≤ sizeLine ∧ ∀ p, H1 p = none → Q (.ref p) (upd H1 p (.tup xs))) : tTup t σ H Q := h
theorem r_new {n : Nat} {o : HO} (hn : n ≤ 1000) (h : ∀ p, H p = none → Q (.ref p) (upd H p o)) : n ≤ sizeLine ∧ ∀ p, H p = none → Q (.ref p) (upd H p o) := ⟨Nat.le_trans hn (by decide), h⟩
-- statements
variable {t u : TS} {i : Nat}
theorem r_seq (h : t { D with nx := u D } σ H) : tSeq t u D σ H := h
theorem r_next (h : D.nx σ H) : tNext D σ H := h
theorem r_set (h : te σ H fun x H1 => D.nx (σ.set i (some x)) H1) : tAsg te (gName i) D σ H := h
theorem r_asg {g : TG} (h : te σ H fun x H1 => g x σ H1 D.nx) : tAsg te g D σ H := h
theorem r_gSub {to ti : TE} {s : TSet} {Q : L2.St → Hp → Prop} (h : to σ H fun o H1 => ti σ H1 fun i H2 => s o i v H2 fun H3 => Q σ H3) : gSub to ti s v σ H Q := h
theorem r_ifS {c : TT} (h : c σ H fun b H1 => if b = true then t D σ H1 else u D σ H1) : tIfS c t u D σ H := h
theorem r_ret (h : te σ H D.rt) : tRet te D σ H := h
theorem r_drop (h : te σ H fun _ H1 => D.nx σ H1) : tDrop te D σ H := h
theorem r_fld {f : Str} (h : ta σ H fun x H1 => ∃ a C dx fs v, x = .ref a ∧ H1 a = some (.ins C dx fs) ∧ Cls K C ∧ NoAttr K C f ∧ fs.lookup f = some v ∧ Q v H1) : tFld K ta f σ H Q := h
-- lists
theorem r_ixL {p : Addr} {xs : List V} {i : Int} (h : SqL K H p xs) (a : atI xs i = some v) (q : Q v H) : rIxL K (.ref p) (.int i) H Q := ⟨p, xs, i, v, rfl, rfl, h, a, q⟩
theorem r_ixT {p : Addr} {xs : List V} {i : Int} (h : SqT K H p xs) (a : atI xs i = some v) (q : Q v H) : rIxT K (.ref p) (.int i) H Q := ⟨p, xs, i, v, rfl, rfl, h, a, q⟩
theorem r_setL {p : Addr} {xs : List V} {k : Int} {j : Nat} {Q : Hp → Prop} (h : H p = some (.lst xs)) (a : ixN xs.length k = some j) (q : Q (upd H p (.lst (xs.set j v)))) : rSetL (.ref p) (.int k) v H Q := ⟨p, xs, k, j, rfl, rfl, h, a, q⟩
theorem cmulL {i j : Int} (h1 : -18446744073709551616 < i) (h2 : i < 18446744073709551616) : CMul i j := Or.inl ⟨h1, h2⟩
theorem cmulR {i j : Int} (h1 : -18446744073709551616 < j) (h2 : j < 18446744073709551616) : CMul i j := Or.inr ⟨h1, h2⟩
theorem cdiv {i j : Int} (h1 : 0 < j) (h2 : j < 1073741824) : CDiv i j := ⟨h1, h2⟩
-- built-ins under names
def cInt : List V → Hp → VK → Prop := fun xs H Q => (∃ i, xs = [.int i] ∧ Q (.int i) H) ∨ ∃ k, xs = [.bl k] ∧ Q (.int (if k then 1 else 0)) H
theorem c_int {X : Cx} : CallR X (.type "int") cInt := call_int1
theorem r_int {i : Int} (q : Q (.int i) H) : cInt [.int i] H Q := .inl ⟨i, rfl, q⟩
theorem r_intB {b : Bool} (q : Q (.int (if b then 1 else 0)) H) : cInt [.bl b] H Q := .inr ⟨b, rfl, q⟩
def cAbs : List V → Hp → VK → Prop := fun xs H Q => ∃ i, xs = [.int i] ∧ Q (.int (if i < 0 then -i else i)) H
theorem c_abs {X : Cx} : CallR X (.builtin "abs") cAbs := call_abs
theorem r_abs {i : Int} (q : Q (.int (if i < 0 then -i else i)) H) : cAbs [.int i] H Q := ⟨i, rfl, q⟩
def cLen (K : PySem.W.Frag) : List V → Hp → VK → Prop := fun xs H Q => ∃ x n, xs = [x] ∧ LenV K x H n ∧ Q (.int n) H
theorem c_len {X : Cx} : CallR X (.builtin "len") (cLen X.K) := call_len
theorem r_lenL {p : Addr} {xs : List V} (h : SqL K H p xs) (q : Q (.int (xs.length : Nat)) H) : cLen K [.ref p] H Q := ⟨_, _, rfl, .inl ⟨xs, h, rfl⟩, q⟩
theorem r_lenT {p : Addr} {xs : List V} (h : SqT K H p xs) (q : Q (.int (xs.length : Nat)) H) : cLen K [.ref p] H Q := ⟨_, _, rfl, .inr ⟨xs, h, rfl⟩, q⟩
theorem r_lenS {x : Str} (h : x.length ≤ sizeLine) (q : Q (.int (x.length : Nat)) H) : cLen K [.str x] H Q := ⟨_, _, rfl, ⟨h, rfl⟩, q⟩
def cStr : List V → Hp → VK → Prop := fun xs H Q => ∃ i, xs = [.int i] ∧ i.natAbs.log2 < 1920 ∧ Q (.str (toString i)) H
theorem c_str {X : Cx} : CallR X (.type "str") cStr := call_str_int
theorem r_str {i : Int} (h : i.natAbs.log2 < 1920) (q : Q (.str (toString i)) H) : cStr [.int i] H Q := ⟨i, rfl, h, q⟩
def cMax2 : List V → Hp → VK → Prop := fun xs H Q => ∃ i j, xs = [.int i, .int j] ∧ Q (.int (if j > i then j else i)) H
theorem c_max2 {X : Cx} (hc : X.calm = true) : CallR X (.builtin "max") cMax2 := call_max2 hc
theorem r_max2 {i j : Int} (q : Q (.int (if j > i then j else i)) H) : cMax2 [.int i, .int j] H Q := ⟨i, j, rfl, q⟩
def cIntS : List V → Hp → VK → Prop := fun xs H Q => ∃ a n, xs = [.str a] ∧ PySem.intText? a = some n ∧ a.length ≤ 640 ∧ Q (.int n) H
theorem c_intS {X : Cx} : CallR X (.type "int") cIntS := call_int_str
theorem r_intS {a : Str} {n : Int} (h : PySem.intText? a = some n) (l : a.length ≤ 640) (q : Q (.int n) H) : cIntS [.str a] H Q := ⟨a, n, rfl, h, l, q⟩
def cTup (K : PySem.W.Frag) : List V → Hp → VK → Prop := fun xs H Q => ∃ p ys, xs = [.ref p] ∧ ((SqL K H p ys ∧ ∀ l, H l = none → Q (.ref l) (upd H l (.tup ys))) ∨ (SqT K H p ys ∧ Q (.ref p) H))
theorem c_tup {X : Cx} : CallR X (.type "tuple") (cTup X.K) := call_tuple_of
theorem r_tupL {p : Addr} {ys : List V} (h : SqL K H p ys) (q : ∀ l, H l = none → Q (.ref l) (upd H l (.tup ys))) : cTup K [.ref p] H Q := ⟨p, ys, rfl, .inl ⟨h, q⟩⟩
theorem r_tupT {p : Addr} {ys : List V} (h : SqT K H p ys) (q : Q (.ref p) H) : cTup K [.ref p] H Q := ⟨p, ys, rfl, .inr ⟨h, q⟩⟩
def cLst (K : PySem.W.Frag) : List V → Hp → VK → Prop := fun xs H Q => ∃ p ys, xs = [.ref p] ∧ (SqL K H p ys ∨ SqT K H p ys) ∧ ∀ l, H l = none → Q (.ref l) (upd H l (.lst ys))
theorem c_lst {X : Cx} : CallR X (.type "list") (cLst X.K) := call_list_of
end

theorem br {b : Bool} {A B : Prop} (h1 : b = true → A) (h2 : b = false → B) : if b = true then A else B := by
  cases b with
  | true => exact iteT (h1 rfl)
  | false => exact iteF (h2 rfl)
theorem brD {p A B : Prop} [Decidable p] (h1 : p → A) (h2 : ¬ p → B) : if decide p = true then A else B := br (fun e => h1 (of_decide_eq_true e)) fun e => h2 (of_decide_eq_false e)
theorem brN {p A B : Prop} [Decidable p] (h1 : ¬ p → A) (h2 : p → B) : if (!decide p) = true then A else B :=
  br (fun e => h1 (by simpa using e)) fun e => h2 (by simpa using e)
theorem brT {b : Bool} {A B : Prop} (e : b = true) (h : A) : if b = true then A else B := by rw [if_pos e]; exact h
theorem brF {b : Bool} {A B : Prop} (e : b = false) (h : B) : if b = true then A else B := by rw [e]; exact iteF h
end Bk

set_option Elab.async false
set_option linter.all false
set_option maxRecDepth 100000
set_option maxHeartbeats 2000000
namespace Bk
open PySem PySem.Spec PyProof.Rows L2
/-! ### zip of a text and a tuple -/
def ItzS (K : PySem.W.Frag) (x : Str) (b : Addr) : It :=
  ⟨fun i H => i < x.cps.size ∧ ∃ (ys : List V) (y : V), SqT K H b ys ∧ ys[i]? = some y,
    fun i H v H' => ∃ (T : Addr) (c : Nat) (y : V), v = .ref T ∧ H T = none ∧ H' = upd H T (.tup [.str ⟨#[c]⟩, y]) ∧ x.cps[i]? = some c ∧ ∀ ys, SqT K H b ys → ys[i]? = some y,
    fun i H => ∃ ys : List V, SqT K H b ys ∧ i = min x.cps.size ys.length⟩
theorem turn_zipS {P : Program} {w : World} {K : PySem.W.Frag} {elts : List Expr} {kk : Nat} {tpos : Pos} {x : Str} {t : Tok} {b z TI TO i1 i2 : Addr} (S : ZipSep2 z TI TO i1 i2 [i1] [i2, b]) :
    Turn P w K (.Tuple elts kk tpos) (ItzS K x b) [z, TI, TO, i1, i2] z (fun i h => IsZip h z TI TO .none ∧ IsTupOf2 h TI (.ref i1) (.ref i2) ∧ (∃ u v, IsTupOf2 h TO u v) ∧ h.IsStrIter i1 (strIterType x) x t i ∧ h.IsTupleIter i2 b i) where
  mem := by simp
  obj := fun i h st c hc => by
    obtain ⟨hz, hTI, ⟨u, v, hTO⟩, ⟨o1, e1, _, d1⟩, ⟨o2, e2, _, d2⟩⟩ := st
    have e' : c = z ∨ c = TI ∨ c = TO ∨ c = i1 ∨ c = i2 := by simpa using hc
    rcases e' with q | q | q | q | q
    · rw [q]; exact ⟨_, hz, fun v q => nomatch q⟩
    · rw [q]; exact ⟨_, hTI, fun v q => nomatch q⟩
    · rw [q]; exact ⟨_, hTO, fun v q => nomatch q⟩
    · rw [q]; exact ⟨o1, e1, fun v q => by rw [d1] at q; cases q⟩
    · rw [q]; exact ⟨o2, e2, fun v q => by rw [d2] at q; cases q⟩
  keep := fun i h h' st k => by
    obtain ⟨hz, hTI, ⟨u, v, hTO⟩, ⟨o1, e1, r1⟩, h2⟩ := st
    exact ⟨k z (by simp) _ hz, k TI (by simp) _ hTI, ⟨u, v, k TO (by simp) _ hTO⟩, ⟨o1, k i1 (by simp) _ e1, r1⟩, h2.at fun o q => k i2 (by simp) o q⟩
  item := by
    intro X hP hw hK hc i pins s σ H E I hf st hg
    subst hP hw hK
    obtain ⟨hz, hTI, hTO, h1, h2⟩ := st
    obtain ⟨hlx, ys, y, hqy, hy⟩ := hg
    obtain ⟨its, rv, p, _⟩ := I.tuple hqy
    obtain ⟨u2, hu2, ru2⟩ := rv.get hy
    have hh : X.A.in1.handled = none := I.ok.hd hc
    have hlt : i < min x.cps.size its.toArray.size := by
      have h3 := (List.getElem?_eq_some_iff.mp hu2).1
      have hsz : its.toArray.size = its.length := by simp
      rw [hsz]
      omega
    have ib : b ≠ i2 := fun q => by
      obtain ⟨o, e1, c1, _⟩ := p
      obtain ⟨o', e2, c2, _⟩ := h2
      rw [q, e2] at e1
      cases e1
      rw [c2] at c1
      exact absurd (Value.type.inj c1) (by decide)
    have W := GoesN.zip2 (prog := X.prog) (w := X.w) (A := X.A) (elts := elts) (x1 := kk) (pos := tpos) S (Draws.text hh i1 x t) (Draws.tuple hh i2 b ib its.toArray)
    refine W.goes i s _ _ hlt ⟨hz, hTI, hTO, h1, h2, p⟩ fun v h' tk Y st' hk htk => ?_
    obtain ⟨T, x1, y1, rfl, hT, ⟨c, u, hc1, rfl⟩, hy1, hTup⟩ := Y
    obtain ⟨hz', hTI', hTO', h1', h2', _⟩ := st'
    have ey : y1 = u2 := by
      have q : its.toArray[i]? = some y1 := hy1
      rw [List.getElem?_toArray, hu2] at q
      exact (Option.some.inj q).symm
    subst ey
    have new : ObjOk X.prog X.w (upd H T (.tup [.str ⟨#[c]⟩, y])) h' T (.tup [.str ⟨#[c]⟩, y]) :=
      ⟨by show 2 ≤ sizeLine; decide, [_, _], .cons ⟨u, rfl⟩ (.cons ru2 .nil), hTup⟩
    have I1 : Inv X pins σ (upd H T (.tup [.str ⟨#[c]⟩, y])) { s with heap := h', toks := tk } :=
      I.turnedNew (t' := tk) (ch := [z, TI, TO, i1, i2]) (fun c o hb q => hk c o (fun q' => hb (by
        have e' : c = z ∨ c = TO ∨ c = i1 ∨ c = i2 := by simpa using q'
        rcases e' with e | e | e | e <;> simp [e])) q) hf hT new
    refine ⟨.ref T, _, I1, rfl, ⟨T, c, y, rfl, I.hok.fresh hT, rfl, hc1, fun l hl => by rw [I.tuple_inj hl hqy]; exact hy⟩, ⟨hz', hTI', hTO', h1', h2'⟩, fun d hdm => ?_⟩
    have hlt : d < s.heap.objs.size := by
      have e' : d = z ∨ d = TI ∨ d = TO ∨ d = i1 ∨ d = i2 := by simpa using hdm
      rcases e' with q | q | q | q | q
      · rw [q]; exact Heap.lt_size hz
      · rw [q]; exact Heap.lt_size hTI
      · rw [q]; obtain ⟨_, _, e⟩ := hTO; exact Heap.lt_size e
      · rw [q]; obtain ⟨_, e1, _⟩ := h1; exact Heap.lt_size e1
      · rw [q]; obtain ⟨_, e2, _⟩ := h2; exact Heap.lt_size e2
    rw [upd_ne (Nat.ne_of_lt (Nat.lt_of_lt_of_le hlt hT))]
    exact (hf d hdm).1
  done := by
    intro X hP hw hK hc i pins s σ H E I hf st hg
    subst hP hw hK
    obtain ⟨hz, hTI, hTO, h1, h2⟩ := st
    obtain ⟨ys, hqy, rfl⟩ := hg
    obtain ⟨its, rv, p, _⟩ := I.tuple hqy
    have hh : X.A.in1.handled = none := I.ok.hd hc
    have ib : b ≠ i2 := fun q => by
      obtain ⟨o, e1, c1, _⟩ := p
      obtain ⟨o', e2, c2, _⟩ := h2
      rw [q, e2] at e1
      cases e1
      rw [c2] at c1
      exact absurd (Value.type.inj c1) (by decide)
    have W := GoesN.zip2 (prog := X.prog) (w := X.w) (A := X.A) (elts := elts) (x1 := kk) (pos := tpos) S (Draws.text hh i1 x t) (Draws.tuple hh i2 b ib its.toArray)
    have en : min x.cps.size ys.length = min x.cps.size its.toArray.size := by
      have hsz : its.toArray.size = its.length := by simp
      rw [hsz, rv.length]
    rw [en] at h1 h2
    refine W.stops s _ _ ⟨hz, hTI, hTO, h1, h2, p⟩ fun h' tk hk htk => ?_
    exact I.turnedL (t' := tk) (ch := [z, TI, TO, i1, i2]) (fun c o hb q => hk c o (fun q' => hb (by
      have e' : c = z ∨ c = TO ∨ c = i1 ∨ c = i2 := by simpa using q'
      rcases e' with e | e | e | e <;> simp [e])) q) hf
  self := fun A i s Q E st h => wpAny_pyIter_zip st.1 h
def iZipS (K : PySem.W.Frag) (ta : TA) : TI := fun σ H R => ta σ H fun vs H1 => ∃ x b ys, vs = [.str x, .ref b] ∧ SqT K H1 b ys ∧ R (ItzS K x b) H1
theorem pi_zipS {X : Cx} {e e2 : Expr} {ta : TA} {p pos tpos : Pos} {elts : List Expr} {kk : Nat} (hg : Gl X "zip") (hm : X.mg "zip" = none) (ha : PA X [e, e2] ta)
    (hs : starEach [e, e2] X.env = (false, eval e X.env) :: starEach [e2] X.env := by rfl) (hpl : (backTo pos (starEach [e2] X.env)).any (·.1) = false := by rfl) :
    PI X (.Tuple elts kk tpos) (.Call (.Name "zip" p) [e, e2] [] pos) (iZipS X.K ta) := by
  refine ⟨fun pins s σ H R I h => ?_⟩
  refine Call_ (ld_blt I hg hm PyProof.Rows.boot_zip (PyProof.Rows.callWith_type1 (thn (ha.run pos pins s σ H _ I h) fun us s1 ⟨vs, H1, I1, r1, q1⟩ => ?_) hs hpl))
  obtain ⟨x, b, ys, ex, hqy, q⟩ := q1
  subst ex
  cases r1 with
  | cons r rr =>
    cases rr with
    | cons r' rr =>
      cases rr
      obtain ⟨t, rfl⟩ := r
      cases r'
      obtain ⟨its, rv, p2, _⟩ := I1.tuple hqy
      have lb : b < s1.heap.objs.size := by obtain ⟨o, e, _⟩ := p2; exact Heap.lt_size e
      refine zip_begins2 (begins_text x t) (begins_tuple b its.toArray) trivial p2 fun h' hz hTI hTO h1 h2 hsz hk => wpAny_pyIter_zip hz ?_
      have I2 : Inv X pins σ H1 { s1 with heap := h' } := I1.kept (t' := s1.toks) hk
      have S : ZipSep2 (s1.heap.objs.size + 4) (s1.heap.objs.size + 2) (s1.heap.objs.size + 3) s1.heap.objs.size (s1.heap.objs.size + 1) [s1.heap.objs.size] [s1.heap.objs.size + 1, b] :=
        zip_sep2 (fp1 := []) (fp2 := [b]) (fun _ z => nomatch z) fun c hc => by
          have e : c = b := by simpa using hc
          rw [e]
          exact lb
      refine ⟨s1.heap.objs.size + 4, [s1.heap.objs.size + 4, s1.heap.objs.size + 2, s1.heap.objs.size + 3, s1.heap.objs.size, s1.heap.objs.size + 1], _, _, H1, rfl, I2, turn_zipS (t := t) S, ⟨hz, hTI, ⟨_, _, hTO⟩, ⟨_, h1, rfl, rfl⟩, ⟨_, h2, rfl, rfl⟩⟩, fun c hcm => ?_, q⟩
      have e' : c = s1.heap.objs.size + 4 ∨ c = s1.heap.objs.size + 2 ∨ c = s1.heap.objs.size + 3 ∨ c = s1.heap.objs.size ∨ c = s1.heap.objs.size + 1 := by simpa using hcm
      have hle : s1.heap.objs.size ≤ c := by
        rcases e' with z | z | z | z | z
        · rw [z]; exact Nat.le_add_right _ _
        · rw [z]; exact Nat.le_add_right _ _
        · rw [z]; exact Nat.le_add_right _ _
        · rw [z]; exact Nat.le_refl _
        · rw [z]; exact Nat.le_add_right _ _
      exact I1.fpOk hle (I1.hok.fresh hle)
/-- a loop over it, as many items as signs -/
theorem for_zipS {K : PySem.W.Frag} {x : Str} {b : Addr} {ys : List V} {g : TG} {tb : TS} {D : Ends} {σ : L2.St} {H : Hp} (hl : x.cps.size = ys.length) (Pv : Nat → L2.St → Hp → Prop) (h0 : Pv 0 σ H) (hq : ∀ i σ H, Pv i σ H → SqT K H b ys)
    (hs : ∀ (i c : Nat) (y : V) (T : Addr) (σ : L2.St) (H : Hp), x.cps[i]? = some c → ys[i]? = some y → Pv i σ H → H T = none → g (.ref T) σ (upd H T (.tup [.str ⟨#[c]⟩, y])) fun σ2 H2 => tb { D with nx := Pv (i + 1), ct := Pv (i + 1), bk := D.nx } σ2 H2) (hd : ∀ σ H, Pv ys.length σ H → D.nx σ H) :
    ∃ W : Nat → Nat → L2.St → Hp → Prop, (∃ m, W 0 m σ H) ∧ ∀ i m σ H, W i m σ H →
      ((ItzS K x b).stop i H ∧ D.nx σ H) ∨ ((ItzS K x b).go i H ∧ ∃ N : L2.St → Hp → Prop, (∀ σ' H', N σ' H' → ∃ m', m' < m ∧ W (i + 1) m' σ' H') ∧ ∀ v H', (ItzS K x b).yld i H v H' → g v σ H' fun σ2 H2 => tb { D with nx := N, ct := N, bk := D.nx } σ2 H2) := by
  refine ⟨fun i m σ H => m = ys.length - i ∧ i ≤ ys.length ∧ Pv i σ H, ⟨ys.length, rfl, Nat.zero_le _, h0⟩, ?_⟩
  rintro i m σ H ⟨rfl, hi, p⟩
  have qy := hq i σ H p
  by_cases hlt : i < ys.length
  · have hy : ys[i]? = some ys[i] := List.getElem?_eq_getElem hlt
    refine .inr ⟨⟨by omega, ys, _, qy, hy⟩, Pv (i + 1), fun σ' H' p' => ⟨ys.length - (i + 1), by omega, rfl, hlt, p'⟩, fun v H' y => ?_⟩
    obtain ⟨T, c, y', rfl, hT, rfl, f1, f2⟩ := y
    exact hs i c y' T σ H f1 (f2 ys qy) p hT
  · have e : i = ys.length := by omega
    subst e
    exact .inl ⟨⟨ys, qy, by omega⟩, hd σ H p⟩
end Bk

set_option Elab.async false
set_option linter.all false
set_option maxRecDepth 100000
set_option maxHeartbeats 2000000
namespace Bk
open PySem PySem.Spec PyProof.Rows L2
/-! ### a call by keywords alone, in the parameters' order -/
def KB0 (fd : FuncData) (ps : List Str) : Prop := ∀ (s : Shared) (ws : List Value), ws.length = ps.length → BindsTo s fd ⟨[], ps.zip ws⟩ (ps.zip ws)
section
variable {X : Cx} {CX : CXT} {k : Nat} {f : Addr} {fd : FuncData} {ps : List Str} {sp : Sp} {E : L2.St → XK} {x : Str} {p pos : Pos} {kws : List Keyword} {tk : TA}
def tCallKS (sp : Sp) (E : L2.St → XK) (tk : TA) : TE := fun σ H Q => tk σ H fun zs H2 => sp zs H2 Q (E σ)
theorem pe_callK0 (F : FnOk X.prog X.w X.K X.mg X.base CX k f fd ps sp) (hr : Room k X.A) (hg : Gl X x) (hm : X.mg x = some (.ref f)) (hk : PySem.W.keepIn X.K (.ref f) = true) (hb : KB0 fd ps) (hx : ∀ σ, PassesAt CX X σ (E σ))
    (hkw : PK X kws tk) (hall : (backToKw pos (keywordEach kws X.env)).all (·.1.isSome) = true := by rfl) (hks : (backToKw pos (keywordEach kws X.env)).filterMap (·.1) = ps := by rfl)
    (hdb : (x == ("__debug__" : Str)) = false := by decide)
    (hpl : ((backTo pos (starEach [] X.env)).any (·.1) || (backToKw pos (keywordEach kws X.env)).any (·.1.isNone)) = false := by rfl) :
    PE X (.Call (.Name x p) [] kws pos) (tCallKS sp E tk) := by
  refine ⟨fun pins s σ H Q I h => ?_⟩
  refine wpAny_Call_Name_kw (ld_glob I hg hm ?_ hdb)
  refine PySem.W.callWith_KW0 (h₀ := X.base) I.ok.mod.kin hk hall (thn (hkw.run pos pins s σ H _ I h) fun ws s2 ⟨zs, H2, I2, rz, q2⟩ => ⟨I2.kIn, ?_⟩) hpl
  rw [hks]
  have hl : ws.length = ps.length := by rw [← rz.length]; exact F.len _ _ _ _ q2
  refine wpAny_call (codeAny_mono (F.run X.A X.stack s2 H2 ⟨[], ps.zip ws⟩ ws zs Q (E σ) hr I2.env0 (hb s2 ws hl) rz q2) fun r s' hq => ?_)
  cases r with
  | error e => exact hx σ pins H2 s2 e s' I2 hq
  | ok fl =>
    cases fl with
    | ret u => exact I2.after hq
    | next => exact False.elim hq
    | brk => exact False.elim hq
    | cont => exact False.elim hq
theorem passAt0 {X : Cx} {E : L2.St → XK} : ∀ σ, PassesAt CX0 X σ (E σ) := fun _ _ _ _ _ _ _ h => h.elim
theorem passAtL {X : Cx} : ∀ σ, PassesAt (L2.CX X.prog X.w) X σ E0 := fun σ pins H s e s' I h => passL pins σ H s e s' I h
theorem kb_of {K : PySem.W.Frag} {x qual : Str} {st : Stmt} {f : Addr} {fd : FuncData} {ps : List Str} (F : Fun K x qual st f fd)
    (h : ∀ (kV doc pm : Value) (an : Option Addr) (cdv ct : Value) (ws : List Value), ws.length = ps.length → bindArgs (PySem.W.fnOf x qual (defArgs st) (defBody st) (defScope st) .none kV doc pm an cdv ct) ⟨[], ps.zip ws⟩ = pure (ps.zip ws)) : KB0 fd ps := by
  obtain ⟨oc, od, kV, doc, pm, an, cdv, ct, osl, rfl, lk, hcd⟩ := F.ex
  exact fun s ws hl => .of_eq (h kV doc pm an cdv ct ws hl)
theorem r_callK {E : L2.St → XK} {σ : L2.St} {H : Hp} {Q : VK} (h : tk σ H fun zs H2 => sp zs H2 Q (E σ)) : tCallKS sp E tk σ H Q := h
end
/-! ### != by the text's own == -/
section
open Builtin PySem.W
variable {prog : Program} {w : World} {A : Around} {E : Value → Shared → Prop} {s : Shared} {K : PySem.W.Frag} {x y C f : Addr} {ox : Obj} {od : Option Obj}
theorem ifBound_B {M : Model} {id : String} {name : Str} {args : List Value} {Q : Option Value → Shared → Prop} (X : K.In s.heap) (I : InstAt s.heap x ox C od) (hs : findIn K (.ref C) name = some (some (.builtin id)))
    (hb : bindSpecial (.builtin id) (.ref x) = pure (.builtin id, [.ref x])) (h : wpAny M A (call (.builtin id) (.ref x :: args)) (fun v => Q (some v)) E s) : wpAny M A (callSpecialIfBound? (.ref x) name args) Q E s := by
  simp only [callSpecialIfBound?, bindSpecialIfBound?]
  refine wpAny_holding (wpAny_bind (wpAny_bind (wpAny_bind (I.type.here ((looks_findIn X hs).here ?_)))))
  simp only [hb]
  refine wpAny_bind (wpAny_askSetting (wpAny_ite ?_))
  have fin : wpAny M A (call (.builtin id) ([.ref x] ++ args) >>= fun v => pure (some v)) Q E s := wpAny_bind (wpAny_mono h (fun v s' h' => wpAny_pure h') fun _ _ h' => h')
  split
  · exact wpAny_bind (wpAny_pure (wpAny_pure fin))
  · exact wpAny_tryCatch (wpAny_bind (wpAny_pure (wpAny_pure fin)))
theorem objNe_own (hu : A.units < cLine) (X : K.In s.heap) (I : InstAt s.heap x ox C od) (hs : findIn K (.ref C) "__eq__" = some (some (.ref f))) (hf : isFn K (.ref f) = true) {Q : Fin → Shared → Prop}
    (h : wpAny (model prog w) A (call (.ref f) [.ref x, .ref y]) (fun v s' => ∃ b, v = .bool b ∧ Q (.done (.ret (.bool (!b)))) s') E s) :
    wpAny (model prog w) A (Builtin.«object.__ne__» ⟨[.ref x, .ref y], []⟩) Q E s := by
  obtain ⟨hp, g, d, t, os⟩ := s
  unfold Builtin.«object.__ne__»
  repeat (first
    | with_reducible refine wpAny_cRoomFor hu ?_
    | (refine wpAny_bind (m := callSpecialIfBound? (.ref x) (Str.ofString "__eq__") [.ref y])
        (ifBound_K X I hs hf (wpAny_mono h (fun r s' hr => by
          obtain ⟨b, rfl, hq⟩ := hr
          repeat (first | exact hq | exact wpAny_pure hq | exact wpAny_truthy_bool hq | (refine wpAny_bind (m := truthy (.bool _)) (wpAny_truthy_bool ?_)) | wp_step)) fun _ _ e => e)))
    | wp_step)
theorem ne_own (hu : A.units + 1 < cLine) (X : K.In s.heap) (I : InstAt s.heap x ox C od) (hy : Looks (model prog w) s.heap (typeOf (.ref y)) (.ref C)) (hn : findIn K (.ref C) "__ne__" = some (some (.builtin "object.__ne__")))
    (hob : subIn K (.ref C) (.type "object") = some true) (hs : findIn K (.ref C) "__eq__" = some (some (.ref f))) (hf : isFn K (.ref f) = true) {Q : Value → Shared → Prop}
    (h : wpAny (model prog w) A.in1 (call (.ref f) [.ref x, .ref y]) (fun v s' => ∃ b, v = .bool b ∧ Q (.bool (!b)) s') E s) : wpAny (model prog w) A (compareOp .NotEq (.ref x) (.ref y)) Q E s := by
  obtain ⟨hp, g, d, t, os⟩ := s
  unfold compareOp richCompare
  simp only [oneThing_ref]
  refine wpAny_holding ?_
  refine wpAny_bind (wpAny_cRoomFor (Nat.lt_of_succ_lt hu) ?_)
  rw [cmpInfo_NotEq]
  dsimp only
  refine wpAny_bind (I.type.here (wpAny_bind (hy.here ?_)))
  rw [show (Value.ref C != Value.ref C) = false from by simp]
  simp only [Bool.false_eq_true, if_false]
  refine wpAny_bind (wpAny_pure ?_)
  simp only [Bool.false_eq_true, if_false]
  have sub : Looks (model prog w) hp (isInstance (.ref x) (.type "object")) true := I.type.andThen (looks_subIn X hob)
  have one : wpAny (model prog w) A (tryCompare (.ref x) "__ne__" (.ref y)) (fun r s' => ∃ v, r = some v ∧ Q v s') E ⟨hp, g, d, t, os⟩ := by
    simp only [tryCompare]
    refine wpAny_bind (ifBound_B X I hn (F.cmp_object.ne.bind _) (wpAny_call (codeAny_call_builtin F.cmp_object.ne.plain F.cmpEntry_ne
      (check_slot F.cmpKind_ne F.cmpSplit_ne sub (F.cmpArgs_ne _ _) (objNe_own (A := A.in1) hu X I hs hf (wpAny_mono h (fun v s' hv => ?_) fun _ _ e => e))))))
    obtain ⟨b, rfl, hq⟩ := hv
    first | exact ⟨b, rfl, wpAny_pure ⟨_, rfl, hq⟩⟩ | exact ⟨b, rfl, wpAny_pure (wpAny_pure ⟨_, rfl, hq⟩)⟩
  refine wpAny_bind (wpAny_mono one (fun r s' z => ?_) fun _ _ e => e)
  obtain ⟨v, rfl, hq⟩ := z
  first | exact wpAny_pure hq | exact wpAny_pure (wpAny_pure hq)
end
/-- a == b, a != b of two instances of the class at C whose own == keeps sp -/
def rOwn (neg : Bool) (C : Addr) (sp : Sp) (E : XK) : R2 := fun x y H Q => ∃ (a b dx dy : Addr) (fs gs : List (Str × V)), x = .ref a ∧ y = .ref b ∧ H a = some (.ins C dx fs) ∧ H b = some (.ins C dy gs) ∧
  sp [.ref a, .ref b] H (fun v H' => ∃ k, v = .bl k ∧ Q (.bl (if neg then !k else k)) H') E
section
variable {X : Cx} {CX : CXT} {C f : Addr} {fd : FuncData} {ps : List Str} {sp : Sp} {E : XK} {n : Nat}
theorem own_run {A : Around} {pins : List (Addr × Obj)} {s : Shared} {σ : L2.St} {H : Hp} {Q : VK} {a b : Addr} (hr : Room n A) (hfr : A.frames = X.A.frames) (F : FnOk X.prog X.w X.K X.mg X.base CX n f fd ps sp) (hb : Binds X.K fd ps []) (hx : Passes CX X E)
    (I : L2.Inv X pins σ H s) (h : sp [.ref a, .ref b] H Q E) : wpAny (model X.prog X.w) A (call (.ref f) [.ref a, .ref b]) (EP X pins σ Q) X.xe s := by
  have e0 : Env0 X.prog X.w X.K X.mg X.base A X.stack s H := by
    have e := I.env0
    exact ⟨by rw [hfr]; exact e.frames, e.mod, e.bs, e.bsz, e.funs, e.frf, e.hok, e.bare⟩
  have hl := F.len _ _ _ _ h
  have r2 : Vals [V.ref a, V.ref b] [Value.ref a, Value.ref b] := .cons rfl (.cons rfl .nil)
  refine wpAny_call (codeAny_mono (F.run A X.stack s H ⟨[.ref a, .ref b], []⟩ [.ref a, .ref b] [.ref a, .ref b] _ E hr e0 (by
    have := hb s [.ref a, .ref b] I.kIn (by simpa using hl)
    simpa using this) r2 h) fun r s' hq => ?_)
  cases r with
  | error e => exact hx pins σ H s e s' I hq
  | ok fl =>
    cases fl with
    | ret w => exact I.after hq
    | next => exact False.elim hq
    | brk => exact False.elim hq
    | cont => exact False.elim hq
theorem op_eqOwn (hr : Room n X.A) (F : FnOk X.prog X.w X.K X.mg X.base CX n f fd ps sp) (hs : PySem.W.findIn X.K (.ref C) "__eq__" = some (some (.ref f))) (hf : PySem.W.isFn X.K (.ref f) = true) (hb : Binds X.K fd ps []) (hx : Passes CX X E) :
    OpR X (compareOp .Eq) (rOwn false C sp E) := by
  intro pins s σ H x y v u Q I rx ry h
  obtain ⟨a, b, dx, dy, fs, gs, rfl, rfl, ha, hb', hsp⟩ := h
  cases rx
  cases ry
  obtain ⟨mA, J, _⟩ := ins_get I.hok ha
  obtain ⟨mB, J', _⟩ := ins_get I.hok hb'
  obtain ⟨od, J, _⟩ := J.look
  obtain ⟨od', J', _⟩ := J'.look
  obtain ⟨m, hF⟩ := I.fr
  show wpAny (model X.prog X.w) X.A (richCompare .Eq (.ref a) (.ref b)) (EP X pins σ Q) X.xe s
  refine PySem.W.cmp_K (op := .Eq) (tb := .ref C) hr.units0 hF I.ok.mod.kin J J'.type (by simp [PySem.W.notFirst]) hs hf ?_
  refine wpAny_mono (own_run hr rfl F hb hx I hsp) (fun r s' z => ?_) fun _ _ e => e
  obtain ⟨v', H', I', rz, k, rfl, q⟩ := z
  cases rz
  exact ⟨.bl k, H', I', rfl, q⟩
theorem op_neOwn (hr : Room (n + 1) X.A) (F : FnOk X.prog X.w X.K X.mg X.base CX n f fd ps sp) (hs : PySem.W.findIn X.K (.ref C) "__eq__" = some (some (.ref f))) (hf : PySem.W.isFn X.K (.ref f) = true)
    (hn : PySem.W.findIn X.K (.ref C) "__ne__" = some (some (.builtin "object.__ne__"))) (hob : PySem.W.subIn X.K (.ref C) (.type "object") = some true) (hb : Binds X.K fd ps []) (hx : Passes CX X E) : OpR X (compareOp .NotEq) (rOwn true C sp E) := by
  intro pins s σ H x y v u Q I rx ry h
  obtain ⟨a, b, dx, dy, fs, gs, rfl, rfl, ha, hb', hsp⟩ := h
  cases rx
  cases ry
  obtain ⟨mA, J, _⟩ := ins_get I.hok ha
  obtain ⟨mB, J', _⟩ := ins_get I.hok hb'
  obtain ⟨od, J, _⟩ := J.look
  obtain ⟨od', J', _⟩ := J'.look
  refine ne_own (Nat.lt_of_le_of_lt (Nat.add_le_add_left (by decide : 1 ≤ 64) _) hr.units) I.kIn J J'.type hn hob hs hf ?_
  refine wpAny_mono (own_run hr.in1 rfl F hb hx I hsp) (fun r s' z => ?_) fun _ _ e => e
  obtain ⟨v', H', I', rz, k, rfl, q⟩ := z
  cases rz
  exact ⟨k, rfl, .bl (!k), H', I', rfl, q⟩
theorem r_own {neg : Bool} {H : Hp} {Q : VK} {a b dx dy : Addr} {fs gs : List (Str × V)} (ha : H a = some (.ins C dx fs)) (hb : H b = some (.ins C dy gs)) (h : sp [.ref a, .ref b] H (fun v H' => ∃ k, v = .bl k ∧ Q (.bl (if neg then !k else k)) H') E) :
    rOwn neg C sp E (.ref a) (.ref b) H Q := ⟨a, b, dx, dy, fs, gs, rfl, rfl, ha, hb, h⟩
end
/-! ### a text several times -/
theorem repL (cs : List Nat) : ∀ (n : Nat) (acc : Array Nat), ((List.replicate n cs.toArray).foldl (· ++ ·) acc).toList = acc.toList ++ (List.replicate n cs).flatten
  | 0, acc => by simp
  | n + 1, acc => by
    rw [List.replicate_succ, List.foldl_cons, repL cs n, List.replicate_succ, List.flatten_cons]
    simp
def repS (x : Str) (n : Nat) : Str := ⟨((List.replicate n x.cps.toList).flatten).toArray⟩
def rRepS : R2 := fun x y H Q => ∃ (z : Str) (n : Nat), x = .str z ∧ y = .int (n : Nat) ∧ 2 ≤ n ∧ n ≤ 100000 ∧ 1 ≤ z.length ∧ z.length * n ≤ 16777216 ∧ Q (.str (repS z n)) H
theorem op_repS {X : Cx} : OpR X (binaryOp .Mult) rRepS := by
  intro pins s σ H x y v u Q I rx ry h
  obtain ⟨z, n, rfl, rfl, h2, h3, h4, h5, q⟩ := h
  obtain ⟨t, rfl⟩ := rx
  obtain ⟨t', rfl⟩ := ry
  have hn1 : ¬ (n : Int) < 1 := by omega
  have e1 : ((n : Int) == 1) = false := by
    rw [beq_eq_false_iff_ne]
    omega
  have e2 : (z.length == 0) = false := by
    rw [beq_eq_false_iff_ne]
    omega
  refine PySem.P.mul_str ?_ (fun _ _ => ?_) (fun _ _ => ?_) ?_
  · rw [decide_eq_false (show ¬ (n : Int) < -(2 ^ 63 : Int) by omega), decide_eq_false (show ¬ (n : Int) ≥ 2 ^ 63 by omega)]
    rfl
  · have h6 : ((2 : Int) ^ 63 - 1) / (n : Int) ≥ 16777216 := by
      refine Int.le_ediv_of_mul_le (by omega) ?_
      have h7 : (16777216 : Int) * n ≤ 16777216 * 100000 := by omega
      omega
    have h8 : z.length ≤ z.length * n := Nat.le_mul_of_pos_right _ (by omega)
    omega
  · rw [Int.toNat_natCast]
    unfold Builtin.Str.tooLong
    exact decide_eq_false (by rw [sizeLine_eq]; omega)
  · rw [if_neg hn1, e1, e2, Bool.false_or, if_neg Bool.false_ne_true, Int.toNat_natCast]
    have e3 : (List.replicate n z.cps).foldl (· ++ ·) #[] = ((List.replicate n z.cps.toList).flatten).toArray := by
      have e4 := repL z.cps.toList n #[]
      rw [List.nil_append] at e4
      have e5 : z.cps.toList.toArray = z.cps := by simp
      rw [e5] at e4
      rw [← e4]
    have e6 : (List.foldl (fun x1 x2 => x1 ++ x2) #[] (List.replicate n z.cps)) = ((List.replicate n z.cps.toList).flatten).toArray := e3
    rw [e6]
    refine ⟨?_, .str (repS z n), H, I.tok _, ⟨_, rfl⟩, q⟩
    show ((List.replicate n z.cps.toList).flatten).toArray.size ≤ sizeLine
    have e7 : ((List.replicate n z.cps.toList).flatten).length = n * z.cps.toList.length := by simp
    have e8 : z.cps.toList.length = z.length := by rw [Array.length_toList]; rfl
    rw [List.size_toArray, e7, e8, Nat.mul_comm, sizeLine_eq]
    exact h5
end Bk

set_option Elab.async false
set_option linter.all false
set_option maxRecDepth 100000
set_option maxHeartbeats 4000000
namespace Bk
open PySem PySem.Spec PyProof.Rows L2
/-! ### the same rules, the written part by its own letter -/
section
variable {X : Cx} {K : PySem.W.Frag}
theorem c_isiK (h : X.K = K := by rfl) : CallR X (.builtin "isinstance") (rIsi K) := by subst h; exact call_isi
theorem c_isiTK (h : X.K = K := by rfl) : CallR X (.builtin "isinstance") (rIsiT K) := by subst h; exact call_isiT
theorem c_lenK (h : X.K = K := by rfl) : CallR X (.builtin "len") (cLen K) := by subst h; exact c_len
theorem c_tupK (h : X.K = K := by rfl) : CallR X (.type "tuple") (cTup K) := by subst h; exact c_tup
theorem c_lstK (h : X.K = K := by rfl) : CallR X (.type "list") (cLst K) := by subst h; exact c_lst
theorem ix_listK (h : X.K = K := by rfl) : IxR X (rIxL K) := by subst h; exact ix_list
theorem ix_tupK (h : X.K = K := by rfl) : IxR X (rIxT K) := by subst h; exact ix_tup
theorem pe_fldK {o : Expr} {f : Str} {pos : Pos} {to : TE} (h : X.K = K) (ho : PE X o to) (hb : attributeBase o f X.env (eval o X.env) = eval o X.env) : PE X (.Attribute o f pos) (tFld K to f) := by subst h; exact pe_fld ho hb
end
section
variable {K : PySem.W.Frag} {σ : L2.St} {H : Hp} {Q : VK}
/-! ### isinstance -/
theorem r_isi {x : V} {nm : String} {c : String} {b : Bool} (ty : TyX K H x (.type nm)) (e : kitB nm c = some b) (q : Q (.bl b) H) : rIsi K [x, .ty c] H Q := ⟨x, .ty c, .type nm, .type c, b, rfl, .ty c, ty, kit_ty e, q⟩
theorem r_isLT {x : V} {nm : String} {tp : Addr} {b c : Bool} (ty : TyX K H x (.type nm)) (htp : H tp = some (.tup [.ty "list", .ty "tuple"])) (hb : kitB nm "list" = some b) (hc : kitB nm "tuple" = some c) (q : Q (.bl (b || c)) H) : rIsiT K [x, .ref tp] H Q := by
  refine ⟨x, tp, [.ty "list", .ty "tuple"], .type nm, [.type "list", .type "tuple"], (b || c), rfl, htp, .cons (.ty _) (.cons (.ty _) .nil), ty, ?_, q⟩
  refine kitAny_cons (kit_ty hb) (fun e => ?_) (fun e => by rw [e, Bool.true_or])
  rw [e, Bool.false_or]
  refine kitAny_cons (kit_ty hc) (fun e => ?_) (fun e => e)
  rw [e]
  rfl
theorem len5 : Str.length (Str.ofString "abcde") = 5 := by decide +kernel
theorem brNT {b : Bool} {A B : Prop} (e : b = true) (h : B) : if (!b) = true then A else B := by rw [e]; exact iteF h
theorem brNF {b : Bool} {A B : Prop} (e : b = false) (h : A) : if (!b) = true then A else B := by rw [e]; exact iteT h
theorem brTT {A B : Prop} (h : A) : if true = true then A else B := iteT h
theorem brFF {A B : Prop} (h : B) : if false = true then A else B := iteF h
theorem brNTT {A B : Prop} (h : B) : if (!true) = true then A else B := iteF h
theorem brNFF {A B : Prop} (h : A) : if (!false) = true then A else B := iteT h
theorem r_eqI {a b : Int} (q : Q (.bl (decide (a = b))) H) : rEq (.int a) (.int b) H Q := ⟨rfl, by
  have e : decide (V.int a = V.int b) = decide (a = b) := by simp
  rw [e]; exact q⟩
theorem r_neI {a b : Int} (q : Q (.bl (!decide (a = b))) H) : rNe (.int a) (.int b) H Q := ⟨rfl, by
  have e : decide (V.int a = V.int b) = decide (a = b) := by simp
  rw [e]; exact q⟩
theorem r_eqS {a b : Str} (q : Q (.bl (decide (a = b))) H) : rEq (.str a) (.str b) H Q := ⟨rfl, by
  have e : decide (V.str a = V.str b) = decide (a = b) := by simp
  rw [e]; exact q⟩
theorem r_neS {a b : Str} (q : Q (.bl (!decide (a = b))) H) : rNe (.str a) (.str b) H Q := ⟨rfl, by
  have e : decide (V.str a = V.str b) = decide (a = b) := by simp
  rw [e]; exact q⟩
theorem r_all {p : Addr} {bs : List Bool} (h : SqL K H p (bs.map V.bl)) (q : Q (.bl (bs.all id)) H) : rAll K [.ref p] H Q := ⟨p, bs, rfl, h, q⟩
theorem r_chain {r r' : R2} {ta tb tc : TE} (h : ta σ H fun x H1 => tb σ H1 fun y H2 => r x y H2 fun z H3 => ∃ k, z = .bl k ∧ if k = true then tc σ H3 fun w H4 => r' y w H4 Q else Q (.bl false) H3) : tChain r r' ta tb tc σ H Q := h
theorem r_m0 {r : V → List V → Hp → VK → Prop} {to : TE} (h : to σ H fun x H1 => (∃ a, x = .str a) ∧ r x [] H1 Q) : tM0 r to σ H Q := h
theorem r_m1 {r : V → List V → Hp → VK → Prop} {to te : TE} (h : to σ H fun x H1 => (∃ a, x = .str a) ∧ te σ H1 fun y H2 => r x [y] H2 Q) : tM1 r to te σ H Q := h
/-! ### heaps -/
theorem Same.mk {t : Addr} {o : HO} (h : H t = none) : Same H (upd H t o) := fun b u e => by rw [upd_ne (ne_of_none e h)]; exact e
theorem Same.put {H' : Hp} {t : Addr} {o : HO} (e : Same H H') (h : H t = none) : Same H (upd H' t o) := fun b u z => by rw [upd_ne (ne_of_none z h)]; exact e b u z
/-- all but what S tells is as it was -/
def Keep (S : Addr → Prop) (H H' : Hp) : Prop := ∀ b o, ¬ S b → H b = some o → H' b = some o
theorem Keep.refl {S : Addr → Prop} : Keep S H H := fun _ _ _ e => e
theorem Keep.trans {S : Addr → Prop} {H1 H2 : Hp} (a : Keep S H H1) (b : Keep S H1 H2) : Keep S H H2 := fun c o n e => b c o n (a c o n e)
theorem Keep.of {S : Addr → Prop} {H1 : Hp} (a : Same H H1) : Keep S H H1 := fun c o _ e => a c o e
theorem Keep.put {S : Addr → Prop} {H' : Hp} {t : Addr} {o : HO} (e : Keep S H H') (h : H t = none) : Keep S H (upd H' t o) := fun b u n z => by rw [upd_ne (ne_of_none z h)]; exact e b u n z
theorem Keep.at {H' : Hp} {b : Addr} {o : HO} (e : Keep (· = b) H H') : Keep (· = b) H (upd H' b o) := fun c u n z => by rw [upd_ne n]; exact e c u n z
theorem Keep.free {H' : Hp} {b c : Addr} {o : HO} (e : Keep (· = b) H H') (hb : H b = some o) (h : H' c = none) (hb' : H' b ≠ none) : H c = none := by
  cases q : H c with
  | none => rfl
  | some u =>
    by_cases n : c = b
    · rw [n] at h
      exact absurd h hb'
    · rw [e c u n q] at h
      cases h
/-! ### comprehensions without a test, into a new list -/
section
variable {S : Addr → Prop} {te ta : TE} {j : Nat} {p : Addr} {xs : List V}
theorem wipe_one (σ : L2.St) (j : Nat) : wipe σ [j] = σ.set j none := rfl
theorem wipe_set (σ : L2.St) (j : Nat) (x : Option V) : wipe ((wipe σ [j]).set j x) [j] = wipe σ [j] := by
  show ((σ.set j none).set j x).set j none = σ.set j none
  rw [List.set_set, List.set_set]
theorem yes_if {A B : Hp → Prop} (h : A H) : tYes σ H (fun b H3 => if b = true then A H3 else B H3) := by
  show if true = true then A H else B H
  rw [if_pos rfl]
  exact h
theorem r_lcL (Pv : Addr → Nat → List V → Hp → Prop) (hq : SqL K H p xs) (hS : ∀ a, S a → H a ≠ none) (hlen : xs.length ≤ 1000) (hput : ∀ D i acc H' o, H D = none → Pv D i acc H' → Pv D i acc (upd H' D o)) (h0 : ∀ D, H D = none → Pv D 0 [] H)
    (hl : ∀ D i acc H', Pv D i acc H' → SqL K H' p xs)
    (hs : ∀ D i x acc H', i < xs.length → xs[i]? = some x → H D = none → H' D = some (.lst acc) → Pv D i acc H' → ∀ Q' : VK, (∀ y H4, Pv D (i + 1) (acc ++ [y]) H4 → Keep S H' H4 → Q' y H4) → te ((σ.set j none).set j (some x)) H' Q')
    (hd : ∀ D acc H', H D = none → Pv D xs.length acc H' → H' D = some (.lst acc) → acc.length = xs.length → Q (.ref D) H') (hta : ∀ R : VK, R (.ref p) H → ta σ H R) :
    tLc (iList K ta) (gName j) tYes te [j] σ H Q := by
  refine hta _ ⟨p, rfl, ⟨xs, hq⟩, fun D hD => ?_⟩
  refine lc_list (fun i H' => ∃ acc, H' D = some (.lst acc) ∧ acc.length = i ∧ Pv D i acc H') ⟨[], upd_same, rfl, hput _ _ _ _ _ hD (h0 D hD)⟩ (fun i H' _ ⟨acc, _, _, z⟩ => hl _ _ _ _ z) ?_ (fun H' ⟨acc, a1, a2, a3⟩ => hd D acc H' hD a3 a1 a2)
  rintro i x H' hx ⟨acc, a1, a2, a3⟩
  have hi : i < xs.length := (List.getElem?_eq_some_iff.mp hx).1
  refine ⟨wipe_set σ j _, yes_if ?_⟩
  refine hs D i x acc H' hi hx hD a1 a3 _ fun y H4 z k => ⟨acc, k D _ (fun s => hS D s hD) a1, Nat.lt_of_le_of_lt (by omega) (by decide : 1000 < sizeLine), acc ++ [y], upd_same, by simp [a2], hput _ _ _ _ _ hD z⟩
theorem r_lcT (Pv : Addr → Nat → List V → Hp → Prop) (hq : SqT K H p xs) (hS : ∀ a, S a → H a ≠ none) (hlen : xs.length ≤ 1000) (hput : ∀ D i acc H' o, H D = none → Pv D i acc H' → Pv D i acc (upd H' D o)) (h0 : ∀ D, H D = none → Pv D 0 [] H)
    (hl : ∀ D i acc H', Pv D i acc H' → SqT K H' p xs)
    (hs : ∀ D i x acc H', i < xs.length → xs[i]? = some x → H D = none → H' D = some (.lst acc) → Pv D i acc H' → ∀ Q' : VK, (∀ y H4, Pv D (i + 1) (acc ++ [y]) H4 → Keep S H' H4 → Q' y H4) → te ((σ.set j none).set j (some x)) H' Q')
    (hd : ∀ D acc H', H D = none → Pv D xs.length acc H' → H' D = some (.lst acc) → acc.length = xs.length → Q (.ref D) H') (hta : ∀ R : VK, R (.ref p) H → ta σ H R) :
    tLc (iTup K ta) (gName j) tYes te [j] σ H Q := by
  refine hta _ ⟨p, rfl, ⟨xs, hq⟩, fun D hD => ?_⟩
  refine lc_tup (fun i H' => ∃ acc, H' D = some (.lst acc) ∧ acc.length = i ∧ Pv D i acc H') ⟨[], upd_same, rfl, hput _ _ _ _ _ hD (h0 D hD)⟩ (fun i H' _ ⟨acc, _, _, z⟩ => hl _ _ _ _ z) ?_ (fun H' ⟨acc, a1, a2, a3⟩ => hd D acc H' hD a3 a1 a2)
  rintro i x H' hx ⟨acc, a1, a2, a3⟩
  have hi : i < xs.length := (List.getElem?_eq_some_iff.mp hx).1
  refine ⟨wipe_set σ j _, yes_if ?_⟩
  refine hs D i x acc H' hi hx hD a1 a3 _ fun y H4 z k => ⟨acc, k D _ (fun s => hS D s hD) a1, Nat.lt_of_le_of_lt (by omega) (by decide : 1000 < sizeLine), acc ++ [y], upd_same, by simp [a2], hput _ _ _ _ _ hD z⟩
theorem lc_rng {S : Addr → Prop} {te : TE} {j n : Nat} (Pv : Addr → Nat → List V → Hp → Prop) (hS : ∀ a, S a → H a ≠ none) (hlen : n ≤ 1000) (hput : ∀ D i acc H' o, H D = none → Pv D i acc H' → Pv D i acc (upd H' D o)) (h0 : ∀ D, H D = none → Pv D 0 [] H)
    (hs : ∀ D i acc H', i < n → H D = none → H' D = some (.lst acc) → Pv D i acc H' → ∀ Q' : VK, (∀ y H4, Pv D (i + 1) (acc ++ [y]) H4 → Keep S H' H4 → Q' y H4) → te ((σ.set j none).set j (some (.int (i : Nat)))) H' Q')
    (hd : ∀ D acc H', H D = none → Pv D n acc H' → H' D = some (.lst acc) → acc.length = n → Q (.ref D) H') (D : Addr) (hD : H D = none) :
    ∃ W : Nat → Nat → Hp → Prop, (∃ m, W 0 m (upd H D (.lst []))) ∧ ∀ i m H', W i m H' →
      ((Itr 0 n).stop i H' ∧ Q (.ref D) H') ∨ ((Itr 0 n).go i H' ∧ ∃ Nx : Hp → Prop, (∀ H', Nx H' → ∃ m', m' < m ∧ W (i + 1) m' H') ∧ ∀ x H2, (Itr 0 n).yld i H' x H2 → gName j x (wipe σ [j]) H2 fun σ2 H2 => wipe σ2 [j] = wipe σ [j] ∧ tYes σ2 H2 fun b H3 =>
        if b = true then te σ2 H3 fun y H4 => ∃ acc, H4 D = some (.lst acc) ∧ acc.length < sizeLine ∧ Nx (upd H4 D (.lst (acc ++ [y]))) else Nx H3) := by
  refine lc_range (lo := 0) (n := n) (fun i H' => ∃ acc, H' D = some (.lst acc) ∧ acc.length = i ∧ Pv D i acc H') ⟨[], upd_same, rfl, hput _ _ _ _ _ hD (h0 D hD)⟩ ?_ (fun H' ⟨acc, a1, a2, a3⟩ => hd D acc H' hD a3 a1 a2)
  rintro i H' hi ⟨acc, a1, a2, a3⟩
  refine ⟨wipe_set σ j _, yes_if ?_⟩
  have e : (0 : Int) + (i : Nat) = (i : Nat) := Int.zero_add _
  rw [e]
  refine hs D i acc H' hi hD a1 a3 _ fun y H4 z k => ⟨acc, k D _ (fun s => hS D s hD) a1, Nat.lt_of_le_of_lt (by omega) (by decide : 1000 < sizeLine), acc ++ [y], upd_same, by simp [a2], hput _ _ _ _ _ hD z⟩
end
end
end Bk

set_option Elab.async false
set_option linter.all false
set_option maxRecDepth 100000
set_option maxHeartbeats 2000000
namespace Bk
open PySem PySem.Spec PyProof.Rows L2
/-! ### errors that keep one thing -/
/-- what __init__ of such a class does: the thing at the field fl -/
def spKeep (fl : Str) (C : Addr) : Sp := fun vs H Q _ => ∃ (a : Addr) (v : V), vs = [.ref a, v] ∧ OexFree H a C ∧ ∀ dx, H dx = none → dx ≠ a → Q .non (upd (upd H dx (exd dx [(fl, v)])) a (exo a C (some dx)))
where OexFree (H : Hp) (a C : Addr) : Prop := H a = some (exo a C none)
theorem keep_read {K : PySem.W.Frag} {fl : Str} {C : Addr} {D : Ends} {σ : L2.St} {H : Hp} {a : Addr} {v : V} (T : OexC K C) (hno : PySem.W.findIn K (.ref C) fl = some none) (h0 : σ[0]? = some (some (.ref a))) (h1 : σ[1]? = some (some v)) (ha : H a = some (exo a C none))
    (q : ∀ dx, H dx = none → dx ≠ a → D.nx σ (upd (upd H dx (exd dx [(fl, v)])) a (exo a C (some dx)))) : tOst K fl (tVar 0) (tVar 1) D σ H :=
  ⟨v, h1, .ref a, h0, a, C, rfl, T, hno, .inl ⟨ha, q⟩⟩
/-- C(e) read: the error's own dict is new and holds the thing -/
theorem r_mkO {fl : Str} {C : Addr} {ta : TA} {σ : L2.St} {H : Hp} {Q : XK} (h : ta σ H fun vs H1 => ∃ v, vs = [v] ∧ ∀ d, H1 d = none → Q (.ref C) (some d) (upd H1 d (.xd [(fl, v)]))) (m : ∀ {P P' : List V → Hp → Prop}, (∀ vs H1, P vs H1 → P' vs H1) → ta σ H P → ta σ H P') :
    tMkO C (spKeep fl C) [] ta σ H Q := by
  refine m (fun vs H1 z => ?_) h
  obtain ⟨v, rfl, q⟩ := z
  refine ⟨by simp, fun a ha => ⟨a, v, rfl, upd_same, fun dx hdx hne => ⟨rfl, dx, [(fl, v)], upd_same, ?_, ?_, ?_⟩⟩⟩
  · rw [upd_ne hne, upd_same]
  · rw [upd_ne hne] at hdx
    exact hdx
  · have e : upd (del (upd (upd (upd H1 a (exo a C none)) dx (exd dx [(fl, v)])) a (exo a C (some dx))) a) dx (.xd [(fl, v)]) = upd H1 dx (.xd [(fl, v)]) := by
      funext b
      by_cases hb : b = dx
      · rw [hb, upd_same, upd_same]
      · rw [upd_ne hb, upd_ne hb]
        by_cases hba : b = a
        · rw [hba, del_same, ha]
        · rw [del_ne hba, upd_ne hba, upd_ne hb, upd_ne hba]
    rw [e]
    rw [upd_ne hne] at hdx
    exact q dx hdx
theorem mono_one {te : TE} {σ : L2.St} {H : Hp} (m : ∀ {P P' : VK}, (∀ v H1, P v H1 → P' v H1) → te σ H P → te σ H P') : ∀ {P P' : List V → Hp → Prop}, (∀ vs H1, P vs H1 → P' vs H1) → tCons te tNil σ H P → tCons te tNil σ H P' :=
  fun h q => m (fun v H1 z => h _ _ z) q
/-- raise C(e), the argument a value without a step that is not told -/
theorem r_raise {fl : Str} {C : Addr} {te : TE} {W : WX} {D : Ends} {σ : L2.St} {H : Hp} {v : V} (hv : ∀ {Q : VK}, Q v H → te σ H Q) (q : ∀ d, H d = none → W (.ref C) (some d) σ (upd H d (.xd [(fl, v)]))) :
    (fun σ H => tMkO C (spKeep fl C) [] (tCons te tNil) σ H fun cls d H' => W cls d σ H') σ H := by
  refine hv ?_
  refine ⟨by simp, fun a ha => ⟨a, v, rfl, upd_same, fun dx hdx hne => ⟨rfl, dx, [(fl, v)], upd_same, ?_, ?_, ?_⟩⟩⟩
  · rw [upd_ne hne, upd_same]
  · rw [upd_ne hne] at hdx
    exact hdx
  · have e : upd (del (upd (upd (upd H a (exo a C none)) dx (exd dx [(fl, v)])) a (exo a C (some dx))) a) dx (.xd [(fl, v)]) = upd H dx (.xd [(fl, v)]) := by
      funext b
      by_cases hb : b = dx
      · rw [hb, upd_same, upd_same]
      · rw [upd_ne hb, upd_ne hb]
        by_cases hba : b = a
        · rw [hba, del_same, ha]
        · rw [del_ne hba, upd_ne hba, upd_ne hb, upd_ne hba]
    rw [e]
    rw [upd_ne hne] at hdx
    exact q dx hdx
/-! ### isinstance(e, c), e an error that keeps things -/
def rIsX (K : PySem.W.Frag) (a : Addr) (cls : Value) (d : Option Addr) : List V → Hp → VK → Prop := fun xs H Q => ∃ (D : Addr) (c : V) (cv : Value) (b : Bool) (dd : Addr) (fs : List (Str × V)), xs = [.ref a, c] ∧ cls = .ref D ∧ ExcC K D ∧ d = some dd ∧ H dd = some (.xd fs) ∧
  (∀ u, RelV c u → u = cv) ∧ PySem.W.kitOne K (.ref D) cv = some b ∧ Q (.bl b) H
theorem call_isX {X : Cx} {a : Addr} {oe : Obj} {cls : Value} {d : Option Addr} {pn : List (Addr × Obj)} (hz : Zc cls d oe) (hf : ∃ vs, oe.data = .fields vs) : CallR (X.suite a ((a, oe) :: pn)) (.builtin "isinstance") (rIsX X.K a cls d) := by
  intro pins s σ H xs us Q I r h
  obtain ⟨D, c, cv, b, dd, fs, rfl, rfl, C, rfl, hd, hcv, e, q⟩ := h
  cases r with
  | cons rx rr =>
    cases rr with
    | cons rt rr =>
      cases rr
      cases rx
      have ec := hcv _ rt
      subst ec
      obtain ⟨hget, _⟩ := I.pin (a, oe) (List.mem_append.mpr (.inl List.mem_cons_self))
      obtain ⟨vs, hv⟩ := hf
      obtain ⟨mA, hns, _⟩ : ObjOk X.prog X.w H s.heap dd (.xd fs) := I.hok dd _ hd
      obtain ⟨od, hod, _⟩ := lookIn_ns hns
      have J : PySem.W.InstAt s.heap a oe D (some od) := ⟨hget, hz.1, by unfold PySem.W.notCls; rw [hv] <;> rfl, by rw [hz.2]; exact hod⟩
      have hcl : (PySem.W.clsIn X.K D).isSome = true := by
        obtain ⟨cd, hc, _⟩ := PySem.W.any_some C.hd
        rw [hc] <;> rfl
      exact PySem.W.kia_one (PySem.W.kitx_exc hcl C.hg C.hk C.hs C.ha C.hn C.ht C.hm) I.kIn J e (fun z => nomatch z) fun tk => ⟨.bl b, H, I.kept (t' := tk) fun _ _ z => z, rfl, q⟩
theorem r_isX {K : PySem.W.Frag} {a D dd : Addr} {c : V} {cv : Value} {b : Bool} {fs : List (Str × V)} {H : Hp} {Q : VK} (C : ExcC K D) (hd : H dd = some (.xd fs)) (hcv : ∀ u, RelV c u → u = cv) (e : PySem.W.kitOne K (.ref D) cv = some b) (q : Q (.bl b) H) :
    rIsX K a (.ref D) (some dd) [.ref a, c] H Q := ⟨D, c, cv, b, dd, fs, rfl, rfl, C, rfl, hd, hcv, e, q⟩
theorem r_xf {a C dd : Addr} {f : Str} {te : TE} {σ : L2.St} {H : Hp} {Q : VK} {fs : List (Str × V)} {v : V} (h : te σ H fun x H1 => x = .ref a ∧ H1 dd = some (.xd fs) ∧ fs.lookup f = some v ∧ Q v H1)
    (m : ∀ {P P' : VK}, (∀ v H1, P v H1 → P' v H1) → te σ H P → te σ H P') : tXf a (.ref C) (some dd) C f te σ H Q :=
  m (fun x H1 ⟨e1, e2, e3, e4⟩ => ⟨e1, rfl, dd, fs, v, rfl, e2, e3, e4⟩) h
end Bk

set_option Elab.async false
set_option linter.all false
set_option maxRecDepth 100000
set_option maxHeartbeats 4000000
namespace Bk
open PySem PySem.Spec PyProof.Rows L2
/-! ### loops -/
theorem for_enum {K : PySem.W.Frag} {a : Addr} {xs : List V} {g : TG} {tb : TS} {D : Ends} {σ : L2.St} {H : Hp} (Pv : Nat → L2.St → Hp → Prop) (h0 : Pv 0 σ H) (hq : ∀ i σ H, Pv i σ H → SqL K H a xs)
    (hs : ∀ (i : Nat) (x : V) (T : Addr) (σ : L2.St) (H : Hp), i < xs.length → xs[i]? = some x → Pv i σ H → H T = none → g (.ref T) σ (upd H T (.tup [.int (i : Nat), x])) fun σ2 H2 => tb { D with nx := Pv (i + 1), ct := Pv (i + 1), bk := D.nx } σ2 H2) (hd : ∀ σ H, Pv xs.length σ H → D.nx σ H) :
    ∃ W : Nat → Nat → L2.St → Hp → Prop, (∃ m, W 0 m σ H) ∧ ∀ i m σ H, W i m σ H →
      ((Ite K a).stop i H ∧ D.nx σ H) ∨ ((Ite K a).go i H ∧ ∃ N : L2.St → Hp → Prop, (∀ σ' H', N σ' H' → ∃ m', m' < m ∧ W (i + 1) m' σ' H') ∧ ∀ v H', (Ite K a).yld i H v H' → g v σ H' fun σ2 H2 => tb { D with nx := N, ct := N, bk := D.nx } σ2 H2) := by
  refine ⟨fun i m σ H => m = xs.length - i ∧ i ≤ xs.length ∧ Pv i σ H, ⟨xs.length, rfl, Nat.zero_le _, h0⟩, ?_⟩
  rintro i m σ H ⟨rfl, hi, p⟩
  have qx := hq i σ H p
  by_cases hlt : i < xs.length
  · have hx : xs[i]? = some xs[i] := List.getElem?_eq_getElem hlt
    refine .inr ⟨⟨xs, _, qx, hx⟩, Pv (i + 1), fun σ' H' p' => ⟨xs.length - (i + 1), by omega, rfl, hlt, p'⟩, fun v H' y => ?_⟩
    obtain ⟨T, x', rfl, hT, rfl, f1⟩ := y
    exact hs i x' T σ H hlt (f1 xs qx) p hT
  · have e : i = xs.length := by omega
    subst e
    exact .inl ⟨⟨xs, qx, Nat.le_refl _⟩, hd σ H p⟩
section
variable {K : PySem.W.Frag} {σ : L2.St} {H : Hp} {D : Ends}
/-- a target of two names, the pair new at T -/
theorem r_pair {i j : Nat} {x y : V} {T : Addr} {Q : L2.St → Hp → Prop} (h : Q ((σ.set i (some x)).set j (some y)) (upd H T (.tup [x, y]))) :
    gTup K 2 (gCons (gName i) (gCons (gName j) gNil)) (.ref T) σ (upd H T (.tup [x, y])) Q :=
  ⟨T, [x, y], rfl, SqT.of upd_same, rfl, x, [y], rfl, y, [], rfl, rfl, h⟩
theorem r_for {wi : TI} {g : TG} {tb : TS} (h : wi σ H fun J H1 => ∃ W : Nat → Nat → L2.St → Hp → Prop, (∃ m, W 0 m σ H1) ∧ ∀ i m σ H, W i m σ H →
      (J.stop i H ∧ D.nx σ H) ∨ (J.go i H ∧ ∃ N : L2.St → Hp → Prop, (∀ σ' H', N σ' H' → ∃ m', m' < m ∧ W (i + 1) m' σ' H') ∧ ∀ x H', J.yld i H x H' → g x σ H' fun σ2 H2 => tb { D with nx := N, ct := N, bk := D.nx } σ2 H2)) : tFor wi g tb D σ H := h
theorem r_lcS {S : Addr → Prop} {te ta : TE} {j : Nat} {x : Str} {Q : VK} (Pv : Addr → Nat → List V → Hp → Prop) (hS : ∀ a, S a → H a ≠ none) (hlen : x.cps.size ≤ 1000) (hput : ∀ D i acc H' o, H D = none → Pv D i acc H' → Pv D i acc (upd H' D o)) (h0 : ∀ D, H D = none → Pv D 0 [] H)
    (hs : ∀ D i c acc H', i < x.cps.size → x.cps[i]? = some c → H D = none → H' D = some (.lst acc) → Pv D i acc H' → ∀ Q' : VK, (∀ y H4, Pv D (i + 1) (acc ++ [y]) H4 → Keep S H' H4 → Q' y H4) → te ((σ.set j none).set j (some (.str ⟨#[c]⟩))) H' Q')
    (hd : ∀ D acc H', H D = none → Pv D x.cps.size acc H' → H' D = some (.lst acc) → acc.length = x.cps.size → Q (.ref D) H') (hta : ∀ R : VK, R (.str x) H → ta σ H R) :
    tLc (iStr ta) (gName j) tYes te [j] σ H Q := by
  refine hta _ ⟨x, rfl, fun D hD => ?_⟩
  refine ⟨fun i m H' => m = x.cps.size - i ∧ i ≤ x.cps.size ∧ ∃ acc, H' D = some (.lst acc) ∧ acc.length = i ∧ Pv D i acc H', ⟨x.cps.size, rfl, Nat.zero_le _, [], upd_same, rfl, hput _ _ _ _ _ hD (h0 D hD)⟩, ?_⟩
  rintro i m H' ⟨rfl, hi, acc, a1, a2, a3⟩
  by_cases hlt : i < x.cps.size
  · refine .inr ⟨hlt, fun H' => ∃ acc, H' D = some (.lst acc) ∧ acc.length = i + 1 ∧ Pv D (i + 1) acc H', fun H' p' => ⟨x.cps.size - (i + 1), by omega, rfl, hlt, p'⟩, fun v H2 y => ?_⟩
    obtain ⟨rfl, c, hc, rfl⟩ := y
    refine ⟨wipe_set σ j _, yes_if ?_⟩
    refine hs D i c acc _ hlt hc hD a1 a3 _ fun y H4 z k => ⟨acc, k D _ (fun s => hS D s hD) a1, Nat.lt_of_le_of_lt (by omega) (by decide : 1000 < sizeLine), acc ++ [y], upd_same, by simp [a2], hput _ _ _ _ _ hD z⟩
  · have e : i = x.cps.size := by omega
    subst e
    exact .inl ⟨Nat.le_refl _, hd D acc H' hD a3 a1 a2⟩
/-- over range(n) -/
theorem r_lcR {S : Addr → Prop} {te ta : TE} {j n : Nat} {Q : VK} (Pv : Addr → Nat → List V → Hp → Prop) (hS : ∀ a, S a → H a ≠ none) (hlen : n ≤ 1000) (hput : ∀ D i acc H' o, H D = none → Pv D i acc H' → Pv D i acc (upd H' D o)) (h0 : ∀ D, H D = none → Pv D 0 [] H)
    (hs : ∀ D i acc H', i < n → H D = none → H' D = some (.lst acc) → Pv D i acc H' → ∀ Q' : VK, (∀ y H4, Pv D (i + 1) (acc ++ [y]) H4 → Keep S H' H4 → Q' y H4) → te ((σ.set j none).set j (some (.int (i : Nat)))) H' Q')
    (hd : ∀ D acc H', H D = none → Pv D n acc H' → H' D = some (.lst acc) → acc.length = n → Q (.ref D) H') (hta : ∀ R : VK, R (.int (n : Nat)) H → ta σ H R) :
    tLc (iRng1 (tCons ta tNil)) (gName j) tYes te [j] σ H Q := by
  refine hta (fun x H1 => tNil σ H1 fun xs H2 => _) ⟨(n : Nat), rfl, by omega, by omega, fun D hD => ?_⟩
  rw [Int.toNat_natCast]
  exact lc_rng Pv hS hlen hput h0 hs hd D hD
/-! ### fields, slices -/
theorem r_sfld {ta tv : TE} {f : Str} (h : tv σ H fun y H1 => ta σ H1 fun x H2 => ∃ a C dx fs, x = .ref a ∧ H2 a = some (.ins C dx fs) ∧ Cls K C ∧ NoAttr K C f ∧ fs.length < 1000 ∧ D.nx σ (upd H2 a (.ins C dx (putF f y fs)))) : sFld K ta tv f D σ H := h
theorem r_sl {r : V → Option Int → Option Int → Hp → VK → Prop} {te : TE} {tl th : TO} {Q : VK} (h : te σ H fun x H1 => tl σ H1 fun l H2 => th σ H2 fun u H3 => r x l u H3 Q) : tSl r te tl th σ H Q := h
theorem r_nopart {Q : Option Int → Hp → Prop} (h : Q none H) : tNoPart σ H Q := h
theorem r_part {te : TE} {Q : Option Int → Hp → Prop} (h : te σ H fun x H1 => ∃ i, x = .int i ∧ Q (some i) H1) : tPart te σ H Q := h
theorem r_lc0 {ta te : TE} {g : TG} {tt : TT} {vs : List Nat} {Q : VK} (h : ta σ H fun x H1 => tLc (iList K (tC x)) g tt te vs σ H1 Q) : tLc (iList K ta) g tt te vs σ H Q := h
theorem r_js {t : TE} {ts : List TE} {acc : Str} {Q : Str → Hp → Prop} (h : t σ H fun x H1 => ∃ y : Str, x = .str y ∧ (acc ++ y).length ≤ sizeLine ∧ tJs ts (acc ++ y) σ H1 Q) : tJs (t :: ts) acc σ H Q := h
theorem r_jn {acc : Str} {Q : Str → Hp → Prop} (h : Q acc H) : tJs [] acc σ H Q := h
theorem r_fmt {te : TE} {Q : VK} (h : te σ H fun x H1 => (∃ y : Str, x = .str y ∧ y.length ≤ sizeLine ∧ Q (.str y) H1) ∨ ∃ i : Int, x = .int i ∧ i.natAbs.log2 < 1920 ∧ Q (.str (toString i)) H1) : tFmt te σ H Q := h
theorem r_bm {T : String} {r : V → List V → Hp → VK → Prop} {ta : TE} {tb : TA} {Q : VK} (h : ta σ H fun x H1 => tyV K T x H1 ∧ tb σ H1 fun vs H2 => r x vs H2 Q) : tBM K T r ta tb σ H Q := h
theorem r_tyL {p : Addr} {xs : List V} {P : Prop} (h : H p = some (.lst xs)) (q : P) : tyV K "list" (.ref p) H ∧ P := ⟨.inl ⟨rfl, _, SqL.of h⟩, q⟩
theorem r_app {p : Addr} {xs : List V} {y : V} {Q : VK} (h : H p = some (.lst xs)) (hz : xs.length ≤ 10000) (q : Q .non (upd H p (.lst (xs ++ [y])))) : rAppend (.ref p) [y] H Q := ⟨p, xs, y, rfl, rfl, h, Nat.lt_of_le_of_lt hz (by decide), q⟩
theorem r_cat {p q : Addr} {xs ys : List V} {Q : VK} (h1 : H p = some (.lst xs)) (h2 : H q = some (.lst ys)) (hz : xs.length + ys.length ≤ 20000) (k : ∀ l, H l = none → Q (.ref l) (upd H l (.lst (xs ++ ys)))) : rCat (.ref p) (.ref q) H Q := ⟨p, q, xs, ys, rfl, rfl, h1, h2, Nat.le_trans hz (by decide), k⟩
theorem r_join {p : Addr} {x : Str} {ys : List Str} {Q : VK} (h : SqL K H p (ys.map V.str)) (hz : (ys.map (·.length)).sum + ys.length * x.length ≤ 16777216) (q : Q (.str (Txt.join x ys)) H) :
    ∃ a l, ∃ zs : List Str, V.str x = .str a ∧ [V.ref p] = [.ref l] ∧ (SqL K H l (zs.map V.str) ∨ SqT K H l (zs.map V.str)) ∧ (zs.map (·.length)).sum + zs.length * a.length ≤ 16777216 ∧ Q (.str (Txt.join a zs)) H :=
  ⟨x, p, ys, rfl, rfl, .inl h, hz, q⟩
theorem r_zipS {ta : TA} {R : It → Hp → Prop} (h : ta σ H fun vs H1 => ∃ x b ys, vs = [.str x, .ref b] ∧ SqT K H1 b ys ∧ R (ItzS K x b) H1) : iZipS K ta σ H R := h
theorem r_enum {ta : TA} {R : It → Hp → Prop} (h : ta σ H fun vs H1 => ∃ a xs, vs = [.ref a] ∧ SqL K H1 a xs ∧ R (Ite K a) H1) : iEnum K ta σ H R := h
theorem r_rng1 {ta : TA} {R : It → Hp → Prop} (h : ta σ H fun vs H1 => ∃ j : Int, vs = [.int j] ∧ -(2 ^ 62) ≤ j ∧ j < 2 ^ 62 ∧ R (Itr 0 j.toNat) H1) : iRng1 ta σ H R := h
theorem r_make {C : Addr} {sp : Sp} {dvs : List V} {E : XK} {t : TA} {Q : VK} (h : t σ H fun vs H1 => ∀ x dx, H1 x = none → H1 dx = none → dx ≠ x → sp (.ref x :: (vs ++ dvs)) (upd (upd H1 dx (.own x)) x (.ins C dx [])) (fun v H2 => v = .non ∧ Q (.ref x) H2) E) : tMake C sp dvs E t σ H Q := h
theorem upd2 {b : Addr} {o o' : HO} : upd (upd H b o) b o' = upd H b o' := by
  funext c
  by_cases hc : c = b
  · rw [hc, upd_same, upd_same]
  · rw [upd_ne hc, upd_ne hc, upd_ne hc]
theorem r_gn {i : Nat} {v : V} {Q : L2.St → Hp → Prop} (h : Q (σ.set i (some v)) H) : gName i v σ H Q := h
theorem r_isS {x : Str} {P : Prop} (h : P) : (∃ a, V.str x = V.str a) ∧ P := ⟨⟨x, rfl⟩, h⟩
theorem r_exi {i : Int} {P : Int → Prop} (h : P i) : ∃ j, V.int i = V.int j ∧ P j := ⟨i, rfl, h⟩
theorem r_slS {z : Str} {lo hi : Option Int} {Q : VK} (hz : z.length ≤ 100000) (q : Q (.str (cutS z lo hi)) H) : rSlS (.str z) lo hi H Q := ⟨z, rfl, Nat.le_trans hz (by decide), q⟩
theorem r_slL {p : Addr} {xs : List V} {lo hi : Option Int} {Q : VK} (h : SqL K H p xs) (q : ∀ l, H l = none → Q (.ref l) (upd H l (.lst (cutV xs lo hi)))) : rSlL K (.ref p) lo hi H Q := ⟨p, xs, rfl, h, q⟩
end
end Bk

set_option Elab.async false
set_option linter.all false
set_option maxRecDepth 100000
set_option maxHeartbeats 4000000
namespace Bk
open PySem PySem.Spec PyProof.Rows L2
def topS (i : Nat) : Stmt := PySem.Challenge.pw_backinstep_k04_texts_of_devices.main.body.getD i (.Pass ⟨0, 0, 0, 0⟩)
abbrev s_is_integer : Stmt := topS 7
abbrev N_is_integer : List Str := ["value"]
abbrev P_is_integer : List Str := ["value"]
theorem sc_is_integer : FnScope N_is_integer P_is_integer (defScope s_is_integer) := ⟨rfl, rfl, rfl, by decide +kernel, rfl, by decide +kernel, by decide +kernel⟩
abbrev s_is_number_to : Stmt := topS 8
abbrev N_is_number_to : List Str := ["value", "least", "most"]
abbrev P_is_number_to : List Str := ["value", "least", "most"]
theorem sc_is_number_to : FnScope N_is_number_to P_is_number_to (defScope s_is_number_to) := ⟨rfl, rfl, rfl, by decide +kernel, rfl, by decide +kernel, by decide +kernel⟩
abbrev s_is_sequence : Stmt := topS 9
abbrev N_is_sequence : List Str := ["value"]
abbrev P_is_sequence : List Str := ["value"]
theorem sc_is_sequence : FnScope N_is_sequence P_is_sequence (defScope s_is_sequence) := ⟨rfl, rfl, rfl, by decide +kernel, rfl, by decide +kernel, by decide +kernel⟩
abbrev s_is_sequence_of : Stmt := topS 10
abbrev N_is_sequence_of : List Str := ["value", "many"]
abbrev P_is_sequence_of : List Str := ["value", "many"]
theorem sc_is_sequence_of : FnScope N_is_sequence_of P_is_sequence_of (defScope s_is_sequence_of) := ⟨rfl, rfl, rfl, by decide +kernel, rfl, by decide +kernel, by decide +kernel⟩
abbrev s_is_table : Stmt := topS 14
abbrev N_is_table : List Str := ["value", "states", "item"]
abbrev P_is_table : List Str := ["value", "states"]
theorem sc_is_table : FnScope N_is_table P_is_table (defScope s_is_table) := ⟨rfl, rfl, rfl, by decide +kernel, rfl, by decide +kernel, by decide +kernel⟩
abbrev s_checked_tables : Stmt := topS 15
abbrev N_checked_tables : List Str := ["tables", "first", "at", "table"]
abbrev P_checked_tables : List Str := ["tables"]
theorem sc_checked_tables : FnScope N_checked_tables P_checked_tables (defScope s_checked_tables) := ⟨rfl, rfl, rfl, by decide +kernel, rfl, by decide +kernel, by decide +kernel⟩
abbrev s_device_text : Stmt := topS 18
abbrev N_device_text : List Str := ["device", "lines", "sign", "table", "state"]
abbrev P_device_text : List Str := ["device"]
theorem sc_device_text : FnScope N_device_text P_device_text (defScope s_device_text) := ⟨rfl, rfl, rfl, by decide +kernel, rfl, by decide +kernel, by decide +kernel⟩
abbrev s_read_device : Stmt := topS 19
abbrev N_read_device : List Str := ["text", "lines", "states", "tables", "at", "line", "table"]
abbrev P_read_device : List Str := ["text"]
theorem sc_read_device : FnScope N_read_device P_read_device (defScope s_read_device) := ⟨rfl, rfl, rfl, by decide +kernel, rfl, by decide +kernel, by decide +kernel⟩
abbrev s_read_states : Stmt := topS 20
abbrev N_read_states : List Str := ["line", "words"]
abbrev P_read_states : List Str := ["line"]
theorem sc_read_states : FnScope N_read_states P_read_states (defScope s_read_states) := ⟨rfl, rfl, rfl, by decide +kernel, rfl, by decide +kernel, by decide +kernel⟩
abbrev s_read_table : Stmt := topS 21
abbrev N_read_table : List Str := ["line", "at", "states", "words", "table", "word"]
abbrev P_read_table : List Str := ["line", "at", "states"]
theorem sc_read_table : FnScope N_read_table P_read_table (defScope s_read_table) := ⟨rfl, rfl, rfl, by decide +kernel, rfl, by decide +kernel, by decide +kernel⟩
abbrev s_read_number : Stmt := topS 22
abbrev N_read_number : List Str := ["word", "most", "number", "sign"]
abbrev P_read_number : List Str := ["word", "most"]
theorem sc_read_number : FnScope N_read_number P_read_number (defScope s_read_number) := ⟨rfl, rfl, rfl, by decide +kernel, rfl, by decide +kernel, by decide +kernel⟩
abbrev s_law_box : Stmt := topS 24
abbrev N_law_box : List Str := ["_law_script", "_law_k", "_law_cell"]
abbrev P_law_box : List Str := ["_law_script", "_law_k"]
theorem sc_law_box : FnScope N_law_box P_law_box (defScope s_law_box) := ⟨rfl, rfl, rfl, by decide +kernel, rfl, by decide +kernel, by decide +kernel⟩
abbrev s_law_take : Stmt := topS 25
abbrev N_law_take : List Str := ["_law_box_here", "_law_many", "_law_digit", "_law_raw"]
abbrev P_law_take : List Str := ["_law_box_here", "_law_many"]
theorem sc_law_take : FnScope N_law_take P_law_take (defScope s_law_take) := ⟨rfl, rfl, rfl, by decide +kernel, rfl, by decide +kernel, by decide +kernel⟩
abbrev s_law_pick : Stmt := topS 26
abbrev N_law_pick : List Str := ["_law_box_here", "_law_some"]
abbrev P_law_pick : List Str := ["_law_box_here", "_law_some"]
theorem sc_law_pick : FnScope N_law_pick P_law_pick (defScope s_law_pick) := ⟨rfl, rfl, rfl, by decide +kernel, rfl, by decide +kernel, by decide +kernel⟩
abbrev s_law_tables : Stmt := topS 27
abbrev N_law_tables : List Str := ["_law_box_here", "_law_most", "_law_signals", "_law_many", "_law_found", "_law_signal", "_law_style", "_law_shift", "_law_state"]
abbrev P_law_tables : List Str := ["_law_box_here", "_law_most", "_law_signals"]
theorem sc_law_tables : FnScope N_law_tables P_law_tables (defScope s_law_tables) := ⟨rfl, rfl, rfl, by decide +kernel, rfl, by decide +kernel, by decide +kernel⟩
abbrev s_law_reads : Stmt := topS 30
abbrev N_law_reads : List Str := ["_law_text", "e"]
abbrev P_law_reads : List Str := ["_law_text"]
theorem sc_law_reads : FnScope N_law_reads P_law_reads (defScope s_law_reads) := ⟨rfl, rfl, rfl, by decide +kernel, rfl, by decide +kernel, by decide +kernel⟩
abbrev s_law_case_right : Stmt := topS 31
abbrev N_law_case_right : List Str := ["_law_box_here", "_law_tables_here", "_law_device", "_law_lines", "_law_at", "_law_text", "_law_line", "_law_head", "_law_bent", "_law_odd", "_law_state"]
abbrev P_law_case_right : List Str := ["_law_box_here"]
theorem sc_law_case_right : FnScope N_law_case_right P_law_case_right (defScope s_law_case_right) := ⟨rfl, rfl, rfl, by decide +kernel, rfl, by decide +kernel, by decide +kernel⟩
abbrev s_law : Stmt := topS 32
abbrev N_law : List Str := ["_law_script", "_law_k", "_law_most"]
abbrev P_law : List Str := ["_law_script"]
theorem sc_law : FnScope N_law P_law (defScope s_law) := ⟨rfl, rfl, rfl, by decide +kernel, rfl, by decide +kernel, by decide +kernel⟩
abbrev s_Device_init : Stmt := inClass (topS 13) 0
abbrev N_Device_init : List Str := ["self", "tables"]
abbrev P_Device_init : List Str := ["self", "tables"]
theorem sc_Device_init : FnScope N_Device_init P_Device_init (defScope s_Device_init) := ⟨rfl, rfl, rfl, by decide +kernel, rfl, by decide +kernel, by decide +kernel⟩
abbrev s_Device_eq : Stmt := inClass (topS 13) 1
abbrev N_Device_eq : List Str := ["self", "other"]
abbrev P_Device_eq : List Str := ["self", "other"]
theorem sc_Device_eq : FnScope N_Device_eq P_Device_eq (defScope s_Device_eq) := ⟨rfl, rfl, rfl, by decide +kernel, rfl, by decide +kernel, by decide +kernel⟩
abbrev s_BadText_init : Stmt := inClass (topS 4) 0
abbrev N_BadText_init : List Str := ["self", "at"]
abbrev P_BadText_init : List Str := ["self", "at"]
theorem sc_BadText_init : FnScope N_BadText_init P_BadText_init (defScope s_BadText_init) := ⟨rfl, rfl, rfl, by decide +kernel, rfl, by decide +kernel, by decide +kernel⟩
/-- where the things of the top stand -/
structure Ad where
  f_is_integer : Addr
  d_is_integer : FuncData
  f_is_number_to : Addr
  d_is_number_to : FuncData
  f_is_sequence : Addr
  d_is_sequence : FuncData
  f_is_sequence_of : Addr
  d_is_sequence_of : FuncData
  f_is_table : Addr
  d_is_table : FuncData
  f_checked_tables : Addr
  d_checked_tables : FuncData
  f_device_text : Addr
  d_device_text : FuncData
  f_read_device : Addr
  d_read_device : FuncData
  f_read_states : Addr
  d_read_states : FuncData
  f_read_table : Addr
  d_read_table : FuncData
  f_read_number : Addr
  d_read_number : FuncData
  f_law_box : Addr
  d_law_box : FuncData
  f_law_take : Addr
  d_law_take : FuncData
  f_law_pick : Addr
  d_law_pick : FuncData
  f_law_tables : Addr
  d_law_tables : FuncData
  f_law_reads : Addr
  d_law_reads : FuncData
  f_law_case_right : Addr
  d_law_case_right : FuncData
  f_law : Addr
  d_law : FuncData
  f_Device_init : Addr
  d_Device_init : FuncData
  f_Device_eq : Addr
  d_Device_eq : FuncData
  f_BadText_init : Addr
  d_BadText_init : FuncData
  C_Device : Addr
  C_BadText : Addr
  C_BackError : Addr
  C_BadDevice : Addr
/-- what the top has written -/
structure Txt (K : PySem.W.Frag) (mg : Str → Option Value) (a : Ad) : Prop where
  isinstance : mg "isinstance" = none
  int : mg "int" = none
  bool : mg "bool" = none
  list : mg "list" = none
  tuple : mg "tuple" = none
  len : mg "len" = none
  all : mg "all" = none
  enumerate : mg "enumerate" = none
  zip : mg "zip" = none
  str : mg "str" = none
  max : mg "max" = none
  min : mg "min" = none
  abs : mg "abs" = none
  range : mg "range" = none
  g_ALL_SIGNALS : ∃ t, mg "ALL_SIGNALS" = some (.str "abcde" t)
  g_MOST_STATES : ∃ t, mg "MOST_STATES" = some (.int 60 t)
  g_DIGITS : ∃ t, mg "DIGITS" = some (.str "0123456789" t)
  F_is_integer : Fun K "is_integer" "is_integer" s_is_integer a.f_is_integer a.d_is_integer
  mg_is_integer : mg "is_integer" = some (.ref a.f_is_integer)
  b_is_integer : Binds K a.d_is_integer P_is_integer []
  F_is_number_to : Fun K "is_number_to" "is_number_to" s_is_number_to a.f_is_number_to a.d_is_number_to
  mg_is_number_to : mg "is_number_to" = some (.ref a.f_is_number_to)
  b_is_number_to : Binds K a.d_is_number_to P_is_number_to []
  F_is_sequence : Fun K "is_sequence" "is_sequence" s_is_sequence a.f_is_sequence a.d_is_sequence
  mg_is_sequence : mg "is_sequence" = some (.ref a.f_is_sequence)
  b_is_sequence : Binds K a.d_is_sequence P_is_sequence []
  F_is_sequence_of : Fun K "is_sequence_of" "is_sequence_of" s_is_sequence_of a.f_is_sequence_of a.d_is_sequence_of
  mg_is_sequence_of : mg "is_sequence_of" = some (.ref a.f_is_sequence_of)
  b_is_sequence_of : Binds K a.d_is_sequence_of P_is_sequence_of []
  F_is_table : Fun K "is_table" "is_table" s_is_table a.f_is_table a.d_is_table
  mg_is_table : mg "is_table" = some (.ref a.f_is_table)
  b_is_table : Binds K a.d_is_table P_is_table []
  F_checked_tables : Fun K "checked_tables" "checked_tables" s_checked_tables a.f_checked_tables a.d_checked_tables
  mg_checked_tables : mg "checked_tables" = some (.ref a.f_checked_tables)
  b_checked_tables : Binds K a.d_checked_tables P_checked_tables []
  F_device_text : Fun K "device_text" "device_text" s_device_text a.f_device_text a.d_device_text
  mg_device_text : mg "device_text" = some (.ref a.f_device_text)
  b_device_text : Binds K a.d_device_text P_device_text []
  kb_device_text : KB0 a.d_device_text P_device_text
  F_read_device : Fun K "read_device" "read_device" s_read_device a.f_read_device a.d_read_device
  mg_read_device : mg "read_device" = some (.ref a.f_read_device)
  b_read_device : Binds K a.d_read_device P_read_device []
  kb_read_device : KB0 a.d_read_device P_read_device
  F_read_states : Fun K "read_states" "read_states" s_read_states a.f_read_states a.d_read_states
  mg_read_states : mg "read_states" = some (.ref a.f_read_states)
  b_read_states : Binds K a.d_read_states P_read_states []
  F_read_table : Fun K "read_table" "read_table" s_read_table a.f_read_table a.d_read_table
  mg_read_table : mg "read_table" = some (.ref a.f_read_table)
  b_read_table : Binds K a.d_read_table P_read_table []
  F_read_number : Fun K "read_number" "read_number" s_read_number a.f_read_number a.d_read_number
  mg_read_number : mg "read_number" = some (.ref a.f_read_number)
  b_read_number : Binds K a.d_read_number P_read_number []
  F_law_box : Fun K "_law_box" "_law_box" s_law_box a.f_law_box a.d_law_box
  mg_law_box : mg "_law_box" = some (.ref a.f_law_box)
  b_law_box : Binds K a.d_law_box P_law_box []
  F_law_take : Fun K "_law_take" "_law_take" s_law_take a.f_law_take a.d_law_take
  mg_law_take : mg "_law_take" = some (.ref a.f_law_take)
  b_law_take : Binds K a.d_law_take P_law_take []
  F_law_pick : Fun K "_law_pick" "_law_pick" s_law_pick a.f_law_pick a.d_law_pick
  mg_law_pick : mg "_law_pick" = some (.ref a.f_law_pick)
  b_law_pick : Binds K a.d_law_pick P_law_pick []
  F_law_tables : Fun K "_law_tables" "_law_tables" s_law_tables a.f_law_tables a.d_law_tables
  mg_law_tables : mg "_law_tables" = some (.ref a.f_law_tables)
  b_law_tables : Binds K a.d_law_tables P_law_tables []
  F_law_reads : Fun K "_law_reads" "_law_reads" s_law_reads a.f_law_reads a.d_law_reads
  mg_law_reads : mg "_law_reads" = some (.ref a.f_law_reads)
  b_law_reads : Binds K a.d_law_reads P_law_reads []
  F_law_case_right : Fun K "_law_case_right" "_law_case_right" s_law_case_right a.f_law_case_right a.d_law_case_right
  mg_law_case_right : mg "_law_case_right" = some (.ref a.f_law_case_right)
  b_law_case_right : Binds K a.d_law_case_right P_law_case_right []
  F_law : Fun K "law" "law" s_law a.f_law a.d_law
  mg_law : mg "law" = some (.ref a.f_law)
  F_Device_init : Fun K "__init__" "Device.__init__" s_Device_init a.f_Device_init a.d_Device_init
  b_Device_init : Binds K a.d_Device_init P_Device_init []
  F_Device_eq : Fun K "__eq__" "Device.__eq__" s_Device_eq a.f_Device_eq a.d_Device_eq
  b_Device_eq : Binds K a.d_Device_eq P_Device_eq []
  F_BadText_init : Fun K "__init__" "BadText.__init__" s_BadText_init a.f_BadText_init a.d_BadText_init
  b_BadText_init : Binds K a.d_BadText_init P_BadText_init []
  mg_Device : mg "Device" = some (.ref a.C_Device)
  cl_Device : Cls K a.C_Device
  M_Device : Mk K a.C_Device a.f_Device_init
  m_Device_eq : Meth K a.C_Device "__eq__" a.f_Device_eq
  n_Device_tables : NoAttr K a.C_Device "tables"
  n_Device_states : NoAttr K a.C_Device "states"
  n_Device_signals : NoAttr K a.C_Device "signals"
  cc_Device : PySem.W.findIn K (.ref a.C_Device) "__class__" = some (some (.builtin "object.__class__"))
  mo_Device : PySem.W.mroIn K a.C_Device (.type "object") = some true
  ne_Device : PySem.W.findIn K (.ref a.C_Device) "__ne__" = some (some (.builtin "object.__ne__"))
  ob_Device : PySem.W.subIn K (.ref a.C_Device) (.type "object") = some true
  sgc : PySem.W.specialIn K (.builtin "object.__class__") "__get__" = some (some (.builtin "getset_descriptor.__get__"))
  tkc : PySem.W.takesIn K (.builtin "object.__class__") = some true
  mg_BadText : mg "BadText" = some (.ref a.C_BadText)
  oex_BadText : OexC K a.C_BadText
  xf_BadText : XfC K a.C_BadText
  ex_BadText : ExcC K a.C_BadText
  n_BadText_at : PySem.W.findIn K (.ref a.C_BadText) "at" = some none
  i_BadText : PySem.W.findIn K (.ref a.C_BadText) "__init__" = some (some (.ref a.f_BadText_init))
  ti_BadText : PySem.W.typeIn K (.ref a.f_BadText_init) = some (.type "function")
  mg_BackError : mg "BackError" = some (.ref a.C_BackError)
  mg_BadDevice : mg "BadDevice" = some (.ref a.C_BadDevice)
  kit_BadText_BackError : PySem.W.kitOne K (.ref a.C_BadText) (.ref a.C_BackError) = some true
  kit_BadText_BadDevice : PySem.W.kitOne K (.ref a.C_BadText) (.ref a.C_BadDevice) = some false
  exm_BadText_BadText : PySem.W.exmOne K (.ref a.C_BadText) (.ref a.C_BadText) = some true
section
variable {P : Program} {w : World} {K : PySem.W.Frag} {mg : Str → Option Value} {base : Heap} {a : Ad}
theorem ok_BadText_init (T : Txt K mg a) : FnOk P w K mg base CX0 1 a.f_BadText_init a.d_BadText_init P_BadText_init (spKeep "at" a.C_BadText) := by
  refine T.F_BadText_init.ok sc_BadText_init (fun vs H Q E h => ?_) (fun cdv A outer s H vs Q E hr h => ?_)
  · obtain ⟨e, v, rfl, _⟩ := h
    rfl
  · obtain ⟨e, v, rfl, he, k⟩ := h
    exact ⟨_, pss_one (ps_ost (pv 0) (pv 1)), keep_read T.oex_BadText T.n_BadText_at rfl rfl he k⟩
end
end Bk

set_option Elab.async false
set_option linter.all false
set_option maxRecDepth 100000
set_option maxHeartbeats 4000000
namespace Bk
open PySem PySem.Spec PyProof.Rows L2
/-- the walk that needs no fact -/
local macro_rules | `(tactic| walk_at "go1") => `(tactic| with_reducible first
  | refine r_seq ?_ | refine r_set ?_ | refine r_ret ?_ | refine r_drop ?_ | refine r_ifS ?_ | refine r_next ?_ | refine r_asg ?_ | refine r_gSub ?_
  | refine r_var rfl ?_ | refine r_c ?_ | refine r_op ?_ | refine r_un ?_ | refine r_I0 ?_ | refine r_U ?_ | refine r_cons ?_ | refine r_nil ?_ | refine r_CB ?_ | refine r_call ?_
  | refine r_test ?_ | refine r_B ?_ | refine r_not ?_ | refine r_and ?_ | refine r_or ?_ | refine r_andV ?_ | refine r_orV ?_ | refine r_notV ?_ | refine r_if ?_ | refine r_exb ?_ | refine r_exc ?_
  | refine brTT ?_ | refine brFF ?_ | refine brNTT ?_ | refine brNFF ?_ | refine r_chain ?_ | refine r_sl ?_ | refine r_nopart ?_ | refine r_part ?_ | refine r_exi ?_ | refine r_gn ?_ | refine r_make ?_ | refine r_zipS ?_ | refine r_enum ?_ | refine r_rng1 ?_ | refine r_js ?_ | refine r_jn ?_ | refine r_fmt ?_ | refine r_bm ?_ | refine r_isS ?_ | refine r_sfld ?_ | refine r_m0 ?_ | refine r_m1 ?_
  | refine r_lst ?_ | refine r_tup ?_ | refine r_fld ?_ | refine r_int ?_ | refine r_intB ?_ | refine r_abs ?_)
local macro_rules | `(tactic| walk_at "go") => `(tactic| repeat walk_at "go1")
local macro_rules | `(tactic| walk_at "cond") => `(tactic| first
  | (show (0 : Int) < _; first | omega | assumption)
  | exact cdiv (by first | omega | assumption) (by first | omega | assumption)
  | exact cmulL (by omega) (by omega)
  | exact cmulR (by omega) (by omega))
local macro_rules | `(tactic| walk_at "hp") => `(tactic| first | assumption | exact upd_same)
local macro_rules | `(tactic| walk_at "ixL") => `(tactic| ((with_reducible refine' r_ixL (SqL.of ?h) ?a ?_); (case h => walk_at "hp"); (case a => rfl)))
local macro_rules | `(tactic| walk_at "setL") => `(tactic| ((with_reducible refine' r_setL ?h ?a ?_); (case h => walk_at "hp"); (case a => rfl)))
local macro_rules | `(tactic| walk_at "rI") => `(tactic| ((with_reducible refine r_I ?c ?_); (case c => walk_at "cond")))
local macro_rules | `(tactic| walk_at "eqs") => `(tactic| first | (with_reducible first | refine r_eqI ?_ | refine r_neI ?_ | refine r_eqS ?_ | refine r_neS ?_) | ((with_reducible first | refine r_eq ?c ?_ | refine r_ne ?c ?_); (case c => rfl)))
local macro_rules | `(tactic| walk_at "st1") => `(tactic| first
  | walk_at "go1"
  | walk_at "rI" | walk_at "ixL" | walk_at "setL" | walk_at "eqs")
local macro_rules | `(tactic| walk_at "st") => `(tactic| repeat walk_at "st1")
/-! ### values and tables -/
def Tab (H : Hp) (p : Addr) (qs : List Addr) (ts : List (List Int)) : Prop :=
  H p = some (.lst (qs.map V.ref)) ∧ qs.length = ts.length ∧ ∀ (i : Nat) q t, qs[i]? = some q → ts[i]? = some t → H q = some (.lst (t.map V.int))
def TabT (H : Hp) (p : Addr) (qs : List Addr) (ts : List (List Int)) : Prop :=
  H p = some (.tup (qs.map V.ref)) ∧ qs.length = ts.length ∧ ∀ (i : Nat) q t, qs[i]? = some q → ts[i]? = some t → H q = some (.tup (t.map V.int))
structure Good (ts : List (List Int)) (n : Nat) : Prop where
  l0 : 1 ≤ ts.length
  l5 : ts.length ≤ 5
  n0 : 1 ≤ n
  n60 : n ≤ 60
  rows : ∀ t ∈ ts, t.length = n ∧ ∀ x ∈ t, 0 ≤ x ∧ x < n
theorem Tab.mono {H H' : Hp} {p : Addr} {qs : List Addr} {ts : List (List Int)} (h : Tab H p qs ts) (e : Same H H') : Tab H' p qs ts :=
  ⟨e _ _ h.1, h.2.1, fun i q t h1 h2 => e _ _ (h.2.2 i q t h1 h2)⟩
theorem TabT.mono {H H' : Hp} {p : Addr} {qs : List Addr} {ts : List (List Int)} (h : TabT H p qs ts) (e : Same H H') : TabT H' p qs ts :=
  ⟨e _ _ h.1, h.2.1, fun i q t h1 h2 => e _ _ (h.2.2 i q t h1 h2)⟩
section
variable {P : Program} {w : World} {K : PySem.W.Frag} {mg : Str → Option Value} {base : Heap} {a : Ad}
/-! ### is_integer, is_number_to, is_sequence, is_sequence_of -/
def sp_is_integer : Sp := fun vs H Q _ => ∃ i : Int, vs = [.int i] ∧ Q (.bl true) H
theorem ok_is_integer (T : Txt K mg a) : FnOk P w K mg base CX0 1 a.f_is_integer a.d_is_integer P_is_integer sp_is_integer := by
  refine T.F_is_integer.ok sc_is_integer (fun vs H Q E h => ?_) (fun cdv A outer s H vs Q E hr h => ?_)
  · obtain ⟨i, rfl, _⟩ := h
    rfl
  · obtain ⟨i, rfl, k⟩ := h
    refine ⟨_, (pss_one (ps_ret (pe_and (pe_callB (c_isiK (K := K)) (by rfl) T.isinstance (by decide +kernel) (pa_cons (pv 0) (pa_cons (pe_bltn (v := .ty "int") (u := .type "int") (by rfl) T.int (by decide +kernel) rfl) pa_nil))) (pe_one (pe_not (pe_callB (c_isiK (K := K)) (by rfl) T.isinstance (by decide +kernel) (pa_cons (pv 0) (pa_cons (pe_bltn (v := .ty "bool") (u := .type "bool") (by rfl) T.bool (by decide +kernel) rfl) pa_nil)))))))), ?_⟩
    walk_at "st"
    refine r_isi (nm := "int") (b := true) (.base (.int i)) (by decide +kernel) ?_
    walk_at "st"
    refine r_isi (nm := "int") (b := false) (.base (.int i)) (by decide +kernel) ?_
    walk_at "st"
    exact k
def sp_is_number_to : Sp := fun vs H Q _ => ∃ i l m : Int, vs = [.int i, .int l, .int m] ∧ Q (.bl (decide (l ≤ i) && decide (i ≤ m))) H
theorem ok_is_number_to (T : Txt K mg a) : FnOk P w K mg base CX0 2 a.f_is_number_to a.d_is_number_to P_is_number_to sp_is_number_to := by
  refine T.F_is_number_to.ok sc_is_number_to (fun vs H Q E h => ?_) (fun cdv A outer s H vs Q E hr h => ?_)
  · obtain ⟨i, l, m, rfl, _⟩ := h
    rfl
  · obtain ⟨i, l, m, rfl, k⟩ := h
    refine ⟨_, (pss_one (ps_ret (pe_and (pe_call (ok_is_integer T) (hr.mono (by decide)) (by rfl) T.mg_is_integer T.F_is_integer.kp T.b_is_integer .nil pass0 (pa_cons (pv 0) pa_nil)) (pe_one (pe_chain op_le op_le (pv 1) (pv 0) (pv 2)))))), ?_⟩
    walk_at "st"
    refine ⟨i, rfl, ?_⟩
    walk_at "st"
    refine br (fun e => ?_) (fun e => ?_)
    · walk_at "st"
      rw [e, Bool.true_and] at k
      exact k
    · rw [e, Bool.false_and] at k
      exact k
def sp_is_sequence : Sp := fun vs H Q _ => ∃ (p : Addr) (xs : List V), vs = [.ref p] ∧ H p = some (.lst xs) ∧ ∀ H', Same H H' → Q (.bl true) H'
theorem ok_is_sequence (T : Txt K mg a) : FnOk P w K mg base CX0 1 a.f_is_sequence a.d_is_sequence P_is_sequence sp_is_sequence := by
  refine T.F_is_sequence.ok sc_is_sequence (fun vs H Q E h => ?_) (fun cdv A outer s H vs Q E hr h => ?_)
  · obtain ⟨p, xs, rfl, _⟩ := h
    rfl
  · obtain ⟨p, xs, rfl, hp, k⟩ := h
    refine ⟨_, (pss_one (ps_ret (pe_callB (c_isiTK (K := K)) (by rfl) T.isinstance (by decide +kernel) (pa_cons (pv 0) (pa_cons (pe_tup (pa_cons (pe_bltn (v := .ty "list") (u := .type "list") (by rfl) T.list (by decide +kernel) rfl) (pa_cons (pe_bltn (v := .ty "tuple") (u := .type "tuple") (by rfl) T.tuple (by decide +kernel) rfl) pa_nil))) pa_nil))))), ?_⟩
    walk_at "st"
    refine ⟨by show 2 ≤ sizeLine; decide, fun t ht => ?_⟩
    walk_at "st"
    have s1 : Same H (upd H t (.tup [.ty "list", .ty "tuple"])) := Same.mk ht
    refine r_isLT (nm := "list") (b := true) (c := false) (.base (.lst (s1 _ _ hp))) upd_same (by decide +kernel) (by decide +kernel) ?_
    exact k _ s1
def sp_is_sequence_of : Sp := fun vs H Q _ => ∃ (p : Addr) (xs : List V) (n : Int), vs = [.ref p, .int n] ∧ H p = some (.lst xs) ∧ ∀ H', Same H H' → Q (.bl (decide ((xs.length : Int) = n))) H'
theorem ok_is_sequence_of (T : Txt K mg a) : FnOk P w K mg base CX0 1 a.f_is_sequence_of a.d_is_sequence_of P_is_sequence_of sp_is_sequence_of := by
  refine T.F_is_sequence_of.ok sc_is_sequence_of (fun vs H Q E h => ?_) (fun cdv A outer s H vs Q E hr h => ?_)
  · obtain ⟨p, xs, n, rfl, _⟩ := h
    rfl
  · obtain ⟨p, xs, n, rfl, hp, k⟩ := h
    refine ⟨_, (pss_one (ps_ret (pe_and (pe_callB (c_isiTK (K := K)) (by rfl) T.isinstance (by decide +kernel) (pa_cons (pv 0) (pa_cons (pe_tup (pa_cons (pe_bltn (v := .ty "list") (u := .type "list") (by rfl) T.list (by decide +kernel) rfl) (pa_cons (pe_bltn (v := .ty "tuple") (u := .type "tuple") (by rfl) T.tuple (by decide +kernel) rfl) pa_nil))) pa_nil))) (pe_one (pe_cmpR op_eq (pe_callB (c_lenK (K := K)) (by rfl) T.len (by decide +kernel) (pa_cons (pv 0) pa_nil)) (pv 1) (nomark _)))))), ?_⟩
    walk_at "st"
    refine ⟨by show 2 ≤ sizeLine; decide, fun t ht => ?_⟩
    walk_at "st"
    have s1 : Same H (upd H t (.tup [.ty "list", .ty "tuple"])) := Same.mk ht
    refine r_isLT (nm := "list") (b := true) (c := false) (.base (.lst (s1 _ _ hp))) upd_same (by decide +kernel) (by decide +kernel) ?_
    walk_at "st"
    refine brT rfl ?_
    walk_at "st"
    refine r_lenL (SqL.of (s1 _ _ hp)) ?_
    walk_at "st"
    exact k _ s1
/-! ### is_table, checked_tables, Device -/
def sp_is_table : Sp := fun vs H Q _ => ∃ (p : Addr) (t : List Int) (n : Nat), vs = [.ref p, .int n] ∧ H p = some (.lst (t.map V.int)) ∧ t.length ≤ 1000 ∧ t.length = n ∧ (∀ x ∈ t, 0 ≤ x ∧ x < n) ∧ ∀ H', Same H H' → Q (.bl true) H'
theorem ok_is_table (T : Txt K mg a) : FnOk P w K mg base CX0 3 a.f_is_table a.d_is_table P_is_table sp_is_table := by
  refine T.F_is_table.ok sc_is_table (fun vs H Q E h => ?_) (fun cdv A outer s H vs Q E hr h => ?_)
  · obtain ⟨p, t, n, rfl, _⟩ := h
    rfl
  · obtain ⟨p, t, n, rfl, hp, hs, hn, hx, k⟩ := h
    refine ⟨_, (pss_one (ps_ret (pe_and (pe_call (ok_is_sequence_of T) (hr.mono (by decide)) (by rfl) T.mg_is_sequence_of T.F_is_sequence_of.kp T.b_is_sequence_of .nil pass0 (pa_cons (pv 0) (pa_cons (pv 1) pa_nil))) (pe_one (pe_callB (cr_all rfl) (by rfl) T.all (by decide +kernel) (pa_cons (pe_lc (own := [("item", 2)]) (g := gName 2) (tt := tYes) rfl sc_is_table.nd (pi_list (pv 0)) (blkOk_by (own := [("item", 2)]) (N := N_is_table) (sc := defScope s_is_table) (by decide +kernel)) (fun _ _ _ _ _ => (pg_name (i := 2) sc_is_table.nd rfl (Or.inl rfl))) (fun _ _ _ _ _ => pts_nil) (fun _ _ _ _ _ => (pe_call (ok_is_number_to T) (hr.mono (by decide)) (by rfl) T.mg_is_number_to T.F_is_number_to.kp T.b_is_number_to .nil pass0 (pa_cons (pv 2) (pa_cons pe_int (pa_cons (pe_op op_sub (pv 1) pe_int) pa_nil)))))) pa_nil)))))), ?_⟩
    walk_at "st"
    refine ⟨p, _, n, rfl, hp, fun H1 s1 => ?_⟩
    walk_at "st"
    refine brT (by rw [List.length_map, hn]; simp) ?_
    walk_at "st"
    refine r_lcL (S := fun _ => False) (fun _ i acc H' => Same H H' ∧ acc = (List.replicate i true).map V.bl) (SqL.of (s1 _ _ hp)) (fun _ z => z.elim) (by rw [List.length_map]; omega)
      (fun D i acc H' o hD ⟨e1, e2⟩ => ⟨Same.put e1 (s1.free hD), e2⟩) (fun _ _ => ⟨s1, rfl⟩) (fun _ i acc H' e => SqL.of (e.1 _ _ hp)) ?_ ?_ (fun R q => ⟨_, rfl, q⟩)
    · intro D i x acc H' hi hx' _ _ ⟨e1, e2⟩ Q' q'
      obtain ⟨z, hz, rfl⟩ : ∃ z, t[i]? = some z ∧ V.int z = x := by
        rw [List.getElem?_map] at hx'
        exact Option.map_eq_some_iff.mp hx'
      have hz2 := hx z (List.mem_of_getElem? hz)
      walk_at "st"
      refine ⟨z, 0, (n : Int) - 1, rfl, ?_⟩
      refine q' _ _ ⟨e1, ?_⟩ Keep.refl
      have e3 : (decide ((0 : Int) ≤ z) && decide (z ≤ (n : Int) - 1)) = true := by
        rw [decide_eq_true hz2.1, decide_eq_true (show z ≤ (n : Int) - 1 by omega)]
        rfl
      rw [e2, e3, List.replicate_succ', List.map_append]
      rfl
    · intro D acc H' hD ⟨e1, e2⟩ hD' _
      walk_at "st"
      refine r_all (bs := List.replicate (List.map V.int t).length true) (by rw [← e2]; exact SqL.of hD') ?_
      have e4 : ((List.replicate (List.map V.int t).length true).all id) = true := by simp
      rw [e4]
      exact k _ e1
def sp_checked (K : PySem.W.Frag) : Sp := fun vs H Q _ => ∃ (p : Addr) (qs : List Addr) (ts : List (List Int)) (n : Nat), vs = [.ref p] ∧ Tab H p qs ts ∧ Good ts n ∧
  ∀ (tp : Addr) (rs : List Addr) (H' : Hp), TabT H' tp rs ts → Same H H' → Q (.ref tp) H'
theorem ok_checked_tables (T : Txt K mg a) : FnOk P w K mg base CX0 4 a.f_checked_tables a.d_checked_tables P_checked_tables (sp_checked K) := by
  refine T.F_checked_tables.ok sc_checked_tables (fun vs H Q E h => ?_) (fun cdv A outer s H vs Q E hr h => ?_)
  · obtain ⟨p, qs, ts, n, rfl, _⟩ := h
    rfl
  · obtain ⟨p, qs, ts, n, rfl, tab, g, k⟩ := h
    have hp := tab.1
    have hl := tab.2.1
    have hrow := tab.2.2
    obtain ⟨t5, ht5⟩ := T.g_ALL_SIGNALS
    have nd := sc_checked_tables.nd
    refine ⟨_, (pss_cons (ps_if (PW.pt (pw_or (pt_not (pt_val (pe_call (ok_is_sequence T) (hr.mono (by decide)) (by rfl) T.mg_is_sequence T.F_is_sequence.kp T.b_is_sequence .nil pass0 (pa_cons (pv 0) pa_nil)))) (pw_or1 (pt_not (pt_chain op_le op_le pe_int (pe_callB (c_lenK (K := K)) (by rfl) T.len (by decide +kernel) (pa_cons (pv 0) pa_nil)) (pe_callB (c_lenK (K := K)) (by rfl) T.len (by decide +kernel) (pa_cons (pe_glob (v := .str "abcde") rfl T.g_ALL_SIGNALS.choose_spec ⟨_, rfl⟩) pa_nil)))))))
      (pss_one ps_never)
      pss_nil)
    (pss_cons (ps_set (i := 1) sc_checked_tables.nd rfl (Or.inl rfl) (pe_ix (ix_listK (K := K)) (pv 0) pe_int (fun _ _ => rfl)))
    (pss_cons (ps_if (PW.pt (pw_or (pt_not (pt_val (pe_call (ok_is_sequence T) (hr.mono (by decide)) (by rfl) T.mg_is_sequence T.F_is_sequence.kp T.b_is_sequence .nil pass0 (pa_cons (pv 1) pa_nil)))) (pw_or1 (pt_not (pt_chain op_le op_le pe_int (pe_callB (c_lenK (K := K)) (by rfl) T.len (by decide +kernel) (pa_cons (pv 1) pa_nil)) (pe_glob (v := .int 60) rfl T.g_MOST_STATES.choose_spec ⟨_, rfl⟩))))))
      (pss_one ps_never)
      pss_nil)
    (pss_cons (ps_for PassesOwn.never rfl (pi_enum (by rfl) T.enumerate (pa_cons (pv 0) pa_nil)) (pg_tup rfl (pgs_cons (pg_name (i := 2) sc_checked_tables.nd rfl (Or.inl rfl)) (pgs_cons (pg_name (i := 3) sc_checked_tables.nd rfl (Or.inl rfl)) pgs_nil)))
      (pss_one (ps_if (pt_not (pt_val (pe_call (ok_is_table T) (hr.mono (by decide)) (by rfl) T.mg_is_table T.F_is_table.kp T.b_is_table .nil pass0 (pa_cons (pv 3) (pa_cons (pe_callB (c_lenK (K := K)) (by rfl) T.len (by decide +kernel) (pa_cons (pv 1) pa_nil)) pa_nil)))))
        (pss_one ps_never)
        pss_nil)))
    (pss_one (ps_ret (pe_callTy (c_tupK (K := K)) (by rfl) T.tuple (by decide +kernel) (pa_cons (pe_lc (own := [("table", 3)]) (g := gName 3) (tt := tYes) rfl sc_checked_tables.nd (pi_list (pv 0)) (blkOk_by (own := [("table", 3)]) (N := N_checked_tables) (sc := defScope s_checked_tables) (by decide +kernel)) (fun _ _ _ _ _ => (pg_name (i := 3) sc_checked_tables.nd rfl (Or.inl rfl))) (fun _ _ _ _ _ => pts_nil) (fun _ _ _ _ _ => (pe_callTy (c_tupK (K := K)) (by rfl) T.tuple (by decide +kernel) (pa_cons (pv 3) pa_nil)))) pa_nil)))))))), ?_⟩
    walk_at "st"
    refine ⟨p, _, rfl, hp, fun H1 s1 => ?_⟩
    walk_at "st"
    refine r_lenL (SqL.of (s1 _ _ hp)) ?_
    walk_at "st"
    have l0 := g.l0
    have l5 := g.l5
    have lq : (qs.map V.ref).length = ts.length := by rw [List.length_map, hl]
    refine brT (decide_eq_true (by rw [lq]; omega)) ?_
    walk_at "st"
    refine r_lenS (by decide +kernel) ?_
    walk_at "st"
    refine brNT (decide_eq_true (by rw [lq, len5]; omega)) ?_
    walk_at "st"
    -- first = tables[0]
    obtain ⟨t0, tr, hts⟩ : ∃ t0 tr, ts = t0 :: tr := by
      cases ts with
      | nil => exact absurd l0 (by simp)
      | cons t0 tr => exact ⟨t0, tr, rfl⟩
    obtain ⟨q0, qr, hqs⟩ : ∃ q0 qr, qs = q0 :: qr := by
      cases qs with
      | nil => rw [hts] at hl; exact absurd hl (by simp)
      | cons q0 qr => exact ⟨q0, qr, rfl⟩
    have h0 : H q0 = some (.lst (t0.map V.int)) := hrow 0 q0 t0 (by rw [hqs]; rfl) (by rw [hts]; rfl)
    have r0 := g.rows t0 (by rw [hts]; exact List.mem_cons_self ..)
    refine r_ixL (v := .ref q0) (SqL.of (s1 _ _ hp)) (at_of (j := 0) rfl (by rw [hqs]; rfl)) ?_
    walk_at "st"
    refine ⟨q0, _, rfl, s1 _ _ h0, fun H2 s2' => ?_⟩
    have s2 := Same.trans s1 s2'
    walk_at "st"
    refine r_lenL (SqL.of (s2 _ _ h0)) ?_
    have n0 := g.n0
    have n60 := g.n60
    have lt0 : (t0.map V.int).length = n := by rw [List.length_map]; exact r0.1
    walk_at "st"
    refine brT (decide_eq_true (by rw [lt0]; omega)) ?_
    walk_at "st"
    refine brNT (decide_eq_true (by rw [lt0]; omega)) ?_
    walk_at "st"
    refine r_for ⟨_, rfl, p, _, rfl, SqL.of (s2 _ _ hp), ?_⟩
    refine for_enum (K := K) (a := p) (xs := qs.map V.ref) (fun i σ H' => (∃ v2 v3, σ = [some (.ref p), some (.ref q0), v2, v3]) ∧ Same H H') ⟨⟨_, _, rfl⟩, s2⟩ (fun i σ H' z => SqL.of (z.2 _ _ hp)) ?_ ?_
    · rintro i x T' σ H' hi hx ⟨⟨v2, v3, rfl⟩, s3⟩ hT
      refine r_pair ?_
      obtain ⟨q, hq, rfl⟩ : ∃ q, qs[i]? = some q ∧ V.ref q = x := by
        rw [List.getElem?_map] at hx
        exact Option.map_eq_some_iff.mp hx
      have hi' : i < ts.length := by rw [← lq]; exact hi
      obtain ⟨t, ht⟩ : ∃ t, ts[i]? = some t := ⟨_, List.getElem?_eq_getElem hi'⟩
      have rt := g.rows t (List.mem_of_getElem? ht)
      have s4 : Same H (upd H' T' (.tup [V.int (i : Nat), V.ref q])) := Same.put s3 (Same.free s3 hT)
      walk_at "st"
      refine r_lenL (SqL.of (s4 _ _ h0)) ?_
      walk_at "st"
      refine ⟨q, t, n, by rw [lt0]; rfl, s4 _ _ (hrow i q t hq ht), by omega, rt.1, rt.2, fun H5 s5 => ?_⟩
      walk_at "st"
      exact ⟨⟨_, _, rfl⟩, s4.trans s5⟩
    · rintro σ H' ⟨⟨v2, v3, rfl⟩, s3⟩
      walk_at "st"
      refine r_lcL (S := fun _ => False) (fun D i acc H' => ∃ rs : List Addr, acc = rs.map V.ref ∧ rs.length = i ∧ Same H H' ∧ D ∉ rs ∧ ∀ (j : Nat) r t, rs[j]? = some r → ts[j]? = some t → H' r = some (.tup (t.map V.int))) (SqL.of (s3 _ _ hp)) (fun _ z => z.elim) (by rw [lq]; omega)
        (fun D i acc H'' o hD ⟨rs, e1, e2, e3, e5, e4⟩ => ⟨rs, e1, e2, Same.put e3 (Same.free s3 hD), e5, fun j r t h1 h2 => by
          rw [upd_ne (show r ≠ D from fun z => e5 (by rw [← z]; exact List.mem_of_getElem? h1))]
          exact e4 j r t h1 h2⟩) (fun _ _ => ⟨[], rfl, rfl, s3, by simp, fun j r t z => by simp at z⟩) (fun _ i acc H' ⟨rs, e1, e2, e3, e5, e4⟩ => SqL.of (e3 _ _ hp)) ?_ ?_ (fun R q => ⟨_, rfl, q⟩)
      · intro D i x acc H'' hi hx hD hD' ⟨rs, e1, e2, e3, e5, e4⟩ Q' q'
        obtain ⟨q, hq, rfl⟩ : ∃ q, qs[i]? = some q ∧ V.ref q = x := by
          rw [List.getElem?_map] at hx
          exact Option.map_eq_some_iff.mp hx
        have hi' : i < ts.length := by rw [← lq]; exact hi
        obtain ⟨t, ht⟩ : ∃ t, ts[i]? = some t := ⟨_, List.getElem?_eq_getElem hi'⟩
        walk_at "st"
        refine r_tupL (SqL.of (e3 _ _ (hrow i q t hq ht))) fun l hl' => ?_
        refine q' _ _ ⟨rs ++ [l], by rw [e1, List.map_append]; rfl, by simp [e2], Same.put e3 (Same.free e3 hl'), ?_, ?_⟩ (Keep.put Keep.refl hl')
        · intro z
          rcases List.mem_append.mp z with z | z
          · exact e5 z
          · have z' : D = l := by simpa using z
            rw [z', hl'] at hD'
            cases hD'
        · intro j r u h1 h2
          by_cases hj : j < rs.length
          · rw [List.getElem?_append_left hj] at h1
            have h3 := e4 j r u h1 h2
            rw [upd_ne (ne_of_none h3 hl')]
            exact h3
          · have hj' : j = rs.length := by
              have h4 := (List.getElem?_eq_some_iff.mp h1).1
              rw [List.length_append] at h4
              have h5 : [l].length = 1 := rfl
              omega
            rw [hj', List.getElem?_append_right (Nat.le_refl _), Nat.sub_self] at h1
            have h6 : l = r := Option.some.inj h1
            rw [hj', e2, ht] at h2
            rw [← h6, ← Option.some.inj h2]
            exact upd_same
      · intro D acc H'' hD ⟨rs, e1, e2, e3, e5, e4⟩ hD' hlen
        walk_at "st"
        refine r_tupL (SqL.of hD') fun tp htp => ?_
        refine k tp rs _ ⟨?_, ?_, ?_⟩ (Same.put e3 (Same.free e3 htp))
        · rw [e1]; exact upd_same
        · rw [e2, lq]
        · intro j r u h1 h2
          have h3 := e4 j r u h1 h2
          rw [upd_ne (ne_of_none h3 htp)]
          exact h3
end
end Bk

set_option Elab.async false
set_option linter.all false
set_option maxRecDepth 100000
set_option maxHeartbeats 4000000
namespace Bk
open PySem PySem.Spec PyProof.Rows L2
/-- the walk that needs no fact -/
local macro_rules | `(tactic| walk_at "go1") => `(tactic| with_reducible first
  | refine r_seq ?_ | refine r_set ?_ | refine r_ret ?_ | refine r_drop ?_ | refine r_ifS ?_ | refine r_next ?_ | refine r_asg ?_ | refine r_gSub ?_
  | refine r_var rfl ?_ | refine r_c ?_ | refine r_op ?_ | refine r_un ?_ | refine r_I0 ?_ | refine r_U ?_ | refine r_cons ?_ | refine r_nil ?_ | refine r_CB ?_ | refine r_call ?_
  | refine r_test ?_ | refine r_B ?_ | refine r_not ?_ | refine r_and ?_ | refine r_or ?_ | refine r_andV ?_ | refine r_orV ?_ | refine r_notV ?_ | refine r_if ?_ | refine r_exb ?_ | refine r_exc ?_
  | refine brTT ?_ | refine brFF ?_ | refine brNTT ?_ | refine brNFF ?_ | refine r_chain ?_ | refine r_sl ?_ | refine r_nopart ?_ | refine r_part ?_ | refine r_exi ?_ | refine r_gn ?_ | refine r_make ?_ | refine r_zipS ?_ | refine r_enum ?_ | refine r_rng1 ?_ | refine r_js ?_ | refine r_jn ?_ | refine r_fmt ?_ | refine r_bm ?_ | refine r_isS ?_ | refine r_sfld ?_ | refine r_m0 ?_ | refine r_m1 ?_
  | refine r_lst ?_ | refine r_tup ?_ | refine r_fld ?_ | refine r_int ?_ | refine r_intB ?_ | refine r_abs ?_)
local macro_rules | `(tactic| walk_at "go") => `(tactic| repeat walk_at "go1")
local macro_rules | `(tactic| walk_at "cond") => `(tactic| first
  | (show (0 : Int) < _; first | omega | assumption)
  | exact cdiv (by first | omega | assumption) (by first | omega | assumption)
  | exact cmulL (by omega) (by omega)
  | exact cmulR (by omega) (by omega))
local macro_rules | `(tactic| walk_at "hp") => `(tactic| first | assumption | exact upd_same)
local macro_rules | `(tactic| walk_at "ixL") => `(tactic| ((with_reducible refine' r_ixL (SqL.of ?h) ?a ?_); (case h => walk_at "hp"); (case a => rfl)))
local macro_rules | `(tactic| walk_at "setL") => `(tactic| ((with_reducible refine' r_setL ?h ?a ?_); (case h => walk_at "hp"); (case a => rfl)))
local macro_rules | `(tactic| walk_at "rI") => `(tactic| ((with_reducible refine r_I ?c ?_); (case c => walk_at "cond")))
local macro_rules | `(tactic| walk_at "eqs") => `(tactic| first | (with_reducible first | refine r_eqI ?_ | refine r_neI ?_ | refine r_eqS ?_ | refine r_neS ?_) | ((with_reducible first | refine r_eq ?c ?_ | refine r_ne ?c ?_); (case c => rfl)))
local macro_rules | `(tactic| walk_at "st1") => `(tactic| first
  | walk_at "go1"
  | walk_at "rI" | walk_at "ixL" | walk_at "setL" | walk_at "eqs")
local macro_rules | `(tactic| walk_at "st") => `(tactic| repeat walk_at "st1")
/-! ### the device -/
/-- its signals, k of them -/
def sigS (k : Nat) : Str := cutS (Str.ofString "abcde") none (some (k : Nat))
/-- a device at x -/
def Dev (C : Addr) (H : Hp) (x : Addr) (ts : List (List Int)) (n : Nat) : Prop :=
  ∃ (dx tp : Addr) (rs : List Addr), H x = some (.ins C dx [("tables", .ref tp), ("states", .int (n : Nat)), ("signals", .str (sigS ts.length))]) ∧ TabT H tp rs ts ∧ Good ts n
theorem Dev.mono {C : Addr} {H H' : Hp} {x : Addr} {ts : List (List Int)} {n : Nat} (h : Dev C H x ts n) (e : Same H H') : Dev C H' x ts n := by
  obtain ⟨dx, tp, rs, h1, h2, g⟩ := h
  exact ⟨dx, tp, rs, e _ _ h1, h2.mono e, g⟩
section
variable {P : Program} {w : World} {K : PySem.W.Frag} {mg : Str → Option Value} {base : Heap} {a : Ad}
def sp_init (a : Ad) : Sp := fun vs H Q _ => ∃ (x dx p : Addr) (qs : List Addr) (ts : List (List Int)) (n : Nat), vs = [.ref x, .ref p] ∧ H x = some (.ins a.C_Device dx []) ∧ Tab H p qs ts ∧ Good ts n ∧ x ≠ p ∧ x ∉ qs ∧
  ∀ H', Keep (· = x) H H' → Dev a.C_Device H' x ts n → Q .non H'
theorem ok_Device_init (T : Txt K mg a) : FnOk P w K mg base CX0 5 a.f_Device_init a.d_Device_init P_Device_init (sp_init a) := by
  refine T.F_Device_init.ok sc_Device_init (fun vs H Q E h => ?_) (fun cdv A outer s H vs Q E hr h => ?_)
  · obtain ⟨x, dx, p, qs, ts, n, rfl, _⟩ := h
    rfl
  · obtain ⟨x, dx, p, qs, ts, n, rfl, hx, tab, g, _, _, k⟩ := h
    refine ⟨_, (pss_cons (ps_fld (pv 0) (pe_call (ok_checked_tables T) (hr.mono (by decide)) (by rfl) T.mg_checked_tables T.F_checked_tables.kp T.b_checked_tables .nil pass0 (pa_cons (pv 1) pa_nil)) rfl)
    (pss_cons (ps_fld (pv 0) (pe_callB (c_lenK (K := K)) (by rfl) T.len (by decide +kernel) (pa_cons (pe_ix (ix_tupK (K := K)) (pe_fldK (K := K) rfl (pv 0) rfl) pe_int (fun _ _ => rfl)) pa_nil)) rfl)
    (pss_one (ps_fld (pv 0) (pe_slice sl_str (pe_glob (v := .str "abcde") rfl T.g_ALL_SIGNALS.choose_spec ⟨_, rfl⟩) po_none (po_some (pe_callB (c_lenK (K := K)) (by rfl) T.len (by decide +kernel) (pa_cons (pe_fldK (K := K) rfl (pv 0) rfl) pa_nil)))) rfl)))), ?_⟩
    have C := T.cl_Device
    have nx : ∀ q o, H q = some o → (∀ C' d' f', o ≠ .ins C' d' f') → q ≠ x := fun q o h1 h2 z => by
      rw [z, hx] at h1
      exact h2 _ _ _ (Option.some.inj h1).symm
    walk_at "st"
    refine ⟨p, qs, ts, n, rfl, tab, g, fun tp rs H1 tb1 s1 => ?_⟩
    walk_at "st"
    refine ⟨x, _, dx, _, rfl, s1 _ _ hx, C, T.n_Device_tables, by decide, ?_⟩
    have npx : ∀ q o, H1 q = some o → (∀ C' d' f', o ≠ .ins C' d' f') → q ≠ x := fun q o h1 h2 z => by
      rw [z, s1 _ _ hx] at h1
      exact h2 _ _ _ (Option.some.inj h1).symm
    have tb2 : ∀ o, TabT (upd H1 x o) tp rs ts := fun o => ⟨by rw [upd_ne (npx _ _ tb1.1 (by intro _ _ _ z; cases z))]; exact tb1.1, tb1.2.1, fun i q t h1 h2 => by
      have h3 := tb1.2.2 i q t h1 h2
      rw [upd_ne (npx _ _ h3 (by intro _ _ _ z; cases z))]
      exact h3⟩
    have tb3 : ∀ o o', TabT (upd (upd H1 x o) x o') tp rs ts := fun o o' => by
      have e : upd (upd H1 x o) x o' = upd H1 x o' := by
        funext b
        by_cases hb : b = x
        · rw [hb, upd_same, upd_same]
        · rw [upd_ne hb, upd_ne hb, upd_ne hb]
      rw [e]
      exact tb2 o'
    have l0 := g.l0
    obtain ⟨t0, tr, hts⟩ : ∃ t0 tr, ts = t0 :: tr := by
      cases ts with
      | nil => exact absurd l0 (by simp)
      | cons t0 tr => exact ⟨t0, tr, rfl⟩
    have hl := tb1.2.1
    obtain ⟨q0, qr, hqs⟩ : ∃ q0 qr, rs = q0 :: qr := by
      cases rs with
      | nil => rw [hts] at hl; exact absurd hl (by simp)
      | cons q0 qr => exact ⟨q0, qr, rfl⟩
    have r0 := g.rows t0 (by rw [hts]; exact List.mem_cons_self ..)
    walk_at "st"
    refine ⟨x, _, dx, _, _, rfl, upd_same, C, T.n_Device_tables, rfl, ?_⟩
    walk_at "st"
    refine r_ixT (v := .ref q0) (SqT.of (tb2 _).1) (at_of (j := 0) rfl (by rw [hqs]; rfl)) ?_
    walk_at "st"
    refine r_lenT (SqT.of ((tb2 _).2.2 0 q0 t0 (by rw [hqs]; rfl) (by rw [hts]; rfl))) ?_
    walk_at "st"
    refine ⟨x, _, dx, _, rfl, upd_same, C, T.n_Device_states, by show (1 : Nat) < 1000; decide, ?_⟩
    walk_at "st"
    refine ⟨x, _, dx, _, _, rfl, upd_same, C, T.n_Device_tables, rfl, ?_⟩
    walk_at "st"
    refine r_lenT (SqT.of (tb3 _ _).1) ?_
    walk_at "st"
    refine r_slS (by decide +kernel) ?_
    walk_at "st"
    refine ⟨x, _, dx, _, rfl, upd_same, C, T.n_Device_signals, by show (2 : Nat) < 1000; decide, ?_⟩
    refine k _ (fun b o nb e => by rw [upd_ne nb, upd_ne nb, upd_ne nb]; exact s1 b o e) ⟨dx, tp, rs, ?_, ?_, g⟩
    · rw [upd_same]
      have e1 : (List.map V.int t0).length = n := by rw [List.length_map]; exact r0.1
      have e2 : (List.map V.ref rs).length = ts.length := by rw [List.length_map, hl]
      rw [e1, e2]
      rfl
    · have e : ∀ o o' o'', upd (upd (upd H1 x o) x o') x o'' = upd H1 x o'' := fun o o' o'' => by
        funext b
        by_cases hb : b = x
        · rw [hb, upd_same, upd_same]
        · rw [upd_ne hb, upd_ne hb, upd_ne hb, upd_ne hb]
      rw [e]
      exact tb2 _
/-- Device(p) made -/
theorem mk_dev {H : Hp} {Q : VK} {p : Addr} {qs : List Addr} {ts : List (List Int)} {n : Nat} (tab : Tab H p qs ts) (g : Good ts n) (q : ∀ x H', Same H H' → Dev a.C_Device H' x ts n → Q (.ref x) H') :
    ∀ x dx, H x = none → H dx = none → dx ≠ x → sp_init a (.ref x :: ([.ref p] ++ [])) (upd (upd H dx (.own x)) x (.ins a.C_Device dx [])) (fun v H2 => v = .non ∧ Q (.ref x) H2) E0 := by
  intro x dx hx hd hne
  have s1 : ∀ b o, H b = some o → upd (upd H dx (.own x)) x (.ins a.C_Device dx []) b = some o := fun b o e => by
    rw [upd_ne (ne_of_none e hx), upd_ne (ne_of_none e hd)]
    exact e
  refine ⟨x, dx, p, qs, ts, n, rfl, upd_same, tab.mono s1, g, fun z => ?_, fun z => ?_, fun H' k d => ⟨rfl, q x H' (fun b o e => k b o (ne_of_none e hx) (s1 b o e)) d⟩⟩
  · rw [z, tab.1] at hx
    cases hx
  · obtain ⟨i, hi⟩ := List.getElem?_of_mem z
    have hi' : i < ts.length := by rw [← tab.2.1]; exact (List.getElem?_eq_some_iff.mp hi).1
    rw [tab.2.2 i x _ hi (List.getElem?_eq_getElem hi')] at hx
    cases hx
/-! ### == -/
theorem r_isiO {H : Hp} {Q : VK} {x : V} {C : Addr} (ty : TyX K H x (.ref C)) (q : Q (.bl true) H) : rIsi K [x, .ref C] H Q :=
  ⟨x, .ref C, .ref C, .ref C, true, rfl, .own C, ty, by unfold PySem.W.kitOne; simp, q⟩
def tabD (ts : List (List Int)) : PyData := .tuple (ts.map fun t => .tuple (t.map .int))
theorem dp_ints (H : Hp) : ∀ t : List Int, DpAll K H (t.map V.int) (t.map PyData.int)
  | [] => .nil
  | i :: r => .cons (.int i) (dp_ints H r)
theorem dp_tabs {H : Hp} : ∀ (rs : List Addr) (ts : List (List Int)), rs.length = ts.length → (∀ (i : Nat) q t, rs[i]? = some q → ts[i]? = some t → H q = some (.tup (t.map V.int))) → DpAll K H (rs.map V.ref) (ts.map fun t => PyData.tuple (t.map .int))
  | [], [], _, _ => .nil
  | [], _ :: _, h, _ => by simp at h
  | _ :: _, [], h, _ => by simp at h
  | q :: rs, t :: ts, h, f => .cons (.tup (SqT.of (f 0 q t rfl rfl)) (dp_ints H t)) (dp_tabs rs ts (by simpa using h) fun i q' t' h1 h2 => f (i + 1) q' t' (by simpa using h1) (by simpa using h2))
theorem dp_tab {H : Hp} {tp : Addr} {rs : List Addr} {ts : List (List Int)} (h : TabT H tp rs ts) : Dp K H (.ref tp) (tabD ts) := .tup (SqT.of h.1) (dp_tabs rs ts h.2.1 h.2.2)
theorem rowsLay : ∀ ts : List (List Int), PyData.canLayAll0 (ts.map fun t => PyData.tuple (t.map .int)) = true
  | [] => by simp [PyData.canLayAll0]
  | t :: r => by simp [PyData.canLayAll0, PyData.canLay0, PySem.W.canLayAll0_ints t, rowsLay r]
theorem rowsDepth : ∀ ts : List (List Int), PyData.depthAll (ts.map fun t => PyData.tuple (t.map .int)) ≤ 2
  | [] => by simp [PyData.depthAll]
  | t :: r => by
    have h1 := rowsDepth r
    have h2 := PySem.W.depthAll_ints t
    simp only [List.map_cons, PyData.depthAll, PyData.depth]
    omega
theorem lay_tab (ts : List (List Int)) : (tabD ts).canLay0 = true := by
  simp only [tabD, PyData.canLay0]
  exact rowsLay ts
theorem sh_tab (ts : List (List Int)) : SeqAt.shaped (tabD ts) = true := by
  have h1 := rowsDepth ts
  have h2 : PyData.depth (tabD ts) ≤ 64 := by
    simp only [tabD, PyData.depth]
    omega
  show (PyData.canLay0 (tabD ts) && decide (PyData.depth (tabD ts) ≤ 64)) = true
  rw [Bool.and_eq_true]
  exact ⟨lay_tab ts, decide_eq_true h2⟩
def sp_eq (a : Ad) : Sp := fun vs H Q _ => ∃ (x y : Addr) (ts : List (List Int)) (n m : Nat), vs = [.ref x, .ref y] ∧ Dev a.C_Device H x ts n ∧ Dev a.C_Device H y ts m ∧ Q (.bl true) H
theorem ok_Device_eq (T : Txt K mg a) : FnOk P w K mg base CX0 1 a.f_Device_eq a.d_Device_eq P_Device_eq (sp_eq a) := by
  refine T.F_Device_eq.ok sc_Device_eq (fun vs H Q E h => ?_) (fun cdv A outer s H vs Q E hr h => ?_)
  · obtain ⟨x, y, ts, n, m, rfl, _⟩ := h
    rfl
  · obtain ⟨x, y, ts, n, m, rfl, ⟨dx, tp, rs, h1, h2, g⟩, ⟨dy, tq, ss, i1, i2, _⟩, k⟩ := h
    refine ⟨_, (pss_one (ps_ret (pe_and (pe_callB (c_isiK (K := K)) (by rfl) T.isinstance (by decide +kernel) (pa_cons (pv 1) (pa_cons (pe_glob (v := .ref a.C_Device) rfl T.mg_Device rfl) pa_nil))) (pe_one (pe_cmpR (op_eqD hr.units) (pe_fldK (K := K) rfl (pv 0) rfl) (pe_fldK (K := K) rfl (pv 1) rfl) (nomark _)))))), ?_⟩
    walk_at "st"
    refine r_isiO (.base (.ins i1 T.cl_Device T.cc_Device T.sgc T.tkc T.mo_Device)) ?_
    walk_at "st"
    refine ⟨x, _, dx, _, _, rfl, h1, T.cl_Device, T.n_Device_tables, rfl, ?_⟩
    walk_at "st"
    refine ⟨y, _, dy, _, _, rfl, i1, T.cl_Device, T.n_Device_tables, rfl, ?_⟩
    refine ⟨_, _, dp_tab h2, dp_tab i2, sh_tab ts, sh_tab ts, ?_⟩
    rw [SeqAt.eqv_refl _ (lay_tab ts)]
    exact k
end
end Bk

set_option Elab.async false
set_option linter.all false
set_option maxRecDepth 100000
set_option maxHeartbeats 4000000
namespace Bk
open PySem PySem.Spec PyProof.Rows L2 TL
/-- the walk that needs no fact -/
local macro_rules | `(tactic| walk_at "go1") => `(tactic| with_reducible first
  | refine r_seq ?_ | refine r_set ?_ | refine r_ret ?_ | refine r_drop ?_ | refine r_ifS ?_ | refine r_next ?_ | refine r_asg ?_ | refine r_gSub ?_
  | refine r_var rfl ?_ | refine r_c ?_ | refine r_op ?_ | refine r_un ?_ | refine r_I0 ?_ | refine r_U ?_ | refine r_cons ?_ | refine r_nil ?_ | refine r_CB ?_ | refine r_call ?_
  | refine r_test ?_ | refine r_B ?_ | refine r_not ?_ | refine r_and ?_ | refine r_or ?_ | refine r_andV ?_ | refine r_orV ?_ | refine r_notV ?_ | refine r_if ?_ | refine r_exb ?_ | refine r_exc ?_
  | refine brTT ?_ | refine brFF ?_ | refine brNTT ?_ | refine brNFF ?_ | refine r_chain ?_ | refine r_sl ?_ | refine r_nopart ?_ | refine r_part ?_ | refine r_exi ?_ | refine r_gn ?_ | refine r_make ?_ | refine r_zipS ?_ | refine r_enum ?_ | refine r_rng1 ?_ | refine r_js ?_ | refine r_jn ?_ | refine r_fmt ?_ | refine r_bm ?_ | refine r_isS ?_ | refine r_sfld ?_ | refine r_m0 ?_ | refine r_m1 ?_
  | refine r_lst ?_ | refine r_tup ?_ | refine r_fld ?_ | refine r_int ?_ | refine r_intB ?_ | refine r_abs ?_)
local macro_rules | `(tactic| walk_at "go") => `(tactic| repeat walk_at "go1")
local macro_rules | `(tactic| walk_at "cond") => `(tactic| first
  | (show (0 : Int) < _; first | omega | assumption)
  | exact cdiv (by first | omega | assumption) (by first | omega | assumption)
  | exact cmulL (by omega) (by omega)
  | exact cmulR (by omega) (by omega))
local macro_rules | `(tactic| walk_at "hp") => `(tactic| first | assumption | exact upd_same)
local macro_rules | `(tactic| walk_at "ixL") => `(tactic| ((with_reducible refine' r_ixL (SqL.of ?h) ?a ?_); (case h => walk_at "hp"); (case a => rfl)))
local macro_rules | `(tactic| walk_at "setL") => `(tactic| ((with_reducible refine' r_setL ?h ?a ?_); (case h => walk_at "hp"); (case a => rfl)))
local macro_rules | `(tactic| walk_at "rI") => `(tactic| ((with_reducible refine r_I ?c ?_); (case c => walk_at "cond")))
local macro_rules | `(tactic| walk_at "eqs") => `(tactic| first | (with_reducible first | refine r_eqI ?_ | refine r_neI ?_ | refine r_eqS ?_ | refine r_neS ?_) | ((with_reducible first | refine r_eq ?c ?_ | refine r_ne ?c ?_); (case c => rfl)))
local macro_rules | `(tactic| walk_at "st1") => `(tactic| first
  | walk_at "go1"
  | walk_at "rI" | walk_at "ixL" | walk_at "setL" | walk_at "eqs")
local macro_rules | `(tactic| walk_at "st") => `(tactic| repeat walk_at "st1")
/-! ### numbers in texts -/
def numS (n : Nat) : Str := Str.ofString (toString ((n : Nat) : Int))
def dig10 : Str := Str.ofString "0123456789"
def isDig (w : Str) : Bool := w.cps.toList.all fun c => decide (c ∈ dig10.cps.toList)
/-- read_number -/
def rnum (w : Str) (m : Nat) : Int :=
  if w = Str.ofString "" then -1 else if (numS m).length < w.length then -1 else if isDig w = false then -1
  else if w.cps.toList[0]? = some 48 ∧ w ≠ Str.ofString "0" then -1
  else match PySem.intText? w with
    | some n => if n ≤ (m : Nat) then n else -1
    | none => -1
theorem dig_all {w : Str} (h : isDig w = true) : NumText.AllDigits w.cps.toList := by
  intro c hc
  have h1 := List.all_eq_true.mp h c hc
  have h2 : c ∈ dig10.cps.toList := of_decide_eq_true h1
  have h3 : c ∈ [48, 49, 50, 51, 52, 53, 54, 55, 56, 57] := by
    have e : dig10.cps.toList = [48, 49, 50, 51, 52, 53, 54, 55, 56, 57] := by decide +kernel
    rw [← e]; exact h2
  simp at h3
  omega
theorem log_small {i : Int} (h : i.natAbs < 2 ^ 64) : i.natAbs.log2 < 1920 := by
  by_cases z : i.natAbs = 0
  · rw [z]; decide
  · have := (Nat.log2_lt z).mpr h
    omega
theorem numS_len {m : Nat} (h : m ≤ 60) : (numS m).length ≤ 2 := by
  have e : (numS m).length = (numL m).length := by
    show (numS m).cps.size = _
    rw [← Array.length_toList, show (numS m).cps.toList = numL m from tl_num m]
  rw [e]
  have key : ∀ k : Fin 61, (numL k.val).length ≤ 2 := by decide +kernel
  exact key ⟨m, by omega⟩
theorem rnum_le (w : Str) (m : Nat) : rnum w m ≤ m := by
  unfold rnum
  by_cases h1 : w = Str.ofString ""
  · rw [if_pos h1]; omega
  rw [if_neg h1]
  by_cases h2 : (numS m).length < w.length
  · rw [if_pos h2]; omega
  rw [if_neg h2]
  by_cases h3 : isDig w = false
  · rw [if_pos h3]; omega
  rw [if_neg h3]
  by_cases h4 : w.cps.toList[0]? = some 48 ∧ w ≠ Str.ofString "0"
  · rw [if_pos h4]; omega
  rw [if_neg h4]
  cases h5 : PySem.intText? w with
  | none => show (-1 : Int) ≤ m; omega
  | some n =>
    show (if n ≤ (m : Nat) then n else -1 : Int) ≤ m
    by_cases h6 : n ≤ (m : Nat)
    · rw [if_pos h6]; exact h6
    · rw [if_neg h6]; omega
section
variable {P : Program} {w : World} {K : PySem.W.Frag} {mg : Str → Option Value} {base : Heap} {a : Ad}
def sp_read_number : Sp := fun vs H Q _ => ∃ (x : Str) (m : Nat), vs = [.str x, .int m] ∧ m ≤ 60 ∧ x.length ≤ 10000 ∧ ∀ H', Same H H' → Q (.int (rnum x m)) H'
theorem ok_read_number (T : Txt K mg a) : FnOk P w K mg base CX0 1 a.f_read_number a.d_read_number P_read_number sp_read_number := by
  refine T.F_read_number.ok sc_read_number (fun vs H Q E h => ?_) (fun cdv A outer s H vs Q E hr h => ?_)
  · obtain ⟨x, m, rfl, _⟩ := h
    rfl
  · obtain ⟨x, m, rfl, hm, hx, k⟩ := h
    refine ⟨_, (pss_cons (ps_if (PW.pt (pw_or (pt_cmpR op_eq (pv 0) pe_str (nomark _)) (pw_or (pt_cmpR op_gt (pe_callB (c_lenK (K := K)) (by rfl) T.len (by decide +kernel) (pa_cons (pv 0) pa_nil)) (pe_callB (c_lenK (K := K)) (by rfl) T.len (by decide +kernel) (pa_cons (pe_callTy c_str (by rfl) T.str (by decide +kernel) (pa_cons (pv 1) pa_nil)) pa_nil)) (nomark _)) (pw_or1 (pt_not (pt_val (pe_callB (cr_all rfl) (by rfl) T.all (by decide +kernel) (pa_cons (pe_lc (own := [("sign", 3)]) (g := gName 3) (tt := tYes) rfl sc_read_number.nd (pi_str (pv 0)) (blkOk_by (own := [("sign", 3)]) (N := N_read_number) (sc := defScope s_read_number) (by decide +kernel)) (fun _ _ _ _ _ => (pg_name (i := 3) sc_read_number.nd rfl (Or.inl rfl))) (fun _ _ _ _ _ => pts_nil) (fun _ _ _ _ _ => (pe_cmpR op_in_sign (pv 3) (pe_glob (v := .str "0123456789") rfl T.g_DIGITS.choose_spec ⟨_, rfl⟩) rfl))) pa_nil))))))))
      (pss_one (ps_ret (pe_un un_neg pe_int)))
      pss_nil)
    (pss_cons (ps_if (PW.pt (pw_and (pt_cmpR op_eq (pe_ix ix_str (pv 0) pe_int (fun _ _ => rfl)) pe_str (nomark _)) (pw_and1 (pt_cmpR op_ne (pv 0) pe_str (nomark _)))))
      (pss_one (ps_ret (pe_un un_neg pe_int)))
      pss_nil)
    (pss_cons (ps_set (i := 2) sc_read_number.nd rfl (Or.inl rfl) (pe_callTy c_intS (by rfl) T.int (by decide +kernel) (pa_cons (pv 0) pa_nil)))
    (pss_one (ps_ret (pe_ifExp (pt_cmpR op_le (pv 2) (pv 1) (nomark _)) (pv 2) (pe_un un_neg pe_int))))))), ?_⟩
    walk_at "st"
    refine brD (fun e => ?_) (fun e => ?_)
    · walk_at "st"
      have e1 : rnum x m = -1 := by unfold rnum; rw [if_pos e]
      rw [e1] at k
      exact k _ (Same.refl H)
    have hm2 := numS_len hm
    walk_at "st"
    refine r_lenS (Nat.le_trans hx (by decide)) ?_
    walk_at "st"
    refine r_str (log_small (by omega)) ?_
    walk_at "st"
    refine r_lenS (show (numS m).length ≤ sizeLine from Nat.le_trans hm2 (by decide)) ?_
    walk_at "st"
    refine brD (fun e2 => ?_) (fun e2 => ?_)
    · walk_at "st"
      have e1 : rnum x m = -1 := by unfold rnum; rw [if_neg e, if_pos (by have : (numS m).length < x.length := (by exact_mod_cast e2); exact this)]
      rw [e1] at k
      exact k _ (Same.refl H)
    have e2' : ¬ (numS m).length < x.length := fun z => e2 (by exact_mod_cast z)
    have hsz : x.cps.size ≤ 2 := by
      have : x.length = x.cps.size := rfl
      omega
    walk_at "st"
    refine r_lcS (S := fun _ => False) (fun _ i acc H' => Same H H' ∧ acc = ((x.cps.toList.take i).map fun c => decide (c ∈ dig10.cps.toList)).map V.bl) (fun _ z => z.elim) (by omega)
      (fun D i acc H' o hD ⟨e1, e3⟩ => ⟨Same.put e1 hD, e3⟩) (fun _ _ => ⟨Same.refl H, by simp⟩) ?_ ?_ (fun R q => ⟨_, rfl, q⟩)
    · intro D i c acc H' hi hc hD hD' ⟨e1, e3⟩ Q' q'
      walk_at "st"
      refine ⟨c, _, rfl, rfl, ?_⟩
      refine q' _ _ ⟨e1, ?_⟩ Keep.refl
      have hc' : x.cps.toList[i]? = some c := by rw [Array.getElem?_toList]; exact hc
      rw [List.take_add_one, hc', e3]
      simp [dig10]
    · intro D acc H' hD ⟨e1, e3⟩ hD' _
      walk_at "st"
      refine r_all (bs := (x.cps.toList.map fun c => decide (c ∈ dig10.cps.toList))) ?_ ?_
      · have e4 : x.cps.toList.take x.cps.size = x.cps.toList := by rw [← Array.length_toList, List.take_length]
        rw [e4] at e3
        rw [← e3]
        exact SqL.of hD'
      have e5 : ((x.cps.toList.map fun c => decide (c ∈ dig10.cps.toList)).all id) = isDig x := by
        unfold isDig
        rw [List.all_map]
        rfl
      rw [e5]
      walk_at "st"
      refine br (fun e6 => ?_) (fun e6 => ?_)
      · walk_at "st"
        have e7 : isDig x = false := by simpa using e6
        have e1' : rnum x m = -1 := by unfold rnum; rw [if_neg e, if_neg e2', if_pos e7]
        rw [e1'] at k
        exact k _ e1
      have e7 : isDig x = true := by simpa using e6
      have e7' : ¬ isDig x = false := by rw [e7]; simp
      have xne : x.cps.toList ≠ [] := fun z => e (by
        cases x with
        | mk cs =>
          have : cs = #[] := by simpa using z
          rw [this]
          decide +kernel)
      obtain ⟨c0, r0, hc0⟩ : ∃ c0 r0, x.cps.toList = c0 :: r0 := by
        cases h : x.cps.toList with
        | nil => exact absurd h xne
        | cons c0 r0 => exact ⟨c0, r0, rfl⟩
      have at0 : atI x.cps.toList 0 = some c0 := by rw [hc0]; exact atI_nat (j := 0) rfl
      have hi := intText_digits (x := x) (dig_all e7) xne (by omega)
      walk_at "st"
      refine ⟨x, 0, c0, rfl, rfl, Nat.le_trans hx (by decide), at0, ?_⟩
      walk_at "st"
      have z48 : ({ cps := #[c0] } : Str) = Str.ofString "0" ↔ c0 = 48 := by
        have e0 : Str.ofString "0" = { cps := #[48] } := by decide +kernel
        rw [e0]
        simp
      have fin : ¬ (x.cps.toList[0]? = some 48 ∧ x ≠ Str.ofString "0") → tSeq (tAsg (tCB cIntS (tCons (tVar 0) tNil)) (gName 2))
                (tRet (tIf (tTest (tOp (rI0 fun i j => V.bl (decide (i ≤ j))) (tVar 2) (tVar 1))) (tVar 2) (tUn (rU fun i => V.int (-i)) (tC (V.int 1)))))
                { nx := fun x H' => Q V.non H', rt := Q } (L2.start N_read_number [V.str x, V.int (m : Nat)]) H' := fun e8 => by
        walk_at "st"
        refine r_intS hi (by omega) ?_
        walk_at "st"
        refine brD (fun e9 => ?_) (fun e9 => ?_)
        · walk_at "st"
          have e1' : rnum x m = ((NumText.digitsVal x.cps.toList : Nat) : Int) := by
            unfold rnum; rw [if_neg e, if_neg e2', if_neg e7', if_neg e8, hi]
            exact if_pos e9
          rw [e1'] at k
          exact k _ e1
        · walk_at "st"
          have e1' : rnum x m = -1 := by
            unfold rnum; rw [if_neg e, if_neg e2', if_neg e7', if_neg e8, hi]
            exact if_neg e9
          rw [e1'] at k
          exact k _ e1
      refine brD (fun e8 => ?_) (fun e8 => ?_)
      · walk_at "st"
        refine br (fun e9 => ?_) (fun e9 => ?_)
        · walk_at "st"
          have e1' : rnum x m = -1 := by
            unfold rnum
            rw [if_neg e, if_neg e2', if_neg e7', if_pos ⟨by rw [hc0]; exact congrArg some (z48.mp e8), by simpa using e9⟩]
          rw [e1'] at k
          exact k _ e1
        · exact fin (fun z => z.2 (by simpa using e9))
      · walk_at "go1"
        exact fin (fun z => e8 (z48.mpr (by
          have := z.1
          rw [hc0] at this
          exact Option.some.inj this)))
end
end Bk

set_option Elab.async false
set_option linter.all false
set_option maxRecDepth 100000
set_option maxHeartbeats 4000000
namespace Bk
open PySem PySem.Spec PyProof.Rows L2 TL
/-- the walk that needs no fact -/
local macro_rules | `(tactic| walk_at "go1") => `(tactic| with_reducible first
  | refine r_seq ?_ | refine r_set ?_ | refine r_ret ?_ | refine r_drop ?_ | refine r_ifS ?_ | refine r_next ?_ | refine r_asg ?_ | refine r_gSub ?_
  | refine r_var rfl ?_ | refine r_c ?_ | refine r_op ?_ | refine r_un ?_ | refine r_I0 ?_ | refine r_U ?_ | refine r_cons ?_ | refine r_nil ?_ | refine r_CB ?_ | refine r_call ?_
  | refine r_test ?_ | refine r_B ?_ | refine r_not ?_ | refine r_and ?_ | refine r_or ?_ | refine r_andV ?_ | refine r_orV ?_ | refine r_notV ?_ | refine r_if ?_ | refine r_exb ?_ | refine r_exc ?_
  | refine brTT ?_ | refine brFF ?_ | refine brNTT ?_ | refine brNFF ?_ | refine r_chain ?_ | refine r_sl ?_ | refine r_nopart ?_ | refine r_part ?_ | refine r_exi ?_ | refine r_gn ?_ | refine r_make ?_ | refine r_zipS ?_ | refine r_enum ?_ | refine r_rng1 ?_ | refine r_js ?_ | refine r_jn ?_ | refine r_fmt ?_ | refine r_bm ?_ | refine r_isS ?_ | refine r_sfld ?_ | refine r_m0 ?_ | refine r_m1 ?_
  | refine r_lst ?_ | refine r_tup ?_ | refine r_fld ?_ | refine r_int ?_ | refine r_intB ?_ | refine r_abs ?_)
local macro_rules | `(tactic| walk_at "go") => `(tactic| repeat walk_at "go1")
local macro_rules | `(tactic| walk_at "cond") => `(tactic| first
  | (show (0 : Int) < _; first | omega | assumption)
  | exact cdiv (by first | omega | assumption) (by first | omega | assumption)
  | exact cmulL (by omega) (by omega)
  | exact cmulR (by omega) (by omega))
local macro_rules | `(tactic| walk_at "hp") => `(tactic| first | assumption | exact upd_same)
local macro_rules | `(tactic| walk_at "ixL") => `(tactic| ((with_reducible refine' r_ixL (SqL.of ?h) ?a ?_); (case h => walk_at "hp"); (case a => rfl)))
local macro_rules | `(tactic| walk_at "setL") => `(tactic| ((with_reducible refine' r_setL ?h ?a ?_); (case h => walk_at "hp"); (case a => rfl)))
local macro_rules | `(tactic| walk_at "rI") => `(tactic| ((with_reducible refine r_I ?c ?_); (case c => walk_at "cond")))
local macro_rules | `(tactic| walk_at "eqs") => `(tactic| first | (with_reducible first | refine r_eqI ?_ | refine r_neI ?_ | refine r_eqS ?_ | refine r_neS ?_) | ((with_reducible first | refine r_eq ?c ?_ | refine r_ne ?c ?_); (case c => rfl)))
local macro_rules | `(tactic| walk_at "st1") => `(tactic| first
  | walk_at "go1"
  | walk_at "rI" | walk_at "ixL" | walk_at "setL" | walk_at "eqs")
local macro_rules | `(tactic| walk_at "st") => `(tactic| repeat walk_at "st1")
/-! ### lines -/
def spc : Str := Str.ofString " "
def nlS : Str := Str.ofString "\n"
def wordsOf (l : Str) : List Str := Txt.split l spc
/-- read_states -/
def rstates (l : Str) : Int := match wordsOf l with
  | [u, v] => if u = Str.ofString "states" then (if rnum v 60 > 0 then rnum v 60 else 0) else 0
  | _ => 0
/-- the sign of the signal j -/
def sgn (j : Nat) : Str := ⟨#[97 + j]⟩
/-- read_table -/
def rtab (l : Str) (j n : Nat) : List Int :=
  if 5 ≤ j then [] else if (wordsOf l)[0]? ≠ some (sgn j) then [] else if (wordsOf l).length ≠ n + 1 then []
  else if ((wordsOf l).tail.map fun w => rnum w (n - 1)).all (fun x => decide (0 ≤ x)) = true then (wordsOf l).tail.map fun w => rnum w (n - 1) else []
theorem cutV_drop (xs : List V) (k : Nat) : cutV xs (some (k : Int)) none = xs.drop k := by
  unfold cutV
  rw [HT.sIx_nat, HT.sIx_none]
  have e : xs.drop (min k xs.length) = xs.drop k := by
    by_cases h : k ≤ xs.length
    · rw [Nat.min_eq_left h]
    · rw [Nat.min_eq_right (by omega), List.drop_length, List.drop_eq_nil_of_le (by omega)]
  rw [e, List.take_of_length_le]
  rw [List.length_drop]
  omega
theorem cutV_take (xs : List V) (k : Nat) : cutV xs none (some (k : Int)) = xs.take k := by
  unfold cutV
  rw [HT.sIx_nat, HT.sIx_none, List.drop_zero, Nat.sub_zero]
  by_cases h : k ≤ xs.length
  · rw [Nat.min_eq_left h]
  · rw [Nat.min_eq_right (by omega), List.take_length, List.take_of_length_le (by omega)]
theorem spl_ne (S : List Nat) : ∀ (l : List Nat) (k : Nat) (acc : List Nat), spl S k acc l ≠ []
  | [], k, acc => by rw [spl_nil]; simp
  | c :: r, 0, acc => by
    by_cases h : pre S (c :: r) = true
    · rw [spl_hit h]; simp
    · rw [spl_miss (by simpa using h)]
      exact spl_ne S r 0 _
  | c :: r, k + 1, acc => spl_ne S r k acc
theorem spl_len (S : List Nat) : ∀ (l : List Nat) (k : Nat) (acc : List Nat), ∀ p ∈ spl S k acc l, p.length ≤ acc.length + l.length
  | [], k, acc => by
    rw [spl_nil]
    intro p hp
    rw [List.mem_singleton.mp hp]
    simp
  | c :: r, 0, acc => by
    intro p hp
    by_cases h : pre S (c :: r) = true
    · rw [spl_hit h] at hp
      rcases List.mem_cons.mp hp with e | e
      · rw [e]; simp
      · have := spl_len S r _ [] p e
        simp only [List.length_cons, List.length_nil] at this ⊢
        omega
    · rw [spl_miss (by simpa using h)] at hp
      have := spl_len S r 0 _ p hp
      simp only [List.length_cons, List.length_append, List.length_nil] at this ⊢
      omega
  | c :: r, k + 1, acc => by
    intro p hp
    have := spl_len S r k acc p hp
    simp only [List.length_cons]
    omega
theorem tls (x : Str) {y : Str} (hy : tl y ≠ []) (hk : y.cps.all (· < 256) = true) : (Txt.split x y).map tl = spl (tl y) 0 [] (tl x) := split_spl x y hy (kind_ok hk)
theorem split_ne (l : Str) {s : Str} (hy : tl s ≠ []) (hk : s.cps.all (· < 256) = true) : Txt.split l s ≠ [] := fun e => by
  have h := tls l hy hk
  rw [e] at h
  exact spl_ne _ _ _ _ h.symm
theorem split_small {l s : Str} {n : Nat} (hy : tl s ≠ []) (hk : s.cps.all (· < 256) = true) (h : l.length ≤ n) : (Txt.split l s).length ≤ n + 2 ∧ ∀ w ∈ Txt.split l s, w.length ≤ n := by
  refine ⟨Nat.le_trans (PyProof.Rows.split_le l s) (by omega), fun w hw => ?_⟩
  have h1 : tl w ∈ spl (tl s) 0 [] (tl l) := by
    rw [← tls l hy hk]
    exact List.mem_map_of_mem hw
  have h2 := spl_len _ _ _ _ _ h1
  rw [List.length_nil, Nat.zero_add, ← len_tl, ← len_tl] at h2
  omega
theorem spc_ne : tl spc ≠ [] := by decide +kernel
theorem spc_k : spc.cps.all (· < 256) = true := by decide +kernel
theorem nl_ne : tl nlS ≠ [] := by decide +kernel
theorem nl_k : nlS.cps.all (· < 256) = true := by decide +kernel
section
variable {P : Program} {w : World} {K : PySem.W.Frag} {mg : Str → Option Value} {base : Heap} {a : Ad}
theorem r_split {H : Hp} {Q : VK} {x y : Str} (hy : (y.length == 0) = false) (hx : x.length ≤ 100000) (q : ∀ p, H p = none → Q (.ref p) (upd H p (.lst ((Txt.split x y).map V.str)))) :
    (∃ a b, V.str x = .str a ∧ [V.str y] = [.str b] ∧ (b.length == 0) = false ∧ a.length + 2 ≤ sizeLine ∧ rNewStrs (Txt.split a b) H Q) :=
  ⟨x, y, rfl, rfl, hy, by have : (100002 : Nat) ≤ sizeLine := by decide
                          omega, q⟩
def sp_read_states : Sp := fun vs H Q _ => ∃ (x : Str), vs = [.str x] ∧ x.length ≤ 9000 ∧ ∀ H', Same H H' → Q (.int (rstates x)) H'
theorem ok_read_states (T : Txt K mg a) : FnOk P w K mg base CX0 2 a.f_read_states a.d_read_states P_read_states sp_read_states := by
  refine T.F_read_states.ok sc_read_states (fun vs H Q E h => ?_) (fun cdv A outer s H vs Q E hr h => ?_)
  · obtain ⟨x, rfl, _⟩ := h
    rfl
  · obtain ⟨x, rfl, hx, k⟩ := h
    refine ⟨_, (pss_cons (ps_set (i := 1) sc_read_states.nd rfl (Or.inl rfl) (pe_split (pv 0) pe_str))
    (pss_cons (ps_if (PW.pt (pw_or (pt_cmpR op_ne (pe_callB (c_lenK (K := K)) (by rfl) T.len (by decide +kernel) (pa_cons (pv 1) pa_nil)) pe_int (nomark _)) (pw_or1 (pt_cmpR op_ne (pe_ix (ix_listK (K := K)) (pv 1) pe_int (fun _ _ => rfl)) pe_str (nomark _)))))
      (pss_one (ps_ret pe_int))
      pss_nil)
    (pss_one (ps_ret (pe_callB (c_max2 rfl) (by rfl) T.max (by decide +kernel) (pa_cons pe_int (pa_cons (pe_call (ok_read_number T) (hr.mono (by decide)) (by rfl) T.mg_read_number T.F_read_number.kp T.b_read_number .nil pass0 (pa_cons (pe_ix (ix_listK (K := K)) (pv 1) pe_int (fun _ _ => rfl)) (pa_cons (pe_glob (v := .int 60) rfl T.g_MOST_STATES.choose_spec ⟨_, rfl⟩) pa_nil))) pa_nil))))))), ?_⟩
    walk_at "st"
    refine r_split (by decide +kernel) (by omega) fun p hp => ?_
    walk_at "st"
    refine r_lenL (SqL.of upd_same) ?_
    walk_at "st"
    obtain ⟨hl, hw⟩ := split_small (s := spc) spc_ne spc_k hx
    have sm : Same H (upd H p (.lst ((wordsOf x).map V.str))) := Same.mk hp
    have lm : ((Txt.split x (Str.ofString " ")).map V.str).length = (wordsOf x).length := List.length_map _
    rw [lm]
    refine brN (fun e => ?_) (fun e => ?_)
    · walk_at "st"
      have e1 : rstates x = 0 := by
        unfold rstates
        split
        · rename_i u v hh
          rw [hh] at e
          exact absurd rfl e
        · rfl
      rw [e1] at k
      exact k _ sm
    obtain ⟨u, v, huv⟩ : ∃ u v, wordsOf x = [u, v] := by
      cases h : wordsOf x with
      | nil => rw [h] at e; exact absurd e (by simp)
      | cons u r =>
        cases r with
        | nil => rw [h] at e; exact absurd e (by simp)
        | cons v r2 =>
          cases r2 with
          | nil => exact ⟨u, v, rfl⟩
          | cons _ _ => rw [h] at e; exact absurd e (by simp only [List.length_cons]; omega)
    have hp0 : upd H p (.lst ((wordsOf x).map V.str)) p = some (.lst [V.str u, V.str v]) := by rw [upd_same, huv]; rfl
    have hv : v.length ≤ 9000 := hw v (by show v ∈ wordsOf x; rw [huv]; simp)
    walk_at "st"
    refine brN (fun e2 => ?_) (fun e2 => ?_)
    · walk_at "st"
      have e1 : rstates x = 0 := by
        unfold rstates
        rw [huv]
        exact if_neg e2
      rw [e1] at k
      exact k _ sm
    walk_at "st"
    refine ⟨v, 60, rfl, by omega, by omega, fun H' s' => ?_⟩
    walk_at "st"
    refine r_max2 ?_
    have e1 : rstates x = if rnum v 60 > 0 then rnum v 60 else 0 := by
      unfold rstates
      rw [huv]
      exact if_pos e2
    rw [e1] at k
    exact k _ (sm.trans s')
def sp_read_table : Sp := fun vs H Q _ => ∃ (x : Str) (j n : Nat), vs = [.str x, .int j, .int n] ∧ x.length ≤ 9000 ∧ 1 ≤ n ∧ n ≤ 60 ∧ ∀ p H', Same H H' → H' p = some (.lst ((rtab x j n).map V.int)) → Q (.ref p) H'
theorem ok_read_table (T : Txt K mg a) : FnOk P w K mg base CX0 2 a.f_read_table a.d_read_table P_read_table sp_read_table := by
  refine T.F_read_table.ok sc_read_table (fun vs H Q E h => ?_) (fun cdv A outer s H vs Q E hr h => ?_)
  · obtain ⟨x, j, n, rfl, _⟩ := h
    rfl
  · obtain ⟨x, j, n, rfl, hx, hn0, hn, k⟩ := h
    refine ⟨_, (pss_cons (ps_set (i := 3) sc_read_table.nd rfl (Or.inl rfl) (pe_split (pv 0) pe_str))
    (pss_cons (ps_if (PW.pt (pw_or (pt_cmpR op_ge (pv 1) (pe_callB (c_lenK (K := K)) (by rfl) T.len (by decide +kernel) (pa_cons (pe_glob (v := .str "abcde") rfl T.g_ALL_SIGNALS.choose_spec ⟨_, rfl⟩) pa_nil)) (nomark _)) (pw_or (pt_cmpR op_ne (pe_ix (ix_listK (K := K)) (pv 3) pe_int (fun _ _ => rfl)) (pe_ix ix_str (pe_glob (v := .str "abcde") rfl T.g_ALL_SIGNALS.choose_spec ⟨_, rfl⟩) (pv 1) (fun _ _ => rfl)) (nomark _)) (pw_or1 (pt_cmpR op_ne (pe_callB (c_lenK (K := K)) (by rfl) T.len (by decide +kernel) (pa_cons (pv 3) pa_nil)) (pe_op op_add (pv 2) pe_int) (nomark _))))))
      (pss_one (ps_ret (pe_lst pa_nil)))
      pss_nil)
    (pss_cons (ps_setLc (i := 4) (own := [("word", 5)]) (g := gName 5) (tt := tYes) rfl sc_read_table.nd rfl rfl (sw_true rfl rfl rfl (by decide +kernel)) (pi_list (pe_slice sl_list (pv 3) (po_some pe_int) po_none)) (blkOk_by (own := [("word", 5)]) (N := N_read_table) (sc := defScope s_read_table) (by decide +kernel)) (fun _ _ _ _ _ => (pg_name (i := 5) sc_read_table.nd rfl (Or.inl rfl))) (fun _ _ _ _ _ => pts_nil) (fun _ _ _ _ _ => (pe_call (ok_read_number T) (hr.mono (by decide)) (by rfl) T.mg_read_number T.F_read_number.kp T.b_read_number .nil pass0 (pa_cons (pv 5) (pa_cons (pe_op op_sub (pv 2) pe_int) pa_nil)))))
    (pss_one (ps_ret (pe_ifExp (pt_cmpR op_ge (pe_callB (cr_min rfl) (by rfl) T.min (by decide +kernel) (pa_cons (pv 4) pa_nil)) pe_int (nomark _)) (pv 4) (pe_lst pa_nil))))))), ?_⟩
    walk_at "st"
    refine r_split (by decide +kernel) (by omega) fun p hp => ?_
    walk_at "st"
    refine r_lenS (by decide +kernel) ?_
    walk_at "st"
    obtain ⟨hl, hw⟩ := split_small (s := spc) spc_ne spc_k hx
    have sm : Same H (upd H p (.lst ((wordsOf x).map V.str))) := Same.mk hp
    have nil0 : rtab x j n = [] → tRet (tLst tNil) { nx := fun x H' => Q V.non H', rt := Q } (List.set (L2.start N_read_table [V.str x, V.int (j : Nat), V.int (n : Nat)]) 3 (some (.ref p))) (upd H p (.lst ((wordsOf x).map V.str))) := fun e => by
      walk_at "st"
      refine ⟨by show 0 ≤ sizeLine; exact Nat.zero_le _, fun q hq => ?_⟩
      exact k q _ (Same.put sm (Same.free sm hq)) (by rw [upd_same, e]; rfl)
    have e5 : (((Str.ofString "abcde").length : Nat) : Int) = 5 := by rw [len5]; rfl
    rw [e5]
    refine brD (fun e => ?_) (fun e => ?_)
    · walk_at "go1"
      exact nil0 (by unfold rtab; rw [if_pos (show 5 ≤ j by omega)])
    have hj : j < 5 := by omega
    obtain ⟨u, ws, hws⟩ : ∃ u ws, wordsOf x = u :: ws := by
      cases h : wordsOf x with
      | nil => exact absurd h (split_ne x spc_ne spc_k)
      | cons u r => exact ⟨u, r, rfl⟩
    have hp0 : upd H p (.lst ((wordsOf x).map V.str)) p = some (.lst (V.str u :: ws.map V.str)) := by rw [upd_same, hws]; rfl
    walk_at "st"
    refine r_ixL (v := V.str u) (SqL.of hp0) (atI_nat (j := 0) rfl) ?_
    walk_at "st"
    have at5 : atI (Str.ofString "abcde").cps.toList (j : Int) = some (97 + j) := by
      refine atI_nat ?_
      have e : (Str.ofString "abcde").cps.toList = [97, 98, 99, 100, 101] := by decide +kernel
      rw [e]
      have : j = 0 ∨ j = 1 ∨ j = 2 ∨ j = 3 ∨ j = 4 := by omega
      rcases this with h | h | h | h | h <;> rw [h] <;> rfl
    refine ⟨_, j, 97 + j, rfl, rfl, by decide +kernel, at5, ?_⟩
    walk_at "st"
    refine brN (fun e2 => ?_) (fun e2 => ?_)
    · walk_at "go1"
      refine nil0 ?_
      unfold rtab
      rw [if_neg (by omega), if_pos (by rw [hws]; intro z; exact e2 (Option.some.inj z))]
    walk_at "st"
    refine r_lenL (SqL.of hp0) ?_
    walk_at "st"
    have lm : ((V.str u :: ws.map V.str).length : Int) = (((wordsOf x).length : Nat) : Int) := by rw [hws]; simp
    rw [lm]
    refine brN (fun e3 => ?_) (fun e3 => ?_)
    · walk_at "go1"
      refine nil0 ?_
      unfold rtab
      rw [if_neg (by omega), if_neg (by rw [hws]; intro z; exact z (congrArg some e2)), if_pos (by intro z; exact e3 (by rw [z]; rfl))]
    have e3' : (wordsOf x).length = n + 1 := by exact_mod_cast e3
    have lws : ws.length = n := by rw [hws] at e3'; simpa using e3'
    have e4 : rtab x j n = if ((ws.map fun w => rnum w (n - 1)).all fun x => decide (0 ≤ x)) = true then (ws.map fun w => rnum w (n - 1)) else [] := by
      unfold rtab
      rw [if_neg (by omega), if_neg (by rw [hws]; intro z; exact z (congrArg some e2)), if_neg (by rw [e3']; exact fun z => z rfl), hws]
      rfl
    walk_at "st"
    refine r_lc0 ?_
    walk_at "st"
    refine r_slL (SqL.of hp0) fun q hq => ?_
    have cut : cutV (V.str u :: ws.map V.str) (some 1) none = ws.map V.str := cutV_drop (V.str u :: ws.map V.str) 1
    rw [cut]
    have sq : Same H (upd (upd H p (.lst ((wordsOf x).map V.str))) q (.lst (ws.map V.str))) := Same.put sm (Same.free sm hq)
    refine r_lcL (S := fun _ => False) (fun _ i acc H' => Same (upd (upd H p (.lst ((wordsOf x).map V.str))) q (.lst (ws.map V.str))) H' ∧ acc = ((ws.take i).map fun w => rnum w (n - 1)).map V.int) (SqL.of upd_same) (fun _ z => z.elim) (by rw [List.length_map]; omega)
      (fun D i acc H' o hD ⟨e1, e2⟩ => ⟨Same.put e1 hD, e2⟩) (fun _ _ => ⟨Same.refl _, rfl⟩) (fun _ i acc H' e => SqL.of (e.1 _ _ upd_same)) ?_ ?_ (fun R q => q)
    · intro D i y acc H' hi hy hD hD' ⟨f1, f2⟩ Q' q'
      obtain ⟨v, hv, rfl⟩ : ∃ v, ws[i]? = some v ∧ V.str v = y := by
        rw [List.getElem?_map] at hy
        exact Option.map_eq_some_iff.mp hy
      walk_at "st"
      have ev : ((n : Nat) : Int) - 1 = ((n - 1 : Nat) : Int) := by omega
      rw [ev]
      refine ⟨v, n - 1, rfl, by omega, Nat.le_trans (hw v (by show v ∈ wordsOf x; rw [hws]; exact List.mem_cons_of_mem _ (List.mem_of_getElem? hv))) (by decide), fun H4 s4 => ?_⟩
      refine q' _ _ ⟨f1.trans s4, ?_⟩ (Keep.of s4)
      rw [f2, List.take_add_one, hv, List.map_append, List.map_append]
      rfl
    · intro D acc H' hD ⟨f1, f2⟩ hD' hlen
      have f3 : (ws.take (ws.map V.str).length) = ws := by rw [List.length_map, List.take_length]
      rw [f3] at f2
      walk_at "st"
      refine ⟨D, (ws.map fun w => rnum w (n - 1)), rfl, ?_, ?_, fun m hm1 hm2 => ?_⟩
      · rw [← f2]; exact SqL.of hD'
      · rw [List.length_map]; omega
      walk_at "st"
      have sD : Same H H' := sq.trans f1
      refine brD (fun e6 => ?_) (fun e6 => ?_)
      · walk_at "st"
        refine k D H' sD ?_
        rw [hD', f2, e4, if_pos]
        rw [List.all_eq_true]
        intro z hz
        exact decide_eq_true (Int.le_trans e6 (hm2 z hz))
      · walk_at "st"
        refine ⟨by show 0 ≤ sizeLine; exact Nat.zero_le _, fun q hq => ?_⟩
        refine k q _ (Same.put sD (Same.free sD hq)) ?_
        rw [upd_same, e4, if_neg]
        · rfl
        · intro z
          rw [List.all_eq_true] at z
          exact e6 (of_decide_eq_true (z m hm1))
end
end Bk

set_option Elab.async false
set_option linter.all false
set_option maxRecDepth 100000
set_option maxHeartbeats 4000000
namespace Bk
open PySem PySem.Spec PyProof.Rows L2 TL
/-- the walk that needs no fact -/
local macro_rules | `(tactic| walk_at "go1") => `(tactic| with_reducible first
  | refine r_seq ?_ | refine r_set ?_ | refine r_ret ?_ | refine r_drop ?_ | refine r_ifS ?_ | refine r_next ?_ | refine r_asg ?_ | refine r_gSub ?_
  | refine r_var rfl ?_ | refine r_c ?_ | refine r_op ?_ | refine r_un ?_ | refine r_I0 ?_ | refine r_U ?_ | refine r_cons ?_ | refine r_nil ?_ | refine r_CB ?_ | refine r_call ?_
  | refine r_test ?_ | refine r_B ?_ | refine r_not ?_ | refine r_and ?_ | refine r_or ?_ | refine r_andV ?_ | refine r_orV ?_ | refine r_notV ?_ | refine r_if ?_ | refine r_exb ?_ | refine r_exc ?_
  | refine brTT ?_ | refine brFF ?_ | refine brNTT ?_ | refine brNFF ?_ | refine r_chain ?_ | refine r_sl ?_ | refine r_nopart ?_ | refine r_part ?_ | refine r_exi ?_ | refine r_gn ?_ | refine r_make ?_ | refine r_zipS ?_ | refine r_enum ?_ | refine r_rng1 ?_ | refine r_js ?_ | refine r_jn ?_ | refine r_fmt ?_ | refine r_bm ?_ | refine r_isS ?_ | refine r_sfld ?_ | refine r_m0 ?_ | refine r_m1 ?_
  | refine r_lst ?_ | refine r_tup ?_ | refine r_fld ?_ | refine r_int ?_ | refine r_intB ?_ | refine r_abs ?_)
local macro_rules | `(tactic| walk_at "go") => `(tactic| repeat walk_at "go1")
local macro_rules | `(tactic| walk_at "cond") => `(tactic| first
  | (show (0 : Int) < _; first | omega | assumption)
  | exact cdiv (by first | omega | assumption) (by first | omega | assumption)
  | exact cmulL (by omega) (by omega)
  | exact cmulR (by omega) (by omega))
local macro_rules | `(tactic| walk_at "hp") => `(tactic| first | assumption | exact upd_same)
local macro_rules | `(tactic| walk_at "ixL") => `(tactic| ((with_reducible refine' r_ixL (SqL.of ?h) ?a ?_); (case h => walk_at "hp"); (case a => rfl)))
local macro_rules | `(tactic| walk_at "setL") => `(tactic| ((with_reducible refine' r_setL ?h ?a ?_); (case h => walk_at "hp"); (case a => rfl)))
local macro_rules | `(tactic| walk_at "rI") => `(tactic| ((with_reducible refine r_I ?c ?_); (case c => walk_at "cond")))
local macro_rules | `(tactic| walk_at "eqs") => `(tactic| first | (with_reducible first | refine r_eqI ?_ | refine r_neI ?_ | refine r_eqS ?_ | refine r_neS ?_) | ((with_reducible first | refine r_eq ?c ?_ | refine r_ne ?c ?_); (case c => rfl)))
local macro_rules | `(tactic| walk_at "st1") => `(tactic| first
  | walk_at "go1"
  | walk_at "rI" | walk_at "ixL" | walk_at "setL" | walk_at "eqs")
local macro_rules | `(tactic| walk_at "st") => `(tactic| repeat walk_at "st1")
/-! ### the text of a device -/
def istr (i : Int) : Str := Str.ofString (toString i)
def rowL (j : Nat) (t : List Int) : Str := Txt.join spc (sgn j :: t.map istr)
def headL (n : Nat) : Str := Str.ofString "states " ++ istr (n : Int)
def rowsL : Nat → List (List Int) → List Str
  | _, [] => []
  | j, t :: r => rowL j t :: rowsL (j + 1) r
def linesL (ts : List (List Int)) (n : Nat) : List Str := headL n :: rowsL 0 ts
def textL (ts : List (List Int)) (n : Nat) : Str := Txt.join nlS (linesL ts n)
theorem rowsL_len : ∀ (ts : List (List Int)) (j : Nat), (rowsL j ts).length = ts.length
  | [], _ => rfl
  | t :: r, j => by
    show (rowsL (j + 1) r).length + 1 = r.length + 1
    rw [rowsL_len r]
theorem rowsL_app : ∀ (ts us : List (List Int)) (j : Nat), rowsL j (ts ++ us) = rowsL j ts ++ rowsL (j + ts.length) us
  | [], us, j => rfl
  | t :: r, us, j => by
    show rowL j t :: rowsL (j + 1) (r ++ us) = rowL j t :: (rowsL (j + 1) r ++ rowsL (j + (r.length + 1)) us)
    rw [rowsL_app r us (j + 1), Nat.add_assoc, Nat.add_comm 1]
theorem istr_len {x : Int} {n : Nat} (h0 : 0 ≤ x) (h1 : x ≤ n) (hn : n ≤ 60) : (istr x).length ≤ 2 := by
  have e : x = ((x.toNat : Nat) : Int) := by omega
  rw [e]
  exact numS_len (by omega)
theorem sig_at {k i : Nat} (hk : k ≤ 5) (hi : i < k) : (sigS k).cps[i]? = some (97 + i) := by
  have key : ∀ (k : Fin 6) (i : Fin 5), i.val < k.val → (sigS k.val).cps[i.val]? = some (97 + i.val) := by decide +kernel
  exact key ⟨k, by omega⟩ ⟨i, by omega⟩ hi
theorem sig_size {k : Nat} (hk : k ≤ 5) : (sigS k).cps.size = k := by
  have key : ∀ (k : Fin 6), (sigS k.val).cps.size = k.val := by decide +kernel
  exact key ⟨k, by omega⟩
theorem sum_le {α : Type} (f : α → Nat) {b : Nat} : ∀ (l : List α), (∀ x ∈ l, f x ≤ b) → (l.map f).sum ≤ l.length * b
  | [], _ => by simp
  | x :: r, h => by
    have h1 := sum_le f r fun y hy => h y (List.mem_cons_of_mem _ hy)
    have h2 := h x (List.mem_cons_self ..)
    simp only [List.map_cons, List.sum_cons, List.length_cons, Nat.succ_mul]
    omega
theorem row_words {j : Nat} {t : List Int} {n : Nat} (hn : n ≤ 60) (h : t.length = n ∧ ∀ x ∈ t, 0 ≤ x ∧ x < n) : ((sgn j :: t.map istr).map (·.length)).sum + (sgn j :: t.map istr).length * spc.length ≤ 300 := by
  have e : spc.length = 1 := by decide +kernel
  have h1 : ∀ w ∈ sgn j :: t.map istr, w.length ≤ 2 := by
    intro w hw
    rcases List.mem_cons.mp hw with z | z
    · rw [z]; show 1 ≤ 2; decide
    · obtain ⟨x, hx, rfl⟩ := List.mem_map.mp z
      have := h.2 x hx
      exact istr_len this.1 (by omega) hn
  have h2 := sum_le (·.length) (b := 2) (sgn j :: t.map istr) h1
  rw [e]
  simp only [List.length_cons, List.length_map] at h2 ⊢
  omega
theorem join_len (sep : Str) (ys : List Str) : (Txt.join sep ys).length ≤ (ys.map (·.length)).sum + ys.length * sep.length := by
  rw [join_eq]
  exact StrLaws.join_length_le sep ys
theorem row_len {j : Nat} {t : List Int} {n : Nat} (hn : n ≤ 60) (h : t.length = n ∧ ∀ x ∈ t, 0 ≤ x ∧ x < n) : (rowL j t).length ≤ 300 := Nat.le_trans (join_len _ _) (row_words hn h)
theorem rows_len {n : Nat} (hn : n ≤ 60) : ∀ (ts : List (List Int)) (j : Nat), (∀ t ∈ ts, t.length = n ∧ ∀ x ∈ t, 0 ≤ x ∧ x < n) → ∀ l ∈ rowsL j ts, l.length ≤ 300
  | [], _, _ => fun l hl => by simp [rowsL] at hl
  | t :: r, j, h => fun l hl => by
    rcases List.mem_cons.mp hl with z | z
    · rw [z]; exact row_len hn (h t (List.mem_cons_self ..))
    · exact rows_len hn r (j + 1) (fun u hu => h u (List.mem_cons_of_mem _ hu)) l z
theorem head_len {n : Nat} (hn : n ≤ 60) : (headL n).length ≤ 9 := by
  have h := istr_len (x := (n : Int)) (n := n) (by omega) (Int.le_refl _) hn
  have e : (Str.ofString "states ").length = 7 := by decide +kernel
  unfold headL
  rw [Str.length_append]
  omega
theorem lines_sum {ts : List (List Int)} {n : Nat} (g : Good ts n) : ((linesL ts n).map (·.length)).sum + (linesL ts n).length * nlS.length ≤ 2000 ∧ ∀ l ∈ linesL ts n, l.length ≤ 300 := by
  have h1 : ∀ l ∈ linesL ts n, l.length ≤ 300 := fun l hl => by
    rcases List.mem_cons.mp hl with z | z
    · rw [z]; exact Nat.le_trans (head_len g.n60) (by decide)
    · exact rows_len g.n60 ts 0 g.rows l z
  refine ⟨?_, h1⟩
  have h2 := sum_le (·.length) (b := 300) (linesL ts n) h1
  have e : nlS.length = 1 := by decide +kernel
  have e2 : (linesL ts n).length = ts.length + 1 := by
    show (rowsL 0 ts).length + 1 = _
    rw [rowsL_len]
  have := g.l5
  rw [e2] at h2 ⊢
  rw [e]
  omega
section
variable {P : Program} {w : World} {K : PySem.W.Frag} {mg : Str → Option Value} {base : Heap} {a : Ad}
def sp_device_text (a : Ad) : Sp := fun vs H Q _ => ∃ (x : Addr) (ts : List (List Int)) (n : Nat), vs = [.ref x] ∧ Dev a.C_Device H x ts n ∧ ∀ H', Same H H' → Q (.str (textL ts n)) H'
theorem ok_device_text (T : Txt K mg a) : FnOk P w K mg base CX0 2 a.f_device_text a.d_device_text P_device_text (sp_device_text a) := by
  refine T.F_device_text.ok sc_device_text (fun vs H Q E h => ?_) (fun cdv A outer s H vs Q E hr h => ?_)
  · obtain ⟨x, ts, n, rfl, _⟩ := h
    rfl
  · obtain ⟨x, ts, n, rfl, dv, k⟩ := h
    refine ⟨_, (pss_cons (ps_set (i := 1) sc_device_text.nd rfl (Or.inl rfl) (pe_lst (pa_cons (pe_joined (.cons pe_str (.cons (pe_fmt (pe_fldK (K := K) rfl (pv 0) rfl)) .nil))) pa_nil)))
    (pss_cons (ps_for PassesOwn.never rfl (pi_zipS (by rfl) T.zip (pa_cons (pe_fldK (K := K) rfl (pv 0) rfl) (pa_cons (pe_fldK (K := K) rfl (pv 0) rfl) pa_nil))) (pg_tup rfl (pgs_cons (pg_name (i := 2) sc_device_text.nd rfl (Or.inl rfl)) (pgs_cons (pg_name (i := 3) sc_device_text.nd rfl (Or.inl rfl)) pgs_nil)))
      (pss_one (ps_expr (pe_bm PySem.F.plainAttrs_list PySem.F.slot_list_append PySem.F.type_list_append mt_append (pv 1) (pa_cons (pe_join pe_str (pe_op op_cat (pe_lst (pa_cons (pv 2) pa_nil)) (pe_lc (own := [("state", 4)]) (g := gName 4) (tt := tYes) rfl sc_device_text.nd (pi_tup (pv 3)) (blkOk_by (own := [("state", 4)]) (N := N_device_text) (sc := defScope s_device_text) (by decide +kernel)) (fun _ _ _ _ _ => (pg_name (i := 4) sc_device_text.nd rfl (Or.inl rfl))) (fun _ _ _ _ _ => pts_nil) (fun _ _ _ _ _ => (pe_callTy c_str (by rfl) T.str (by decide +kernel) (pa_cons (pv 4) pa_nil)))))) pa_nil)))))
    (pss_one (ps_ret (pe_join pe_str (pv 1)))))), ?_⟩
    walk_at "st"
    obtain ⟨dx, tp, rs, hx, tb, g⟩ := dv
    have n60 := g.n60
    refine ⟨_, rfl, by decide +kernel, ?_⟩
    walk_at "st"
    refine ⟨x, _, dx, _, _, rfl, hx, T.cl_Device, T.n_Device_states, rfl, ?_⟩
    refine .inr ⟨(n : Nat), rfl, log_small (by omega), ?_⟩
    have eh : Str.empty ++ Str.ofString "states " ++ Str.ofString (toString ((n : Nat) : Int)) = headL n := by
      unfold headL istr
      congr 1
    refine ⟨_, rfl, ?_, ?_⟩
    · show (Str.empty ++ Str.ofString "states " ++ Str.ofString (toString ((n : Nat) : Int))).length ≤ sizeLine
      rw [eh]
      exact Nat.le_trans (head_len n60) (by decide)
    show tJs [] (Str.empty ++ Str.ofString "states " ++ Str.ofString (toString ((n : Nat) : Int))) _ _ _
    rw [eh]
    walk_at "st"
    refine ⟨by show 1 ≤ sizeLine; decide, fun L hL => ?_⟩
    walk_at "st"
    have s1 : Same H (upd H L (.lst [.str (headL n)])) := Same.mk hL
    refine r_for ?_
    walk_at "st"
    refine ⟨x, _, dx, _, _, rfl, s1 _ _ hx, T.cl_Device, T.n_Device_signals, rfl, ?_⟩
    walk_at "st"
    refine ⟨x, _, dx, _, _, rfl, s1 _ _ hx, T.cl_Device, T.n_Device_tables, rfl, ?_⟩
    walk_at "st"
    refine ⟨sigS ts.length, tp, _, rfl, SqT.of (s1 _ _ tb.1), ?_⟩
    have l5 := g.l5
    have lr : (rs.map V.ref).length = ts.length := by rw [List.length_map, tb.2.1]
    refine for_zipS (K := K) (x := sigS ts.length) (b := tp) (ys := rs.map V.ref) (by rw [sig_size l5, lr]) (fun i σ H' => (∃ v2 v3, σ = [some (.ref x), some (.ref L), v2, v3, none]) ∧ Same H H' ∧ H' L = some (.lst ((headL n :: rowsL 0 (ts.take i)).map V.str)))
      ⟨⟨_, _, rfl⟩, s1, upd_same⟩ (fun i σ H' z => SqT.of (z.2.1 _ _ tb.1)) ?_ ?_
    · rintro i c y T' σ H' hc hy ⟨⟨v2, v3, rfl⟩, s2, hL2⟩ hT
      refine r_pair ?_
      obtain ⟨q, hq, rfl⟩ : ∃ q, rs[i]? = some q ∧ V.ref q = y := by
        rw [List.getElem?_map] at hy
        exact Option.map_eq_some_iff.mp hy
      have hi : i < ts.length := by rw [← tb.2.1]; exact (List.getElem?_eq_some_iff.mp hq).1
      obtain ⟨t, ht⟩ : ∃ t, ts[i]? = some t := ⟨_, List.getElem?_eq_getElem hi⟩
      have rt := g.rows t (List.mem_of_getElem? ht)
      have hc2 : c = 97 + i := by rw [sig_at l5 hi] at hc; exact (Option.some.inj hc).symm
      have s3 : Same H' (upd H' T' (.tup [V.str ⟨#[c]⟩, V.ref q])) := Same.mk hT
      have htq := (s2.trans s3) _ _ (tb.2.2 i q t hq ht)
      walk_at "st"
      refine r_tyL (s3 _ _ hL2) ?_
      walk_at "st"
      refine ⟨by show 1 ≤ sizeLine; decide, fun A1 hA1 => ?_⟩
      have s4 := s3.trans (Same.mk (o := .lst [V.str ⟨#[c]⟩]) hA1)
      have htq4 := (Same.mk (o := .lst [V.str ⟨#[c]⟩]) hA1) _ _ htq
      refine r_lcT (S := fun _ => False) (fun _ i acc H'' => Same (upd (upd H' T' (.tup [V.str ⟨#[c]⟩, V.ref q])) A1 (.lst [V.str ⟨#[c]⟩])) H'' ∧ acc = ((t.take i).map istr).map V.str) (SqT.of htq4) (fun _ z => z.elim) (by rw [List.length_map]; omega)
        (fun D i acc H' o hD ⟨e1, e2⟩ => ⟨Same.put e1 hD, e2⟩) (fun _ _ => ⟨Same.refl _, rfl⟩) (fun _ i acc H' e => SqT.of (e.1 _ _ htq4)) ?_ ?_ (fun R q => ⟨_, rfl, q⟩)
      · intro D i' z acc H'' hi' hz hD hD' ⟨e1, e2⟩ Q' q'
        obtain ⟨z', hz', rfl⟩ : ∃ z', t[i']? = some z' ∧ V.int z' = z := by
          rw [List.getElem?_map] at hz
          exact Option.map_eq_some_iff.mp hz
        have hzb := rt.2 z' (List.mem_of_getElem? hz')
        walk_at "st"
        refine r_str (log_small (by omega)) ?_
        refine q' _ _ ⟨e1, ?_⟩ Keep.refl
        rw [e2, List.take_add_one, hz', List.map_append, List.map_append]
        rfl
      · intro D acc H'' hD ⟨e1, e2⟩ hD' hlen
        have e3 : t.take (t.map V.int).length = t := by rw [List.length_map, List.take_length]
        rw [e3] at e2
        rw [e2] at hD'
        refine r_cat (e1 _ _ upd_same) hD' (by simp only [List.length_map, List.length_cons, List.length_nil]; omega) fun A2 hA2 => ?_
        have er : [V.str ⟨#[c]⟩] ++ (t.map istr).map V.str = (sgn i :: t.map istr).map V.str := by rw [hc2]; rfl
        rw [er]
        walk_at "st"
        refine ⟨spc, A2, sgn i :: t.map istr, rfl, rfl, .inl (SqL.of upd_same), Nat.le_trans (row_words n60 rt) (by decide), ?_⟩
        walk_at "st"
        have s5 : Same H' (upd H'' A2 (.lst ((sgn i :: t.map istr).map V.str))) := Same.put (s4.trans e1) (Same.free (s4.trans e1) hA2)
        refine r_app (s5 _ _ hL2) (by simp only [List.length_map, List.length_cons, rowsL_len, List.length_take]; omega) ?_
        refine ⟨⟨_, _, rfl⟩, ?_, ?_⟩
        · intro b o e
          have ne : b ≠ L := ne_of_none e hL
          rw [upd_ne ne]
          exact s5 _ _ (s2 _ _ e)
        · rw [upd_same, List.take_add_one, ht]
          show some (HO.lst (_ ++ [V.str (rowL i t)])) = _
          have e6 : rowsL 0 (ts.take i ++ (some t).toList) = rowsL 0 (ts.take i) ++ [rowL i t] := by
            rw [rowsL_app]
            have e7 : (ts.take i).length = i := by rw [List.length_take]; omega
            rw [e7, Nat.zero_add]
            rfl
          rw [e6]
          simp
    · rintro σ H' ⟨⟨v2, v3, rfl⟩, s2, hL2⟩
      have e8 : ts.take (rs.map V.ref).length = ts := by rw [lr, List.take_length]
      rw [e8] at hL2
      walk_at "st"
      refine ⟨nlS, L, linesL ts n, rfl, rfl, .inl (SqL.of hL2), Nat.le_trans (lines_sum g).1 (by decide), ?_⟩
      exact k H' s2
end
end Bk

set_option Elab.async false
set_option linter.all false
set_option maxRecDepth 100000
set_option maxHeartbeats 4000000
namespace Bk
open PySem PySem.Spec PyProof.Rows L2 TL
/-- the walk that needs no fact -/
local macro_rules | `(tactic| walk_at "go1") => `(tactic| with_reducible first
  | refine r_seq ?_ | refine r_set ?_ | refine r_ret ?_ | refine r_drop ?_ | refine r_ifS ?_ | refine r_next ?_ | refine r_asg ?_ | refine r_gSub ?_
  | refine r_var rfl ?_ | refine r_c ?_ | refine r_op ?_ | refine r_un ?_ | refine r_I0 ?_ | refine r_U ?_ | refine r_cons ?_ | refine r_nil ?_ | refine r_CB ?_ | refine r_call ?_
  | refine r_test ?_ | refine r_B ?_ | refine r_not ?_ | refine r_and ?_ | refine r_or ?_ | refine r_andV ?_ | refine r_orV ?_ | refine r_notV ?_ | refine r_if ?_ | refine r_exb ?_ | refine r_exc ?_
  | refine brTT ?_ | refine brFF ?_ | refine brNTT ?_ | refine brNFF ?_ | refine r_chain ?_ | refine r_sl ?_ | refine r_nopart ?_ | refine r_part ?_ | refine r_exi ?_ | refine r_gn ?_ | refine r_make ?_ | refine r_zipS ?_ | refine r_enum ?_ | refine r_rng1 ?_ | refine r_js ?_ | refine r_jn ?_ | refine r_fmt ?_ | refine r_bm ?_ | refine r_isS ?_ | refine r_sfld ?_ | refine r_m0 ?_ | refine r_m1 ?_
  | refine r_lst ?_ | refine r_tup ?_ | refine r_fld ?_ | refine r_int ?_ | refine r_intB ?_ | refine r_abs ?_)
local macro_rules | `(tactic| walk_at "go") => `(tactic| repeat walk_at "go1")
local macro_rules | `(tactic| walk_at "cond") => `(tactic| first
  | (show (0 : Int) < _; first | omega | assumption)
  | exact cdiv (by first | omega | assumption) (by first | omega | assumption)
  | exact cmulL (by omega) (by omega)
  | exact cmulR (by omega) (by omega))
local macro_rules | `(tactic| walk_at "hp") => `(tactic| first | assumption | exact upd_same)
local macro_rules | `(tactic| walk_at "ixL") => `(tactic| ((with_reducible refine' r_ixL (SqL.of ?h) ?a ?_); (case h => walk_at "hp"); (case a => rfl)))
local macro_rules | `(tactic| walk_at "setL") => `(tactic| ((with_reducible refine' r_setL ?h ?a ?_); (case h => walk_at "hp"); (case a => rfl)))
local macro_rules | `(tactic| walk_at "rI") => `(tactic| ((with_reducible refine r_I ?c ?_); (case c => walk_at "cond")))
local macro_rules | `(tactic| walk_at "eqs") => `(tactic| first | (with_reducible first | refine r_eqI ?_ | refine r_neI ?_ | refine r_eqS ?_ | refine r_neS ?_) | ((with_reducible first | refine r_eq ?c ?_ | refine r_ne ?c ?_); (case c => rfl)))
local macro_rules | `(tactic| walk_at "st1") => `(tactic| first
  | walk_at "go1"
  | walk_at "rI" | walk_at "ixL" | walk_at "setL" | walk_at "eqs")
local macro_rules | `(tactic| walk_at "st") => `(tactic| repeat walk_at "st1")
/-! ### a text read -/
/-- what is no text of a device: the number of the first wrong line -/
def restL (x : Str) : List Str := (Txt.split x nlS).tail
def headOf (x : Str) : Str := (Txt.split x nlS).headD (Str.ofString "")
def tabAt (x : Str) (i : Nat) : List Int := rtab ((restL x).getD i (Str.ofString "")) i (rstates (headOf x)).toNat
def Bad (x : Str) (k : Nat) : Prop := (rstates (headOf x) = 0 ∧ k = 1) ∨ (rstates (headOf x) ≠ 0 ∧ restL x = [] ∧ k = 2) ∨
  (rstates (headOf x) ≠ 0 ∧ ∃ j, j < (restL x).length ∧ (∀ i, i < j → tabAt x i ≠ []) ∧ tabAt x j = [] ∧ k = j + 2)
def Fine (x : Str) (ts : List (List Int)) (n : Nat) : Prop := rstates (headOf x) = n ∧ n ≠ 0 ∧ restL x ≠ [] ∧ (∀ i, i < (restL x).length → tabAt x i ≠ []) ∧ ts = (List.range (restL x).length).map (tabAt x)
theorem rtab_good {l : Str} {j n : Nat} (h : rtab l j n ≠ []) (hn : 1 ≤ n) : j < 5 ∧ (rtab l j n).length = n ∧ ∀ x ∈ rtab l j n, 0 ≤ x ∧ x < n := by
  unfold rtab at h ⊢
  by_cases h1 : 5 ≤ j
  · rw [if_pos h1] at h; exact absurd rfl h
  rw [if_neg h1] at h ⊢
  by_cases h2 : (wordsOf l)[0]? ≠ some (sgn j)
  · rw [if_pos h2] at h; exact absurd rfl h
  rw [if_neg h2] at h ⊢
  by_cases h3 : (wordsOf l).length ≠ n + 1
  · rw [if_pos h3] at h; exact absurd rfl h
  rw [if_neg h3] at h ⊢
  by_cases h4 : ((wordsOf l).tail.map fun w => rnum w (n - 1)).all (fun x => decide (0 ≤ x)) = true
  · rw [if_pos h4] at h ⊢
    refine ⟨by omega, ?_, fun x hx => ⟨of_decide_eq_true (List.all_eq_true.mp h4 x hx), ?_⟩⟩
    · rw [List.length_map, List.length_tail]
      have : (wordsOf l).length = n + 1 := by simpa using h3
      omega
    · obtain ⟨w, _, rfl⟩ := List.mem_map.mp hx
      have := rnum_le w (n - 1)
      omega
  · rw [if_neg h4] at h; exact absurd rfl h
theorem rstates_le (l : Str) : 0 ≤ rstates l ∧ rstates l ≤ 60 := by
  unfold rstates
  split
  · rename_i u v hh
    by_cases h : u = Str.ofString "states"
    · rw [if_pos h]
      have := rnum_le v 60
      by_cases h2 : rnum v 60 > 0
      · rw [if_pos h2]; omega
      · rw [if_neg h2]; omega
    · rw [if_neg h]; omega
  · omega
theorem fine_good {x : Str} {ts : List (List Int)} {n : Nat} (h : Fine x ts n) : Good ts n := by
  obtain ⟨h1, h2, h3, h4, h5⟩ := h
  have hb := rstates_le (headOf x)
  have en : (rstates (headOf x)).toNat = n := by omega
  have key : ∀ i, i < (restL x).length → i < 5 ∧ (tabAt x i).length = n ∧ ∀ y ∈ tabAt x i, 0 ≤ y ∧ y < n := fun i hi => by
    have z := h4 i hi
    unfold tabAt at z ⊢
    rw [en] at z ⊢
    exact rtab_good z (by omega)
  have hl : (restL x).length ≠ 0 := fun e => h3 (List.length_eq_zero_iff.mp e)
  have k1 := (key ((restL x).length - 1) (by omega)).1
  refine ⟨?_, ?_, by omega, by omega, fun t ht => ?_⟩
  · rw [h5, List.length_map, List.length_range]; omega
  · rw [h5, List.length_map, List.length_range]; omega
  · rw [h5] at ht
    obtain ⟨i, hi, rfl⟩ := List.mem_map.mp ht
    exact (key i (List.mem_range.mp hi)).2
theorem bad_same {x : Str} {k k' : Nat} (h : Bad x k) (h' : Bad x k') : k = k' := by
  rcases h with ⟨h1, rfl⟩ | ⟨h1, h2, rfl⟩ | ⟨h1, j, h2, h3, h4, rfl⟩
  · rcases h' with ⟨_, rfl⟩ | ⟨i1, _⟩ | ⟨i1, _⟩
    · rfl
    · exact absurd h1 i1
    · exact absurd h1 i1
  · rcases h' with ⟨i1, _⟩ | ⟨_, _, rfl⟩ | ⟨_, j, i2, _⟩
    · exact absurd i1 h1
    · rfl
    · rw [h2] at i2; exact absurd i2 (Nat.not_lt_zero _)
  · rcases h' with ⟨i1, _⟩ | ⟨_, i2, _⟩ | ⟨_, j', _, i3, i4, rfl⟩
    · exact absurd i1 h1
    · rw [i2] at h2; exact absurd h2 (Nat.not_lt_zero _)
    · rcases Nat.lt_trichotomy j j' with z | z | z
      · exact absurd h4 (i3 j z)
      · rw [z]
      · exact absurd i4 (h3 j' z)
theorem bad_fine {x : Str} {k n : Nat} {ts : List (List Int)} (h : Bad x k) (f : Fine x ts n) : False := by
  obtain ⟨f1, f2, f3, f4, _⟩ := f
  rcases h with ⟨h1, _⟩ | ⟨_, h2, _⟩ | ⟨_, j, h2, _, h4, _⟩
  · rw [f1] at h1; exact f2 (by exact_mod_cast h1)
  · exact f3 h2
  · exact f4 j h2 h4
theorem fine_same {x : Str} {n m : Nat} {ts us : List (List Int)} (f : Fine x ts n) (g : Fine x us m) : ts = us ∧ n = m := by
  refine ⟨by rw [f.2.2.2.2, g.2.2.2.2], ?_⟩
  have h := f.1
  rw [g.1] at h
  exact (by exact_mod_cast h.symm)
section
variable {P : Program} {w : World} {K : PySem.W.Frag} {mg : Str → Option Value} {base : Heap} {a : Ad}
def sp_read (K : PySem.W.Frag) (a : Ad) : Sp := fun vs H Q E => (∃ (v : V) (nm : String), vs = [v] ∧ TyX K H v (.type nm) ∧ kitB nm "str" = some false ∧ ∀ d, H d = none → E (.ref a.C_BadText) (some d) (upd H d (.xd [("at", .int 0)]))) ∨
  ∃ x : Str, vs = [.str x] ∧ x.length ≤ 9000 ∧ ((∃ k : Nat, Bad x k ∧ ∀ d H', Same H H' → H' d = none → E (.ref a.C_BadText) (some d) (upd H' d (.xd [("at", .int k)]))) ∨
    ∃ ts n, Fine x ts n ∧ ∀ p H', Same H H' → Dev a.C_Device H' p ts n → Q (.ref p) H')
theorem ok_read_device (T : Txt K mg a) : FnOk P w K mg base (L2.CX P w) 7 a.f_read_device a.d_read_device P_read_device (sp_read K a) := by
  refine T.F_read_device.okX sc_read_device (fun vs H Q E h => ?_) (fun cdv A outer s H vs Q E hr h => ?_)
  · rcases h with ⟨v, nm, rfl, _⟩ | ⟨x, rfl, _⟩ <;> rfl
  · refine ⟨_, (pss_cons (ps_if (pt_not (pt_val (pe_callB (c_isiK (K := K)) (by rfl) T.isinstance (by decide +kernel) (pa_cons (pv 0) (pa_cons (pe_bltn (v := .ty "str") (u := .type "str") (by rfl) T.str (by decide +kernel) rfl) pa_nil)))))
      (pss_one (ps_raise rfl (takes_of rfl rfl rfl rfl) (pmk_oex T.oex_BadText T.i_BadText T.ti_BadText (ok_BadText_init T) (hr.mono (by decide)) T.b_BadText_init .nil pass0 (by rfl) T.mg_BadText (pa_cons pe_int pa_nil))))
      pss_nil)
    (pss_cons (ps_set (i := 1) sc_read_device.nd rfl (Or.inl rfl) (pe_split (pv 0) pe_str))
    (pss_cons (ps_set (i := 2) sc_read_device.nd rfl (Or.inl rfl) (pe_call (ok_read_states T) (hr.mono (by decide)) (by rfl) T.mg_read_states T.F_read_states.kp T.b_read_states .nil pass0 (pa_cons (pe_ix (ix_listK (K := K)) (pv 1) pe_int (fun _ _ => rfl)) pa_nil)))
    (pss_cons (ps_if (pt_cmpR op_eq (pv 2) pe_int (nomark _))
      (pss_one (ps_raise rfl (takes_of rfl rfl rfl rfl) (pmk_oex T.oex_BadText T.i_BadText T.ti_BadText (ok_BadText_init T) (hr.mono (by decide)) T.b_BadText_init .nil pass0 (by rfl) T.mg_BadText (pa_cons pe_int pa_nil))))
      pss_nil)
    (pss_cons (ps_if (pt_cmpR op_eq (pe_callB (c_lenK (K := K)) (by rfl) T.len (by decide +kernel) (pa_cons (pv 1) pa_nil)) pe_int (nomark _))
      (pss_one (ps_raise rfl (takes_of rfl rfl rfl rfl) (pmk_oex T.oex_BadText T.i_BadText T.ti_BadText (ok_BadText_init T) (hr.mono (by decide)) T.b_BadText_init .nil pass0 (by rfl) T.mg_BadText (pa_cons pe_int pa_nil))))
      pss_nil)
    (pss_cons (ps_set (i := 3) sc_read_device.nd rfl (Or.inl rfl) (pe_lst pa_nil))
    (pss_cons (ps_for (passes_of rfl) rfl (pi_enum (by rfl) T.enumerate (pa_cons (pe_slice sl_list (pv 1) (po_some pe_int) po_none) pa_nil)) (pg_tup rfl (pgs_cons (pg_name (i := 4) sc_read_device.nd rfl (Or.inl rfl)) (pgs_cons (pg_name (i := 5) sc_read_device.nd rfl (Or.inl rfl)) pgs_nil)))
      (pss_cons (ps_set (i := 6) sc_read_device.nd rfl (Or.inl rfl) (pe_call (ok_read_table T) (hr.mono (by decide)) (by rfl) T.mg_read_table T.F_read_table.kp T.b_read_table .nil pass0 (pa_cons (pv 5) (pa_cons (pv 4) (pa_cons (pv 2) pa_nil)))))
      (pss_cons (ps_if (pt_not (pt_truth (pv 6) (by intro _; rfl)))
        (pss_one (ps_raise rfl (takes_of rfl rfl rfl rfl) (pmk_oex T.oex_BadText T.i_BadText T.ti_BadText (ok_BadText_init T) (hr.mono (by decide)) T.b_BadText_init .nil pass0 (by rfl) T.mg_BadText (pa_cons (pe_op op_add (pv 4) pe_int) pa_nil))))
        pss_nil)
      (pss_one (ps_expr (pe_bm PySem.F.plainAttrs_list PySem.F.slot_list_append PySem.F.type_list_append mt_append (pv 3) (pa_cons (pv 6) pa_nil)))))))
    (pss_one (ps_ret (pe_make T.M_Device (ok_Device_init T) (hr.mono (by decide)) (by rfl) T.mg_Device T.b_Device_init .nil pass0 (pa_cons (pv 3) pa_nil))))))))))), ?_⟩
    have K' : ∀ {te : TE} {v : V} {σ : L2.St} {H : Hp} , (∀ {Q : VK}, Q v H → te σ H Q) → (∀ d, H d = none → E (.ref a.C_BadText) (some d) (upd H d (.xd [("at", v)]))) →
        (fun σ H => tMkO a.C_BadText (spKeep (Str.ofString "at") a.C_BadText) [] (tCons te tNil) σ H fun cls d H' => E cls d H') σ H := fun hv q => r_raise (W := fun cls d _ H => E cls d H) (D := ⟨fun _ _ => False, fun _ _ => False, fun _ _ => False, fun _ _ => False⟩) hv q
    rcases h with ⟨v, nm, rfl, ty, hk, q⟩ | ⟨x, rfl, hx, q⟩
    · walk_at "st"
      refine r_isi (nm := nm) (b := false) ty hk ?_
      walk_at "st"
      exact K' (fun q => q) q
    · walk_at "st"
      refine r_isi (nm := "str") (b := true) (.base (.str x)) (by decide +kernel) ?_
      walk_at "st"
      have qE : ∀ k, Bad x k → ∀ d H', Same H H' → H' d = none → E (.ref a.C_BadText) (some d) (upd H' d (.xd [("at", .int (k : Nat))])) := fun k hb => by
        rcases q with ⟨k', hb', f⟩ | ⟨ts, n, hf, f⟩
        · rw [bad_same hb hb']; exact f
        · exact (bad_fine hb hf).elim
      have qF : ∀ ts n, Fine x ts n → ∀ p H', Same H H' → Dev a.C_Device H' p ts n → Q (.ref p) H' := fun ts n hf => by
        rcases q with ⟨k', hb', f⟩ | ⟨us, m, hf', f⟩
        · exact (bad_fine hb' hf).elim
        · obtain ⟨e1, e2⟩ := fine_same hf hf'
          rw [e1, e2]; exact f
      clear q
      refine r_split (by decide +kernel) (by omega) fun p hp => ?_
      obtain ⟨hl, hw⟩ := split_small (s := nlS) nl_ne nl_k hx
      obtain ⟨u, rest, hur⟩ : ∃ u rest, Txt.split x (Str.ofString "\n") = u :: rest := by
        cases h : Txt.split x (Str.ofString "\n") with
        | nil => exact absurd h (split_ne x nl_ne nl_k)
        | cons u r => exact ⟨u, r, rfl⟩
      have eH : headOf x = u := by unfold headOf; rw [show Txt.split x nlS = u :: rest from hur]; rfl
      have eR : restL x = rest := by unfold restL; rw [show Txt.split x nlS = u :: rest from hur]; rfl
      rw [hur]
      have hw' : ∀ v ∈ u :: rest, v.length ≤ 9000 := fun v hv => hw v (by show v ∈ Txt.split x (Str.ofString "\n"); rw [hur]; exact hv)
      have hl' : (u :: rest).length ≤ 9002 := by rw [← hur]; exact hl
      have s1 : Same H (upd H p (.lst ((u :: rest).map V.str))) := Same.mk hp
      walk_at "st"
      refine r_ixL (v := .str u) (SqL.of upd_same) (atI_nat (j := 0) rfl) ?_
      walk_at "st"
      refine ⟨u, rfl, hw' u (List.mem_cons_self ..), fun H1 s1' => ?_⟩
      have s2 := s1.trans s1'
      have hp1 := s1' _ _ (upd_same (H := H) (a := p) (o := .lst ((u :: rest).map V.str)))
      walk_at "st"
      have hb := rstates_le u
      refine brD (fun e => ?_) (fun e => ?_)
      · exact K' (fun q => q) (fun d hd => qE 1 (.inl ⟨by rw [eH]; exact e, rfl⟩) d H1 s2 hd)
      walk_at "st"
      refine r_lenL (SqL.of hp1) ?_
      walk_at "st"
      refine brD (fun e2 => ?_) (fun e2 => ?_)
      · refine K' (fun q => q) (fun d hd => qE 2 (.inr (.inl ⟨by rw [eH]; exact e, ?_, rfl⟩)) d H1 s2 hd)
        rw [eR]
        have e3 : rest.length = 0 := by
          simp only [List.map_cons, List.length_cons, List.length_map] at e2
          omega
        exact List.length_eq_zero_iff.mp e3
      have hr0 : rest ≠ [] := fun z => e2 (by rw [z]; rfl)
      walk_at "st"
      refine ⟨by show 0 ≤ sizeLine; exact Nat.zero_le _, fun tl htl => ?_⟩
      walk_at "st"
      have s3 : Same H1 (upd H1 tl (.lst [])) := Same.mk htl
      have s23 := s2.trans s3
      refine r_for ?_
      walk_at "st"
      refine r_slL (SqL.of (s3 _ _ hp1)) fun sl hsl => ?_
      have cut : cutV ((u :: rest).map V.str) (some 1) none = rest.map V.str := cutV_drop ((u :: rest).map V.str) 1
      rw [cut]
      have hne : tl ≠ sl := ne_of_none upd_same hsl
      have hHtl : H tl = none := Same.free s2 htl
      walk_at "st"
      refine ⟨sl, rest.map V.str, rfl, SqL.of upd_same, ?_⟩
      refine for_enum (K := K) (a := sl) (xs := rest.map V.str) (fun i σ H' => (∃ v4 v5 v6, σ = [some (.str x), some (.ref p), some (.int (rstates u)), some (.ref tl), v4, v5, v6]) ∧ Same H H' ∧ H' sl = some (.lst (rest.map V.str)) ∧ (∀ j, j < i → tabAt x j ≠ []) ∧
          ∃ qs : List Addr, H' tl = some (.lst (qs.map V.ref)) ∧ qs.length = i ∧ tl ∉ qs ∧ ∀ (j : Nat) r, qs[j]? = some r → H' r = some (.lst ((tabAt x j).map V.int)))
        ⟨⟨_, _, _, rfl⟩, Same.put s23 (Same.free s23 hsl), upd_same, fun j hj => absurd hj (Nat.not_lt_zero _), [], by rw [upd_ne hne, upd_same]; rfl, rfl, by simp, fun j r z => by simp at z⟩ (fun i σ H' z => SqL.of z.2.2.1) ?_ ?_
      · rintro i y T' σ H' hi hy ⟨⟨v4, v5, v6, rfl⟩, t1, t2, t3, qs, t4, t5, t6, t7⟩ hT
        refine r_pair ?_
        obtain ⟨l, hl1, rfl⟩ : ∃ l, rest[i]? = some l ∧ V.str l = y := by
          rw [List.getElem?_map] at hy
          exact Option.map_eq_some_iff.mp hy
        have hi' : i < rest.length := (List.getElem?_eq_some_iff.mp hl1).1
        have st1 : Same H' (upd H' T' (.tup [V.int (i : Nat), V.str l])) := Same.mk hT
        have en : rstates u = (((rstates u).toNat : Nat) : Int) := by omega
        have et : tabAt x i = rtab l i (rstates u).toNat := by
          unfold tabAt
          rw [eH, eR, List.getD_eq_getElem?_getD, hl1]
          rfl
        walk_at "st"
        refine ⟨l, i, (rstates u).toNat, by rw [← en]; rfl, hw' l (List.mem_cons_of_mem _ (List.mem_of_getElem? hl1)), by omega, by omega, fun r H2 st2 hr2 => ?_⟩
        rw [← et] at hr2
        have st := st1.trans st2
        walk_at "st"
        refine ⟨_, .inl ⟨_, SqL.of hr2, rfl⟩, ?_⟩
        by_cases hz : tabAt x i = []
        · refine brT (b := !(!(List.map V.int (tabAt x i)).isEmpty)) (by rw [hz]; rfl) ?_
          refine K' (v := .int ((i + 2 : Nat) : Int)) (fun {Q} q => ?_) (fun d hd => qE (i + 2) (.inr (.inr ⟨by rw [eH]; exact e, i, by rw [eR]; exact hi', t3, hz, rfl⟩)) d H2 (t1.trans st) hd)
          walk_at "st"
          exact q
        · refine brF (b := !(!(List.map V.int (tabAt x i)).isEmpty)) (by
            cases h : tabAt x i with
            | nil => exact absurd h hz
            | cons _ _ => rfl) ?_
          walk_at "st"
          refine r_tyL (st _ _ t4) ?_
          walk_at "st"
          refine r_app (st _ _ t4) (by rw [List.length_map, t5]; simp only [List.length_cons] at hl'; omega) ?_
          have hrt : r ≠ tl := fun z => by
            rw [z, st _ _ t4] at hr2
            have h1 := HO.lst.inj (Option.some.inj hr2)
            cases hq : qs with
            | nil =>
              rw [hq] at h1
              cases ht : tabAt x i with
              | nil => exact hz ht
              | cons _ _ => rw [ht] at h1; cases h1
            | cons _ _ =>
              rw [hq] at h1
              cases ht : tabAt x i with
              | nil => exact hz ht
              | cons _ _ => rw [ht] at h1; cases h1
          refine ⟨⟨_, _, _, rfl⟩, fun b o eb => ?_, ?_, fun j hj => ?_, qs ++ [r], ?_, by simp [t5], ?_, ?_⟩
          · rw [upd_ne (ne_of_none eb hHtl)]
            exact st _ _ (t1 _ _ eb)
          · rw [upd_ne (Ne.symm hne)]
            exact st _ _ t2
          · rcases Nat.lt_succ_iff_lt_or_eq.mp hj with z | z
            · exact t3 j z
            · rw [z]; exact hz
          · rw [upd_same, List.map_append]; rfl
          · intro z
            rcases List.mem_append.mp z with z | z
            · exact t6 z
            · exact hrt (List.mem_singleton.mp z).symm
          · intro j r' hj
            by_cases hjl : j < qs.length
            · rw [List.getElem?_append_left hjl] at hj
              rw [upd_ne (show r' ≠ tl from fun z => t6 (by rw [← z]; exact List.mem_of_getElem? hj))]
              exact st _ _ (t7 j r' hj)
            · have hj' : j = qs.length := by
                have h4 := (List.getElem?_eq_some_iff.mp hj).1
                rw [List.length_append] at h4
                have h5 : [r].length = 1 := rfl
                omega
              rw [hj', List.getElem?_append_right (Nat.le_refl _), Nat.sub_self] at hj
              have h6 : r = r' := Option.some.inj hj
              rw [← h6, upd_ne hrt, hj', t5]
              exact hr2
      · rintro σ H' ⟨⟨v4, v5, v6, rfl⟩, t1, t2, t3, qs, t4, t5, t6, t7⟩
        rw [List.length_map] at t3 t5
        have hf : Fine x ((List.range (restL x).length).map (tabAt x)) (rstates u).toNat := ⟨by rw [eH]; omega, by omega, by rw [eR]; exact hr0, by rw [eR]; exact t3, rfl⟩
        have g := fine_good hf
        walk_at "st"
        refine mk_dev (p := tl) (qs := qs) (ts := (List.range (restL x).length).map (tabAt x)) (n := (rstates u).toNat) ⟨t4, by rw [List.length_map, List.length_range, eR]; exact t5, fun i q t h1 h2 => ?_⟩ g fun y H2 s2' dv => qF _ _ hf y H2 (t1.trans s2') dv
        have h3 := t7 i q h1
        rw [List.getElem?_map] at h2
        obtain ⟨i', hi', rfl⟩ := Option.map_eq_some_iff.mp h2
        have hi2 : i' = i := by
          obtain ⟨hlt, e7⟩ := List.getElem?_eq_some_iff.mp hi'
          rw [List.getElem_range] at e7
          exact e7.symm
        rw [hi2]
        exact h3
end
end Bk

set_option Elab.async false
set_option linter.all false
set_option maxRecDepth 100000
set_option maxHeartbeats 4000000
namespace Bk
open PySem PySem.Spec PyProof.Rows L2 TL
/-- the walk that needs no fact -/
local macro_rules | `(tactic| walk_at "go1") => `(tactic| with_reducible first
  | refine r_seq ?_ | refine r_set ?_ | refine r_ret ?_ | refine r_drop ?_ | refine r_ifS ?_ | refine r_next ?_ | refine r_asg ?_ | refine r_gSub ?_
  | refine r_var rfl ?_ | refine r_c ?_ | refine r_op ?_ | refine r_un ?_ | refine r_I0 ?_ | refine r_U ?_ | refine r_cons ?_ | refine r_nil ?_ | refine r_CB ?_ | refine r_call ?_
  | refine r_test ?_ | refine r_B ?_ | refine r_not ?_ | refine r_and ?_ | refine r_or ?_ | refine r_andV ?_ | refine r_orV ?_ | refine r_notV ?_ | refine r_if ?_ | refine r_exb ?_ | refine r_exc ?_
  | refine brTT ?_ | refine brFF ?_ | refine brNTT ?_ | refine brNFF ?_ | refine r_chain ?_ | refine r_sl ?_ | refine r_nopart ?_ | refine r_part ?_ | refine r_exi ?_ | refine r_gn ?_ | refine r_make ?_ | refine r_zipS ?_ | refine r_enum ?_ | refine r_rng1 ?_ | refine r_js ?_ | refine r_jn ?_ | refine r_fmt ?_ | refine r_bm ?_ | refine r_isS ?_ | refine r_sfld ?_ | refine r_m0 ?_ | refine r_m1 ?_
  | refine r_lst ?_ | refine r_tup ?_ | refine r_fld ?_ | refine r_int ?_ | refine r_intB ?_ | refine r_abs ?_)
local macro_rules | `(tactic| walk_at "go") => `(tactic| repeat walk_at "go1")
local macro_rules | `(tactic| walk_at "cond") => `(tactic| first
  | (show (0 : Int) < _; first | omega | assumption)
  | exact cdiv (by first | omega | assumption) (by first | omega | assumption)
  | exact cmulL (by omega) (by omega)
  | exact cmulR (by omega) (by omega))
local macro_rules | `(tactic| walk_at "hp") => `(tactic| first | assumption | exact upd_same)
local macro_rules | `(tactic| walk_at "ixL") => `(tactic| ((with_reducible refine' r_ixL (SqL.of ?h) ?a ?_); (case h => walk_at "hp"); (case a => rfl)))
local macro_rules | `(tactic| walk_at "setL") => `(tactic| ((with_reducible refine' r_setL ?h ?a ?_); (case h => walk_at "hp"); (case a => rfl)))
local macro_rules | `(tactic| walk_at "rI") => `(tactic| ((with_reducible refine r_I ?c ?_); (case c => walk_at "cond")))
local macro_rules | `(tactic| walk_at "eqs") => `(tactic| first | (with_reducible first | refine r_eqI ?_ | refine r_neI ?_ | refine r_eqS ?_ | refine r_neS ?_) | ((with_reducible first | refine r_eq ?c ?_ | refine r_ne ?c ?_); (case c => rfl)))
local macro_rules | `(tactic| walk_at "st1") => `(tactic| first
  | walk_at "go1"
  | walk_at "rI" | walk_at "ixL" | walk_at "setL" | walk_at "eqs")
local macro_rules | `(tactic| walk_at "st") => `(tactic| repeat walk_at "st1")
section
variable {P : Program} {w : World} {K : PySem.W.Frag} {mg : Str → Option Value} {base : Heap} {a : Ad}
/-! ### the law's reading of a text -/
def sp_reads (K : PySem.W.Frag) (a : Ad) : Sp := fun vs H Q _ => (∃ (v : V) (nm : String), vs = [v] ∧ TyX K H v (.type nm) ∧ kitB nm "str" = some false ∧ ∀ H', Same H H' → Q (.int 0) H') ∨
  ∃ x : Str, vs = [.str x] ∧ x.length ≤ 9000 ∧ ((∃ k : Nat, Bad x k ∧ ∀ H', Same H H' → Q (.int k) H') ∨
    ∃ ts n, Fine x ts n ∧ ∀ p H', Same H H' → Dev a.C_Device H' p ts n → Q (.ref p) H')
theorem ok_law_reads (T : Txt K mg a) : FnOk P w K mg base CX0 9 a.f_law_reads a.d_law_reads P_law_reads (sp_reads K a) := by
  refine T.F_law_reads.ok sc_law_reads (fun vs H Q E h => ?_) (fun cdv A outer s H vs Q E hr h => ?_)
  · rcases h with ⟨v, nm, rfl, _⟩ | ⟨x, rfl, _⟩ <;> rfl
  · refine ⟨_, pss_one (ps_try_as (i := 1) (tb := fun W => tRet (tCallKS (sp_read K a) (WE W) (tCons (tVar 0) tNil)))
        (ts := fun a' cls d => tRet (tIf (tAnd (tB (tCB (rIsX K a' cls d) (tCons (tVar 1) (tCons (tC (.ref a.C_BackError)) tNil)))) (tNot (tB (tCB (rIsX K a' cls d) (tCons (tVar 1) (tCons (tC (.ref a.C_BadDevice)) tNil)))))) (tXf a' cls d a.C_BadText "at" (tVar 1)) (tC (.str "wrong"))))
        (Wout := fun _ _ _ _ => False) rfl rfl sc_law_reads.nd rfl rfl ⟨rfl, by decide, Or.inl T.mg_BadText⟩ takes0
        (fun W pn xe tk _ => pss_one (ps_ret (pe_callK0 (ok_read_device T) (hr.mono (by decide)) (by rfl) T.mg_read_device T.F_read_device.kp T.kb_read_device (fun σ => passAt tk σ) (pk_cons (pv 0) pk_nil))))
        (fun a' oe cls d pn hz hf => pss_one (ps_ret (pe_ifExp (PW.pt (pw_and (pt_val (pe_callB (call_isX hz hf) (by rfl) T.isinstance (by decide +kernel) (pa_cons (pv 1) (pa_cons (pe_glob (v := .ref a.C_BackError) rfl T.mg_BackError rfl) pa_nil))))
          (pw_and1 (pt_not (pt_val (pe_callB (call_isX hz hf) (by rfl) T.isinstance (by decide +kernel) (pa_cons (pv 1) (pa_cons (pe_glob (v := .ref a.C_BadDevice) rfl T.mg_BadDevice rfl) pa_nil)))))))) (pe_xf T.xf_BadText T.n_BadText_at hz hf (pv 1)) pe_str)))), ?_⟩
    refine r_ret (r_callK (r_cons ?_))
    have suite : ∀ (H1 : Hp) (k : Nat) (d : Addr), H1 d = none → (∀ H', Same H1 H' → Q (.int (k : Nat)) H') → ∀ v0, WE (wAs K (Value.ref a.C_BadText) 1
          (fun a' cls d =>
            tRet
              (tIf
                (tAnd (tB (tCB (rIsX K a' cls d) (tCons (tVar 1) (tCons (tC (V.ref a.C_BackError)) tNil))))
                  (tNot (tB (tCB (rIsX K a' cls d) (tCons (tVar 1) (tCons (tC (V.ref a.C_BadDevice)) tNil))))))
                (tXf a' cls d a.C_BadText (Str.ofString "at") (tVar 1)) (tC (V.str (Str.ofString "wrong")))))
          (fun x x_1 x_2 x_3 => False) { nx := fun x H' => Q V.non H', rt := Q }) (L2.start N_law_reads [v0]) (.ref a.C_BadText) (some d) (upd H1 d (.xd [("at", .int (k : Nat))])) := by
      intro H1 k d hd q v0
      refine ⟨true, T.exm_BadText_BadText, fun _ a0 _ => ?_, fun z => Bool.noConfusion z⟩
      refine r_ret (r_if (r_and (r_B (r_CB (r_cons (r_var rfl (r_cons (r_c (r_nil ?_)))))))))
      refine r_isX T.ex_BadText upd_same (fun u z => z) T.kit_BadText_BackError ⟨true, rfl, brTT ?_⟩
      refine r_not (r_B (r_CB (r_cons (r_var rfl (r_cons (r_c (r_nil ?_)))))))
      refine r_isX T.ex_BadText upd_same (fun u z => z) T.kit_BadText_BadDevice ⟨false, rfl, ?_⟩
      show if (!false) = true then _ else _
      refine brNFF ?_
      refine ⟨_, rfl, rfl, rfl, d, _, _, rfl, upd_same, rfl, ?_⟩
      exact q _ (Same.mk hd)
    rcases h with ⟨v, nm, rfl, ty, hk, q⟩ | ⟨x, rfl, hx, q⟩
    · refine r_var rfl (r_nil ?_)
      exact .inl ⟨v, nm, rfl, ty, hk, fun d hd => suite H 0 d hd (fun H' s' => q H' s') v⟩
    · refine r_var rfl (r_nil ?_)
      refine .inr ⟨x, rfl, hx, ?_⟩
      rcases q with ⟨k, hb, f⟩ | ⟨ts, n, hf, f⟩
      · exact .inl ⟨k, hb, fun d H' s' hd => suite H' k d hd (fun H'' s'' => f H'' (s'.trans s'')) (.str x)⟩
      · exact .inr ⟨ts, n, hf, f⟩
end
end Bk

set_option Elab.async false
set_option linter.all false
set_option maxRecDepth 100000
set_option maxHeartbeats 4000000
namespace Bk
open PySem PySem.Spec PyProof.Rows L2 TL
/-- the walk that needs no fact -/
local macro_rules | `(tactic| walk_at "go1") => `(tactic| with_reducible first
  | refine r_seq ?_ | refine r_set ?_ | refine r_ret ?_ | refine r_drop ?_ | refine r_ifS ?_ | refine r_next ?_ | refine r_asg ?_ | refine r_gSub ?_
  | refine r_var rfl ?_ | refine r_c ?_ | refine r_op ?_ | refine r_un ?_ | refine r_I0 ?_ | refine r_U ?_ | refine r_cons ?_ | refine r_nil ?_ | refine r_CB ?_ | refine r_call ?_
  | refine r_test ?_ | refine r_B ?_ | refine r_not ?_ | refine r_and ?_ | refine r_or ?_ | refine r_andV ?_ | refine r_orV ?_ | refine r_notV ?_ | refine r_if ?_ | refine r_exb ?_ | refine r_exc ?_
  | refine brTT ?_ | refine brFF ?_ | refine brNTT ?_ | refine brNFF ?_ | refine r_chain ?_ | refine r_sl ?_ | refine r_nopart ?_ | refine r_part ?_ | refine r_exi ?_ | refine r_gn ?_ | refine r_make ?_ | refine r_zipS ?_ | refine r_enum ?_ | refine r_rng1 ?_ | refine r_js ?_ | refine r_jn ?_ | refine r_fmt ?_ | refine r_bm ?_ | refine r_isS ?_ | refine r_sfld ?_ | refine r_m0 ?_ | refine r_m1 ?_
  | refine r_lst ?_ | refine r_tup ?_ | refine r_fld ?_ | refine r_int ?_ | refine r_intB ?_ | refine r_abs ?_)
local macro_rules | `(tactic| walk_at "go") => `(tactic| repeat walk_at "go1")
local macro_rules | `(tactic| walk_at "cond") => `(tactic| first
  | (show (0 : Int) < _; first | omega | assumption)
  | exact cdiv (by first | omega | assumption) (by first | omega | assumption)
  | exact cmulL (by omega) (by omega)
  | exact cmulR (by omega) (by omega))
local macro_rules | `(tactic| walk_at "hp") => `(tactic| first | assumption | exact upd_same)
local macro_rules | `(tactic| walk_at "ixL") => `(tactic| ((with_reducible refine' r_ixL (SqL.of ?h) ?a ?_); (case h => walk_at "hp"); (case a => rfl)))
local macro_rules | `(tactic| walk_at "setL") => `(tactic| ((with_reducible refine' r_setL ?h ?a ?_); (case h => walk_at "hp"); (case a => rfl)))
local macro_rules | `(tactic| walk_at "rI") => `(tactic| ((with_reducible refine r_I ?c ?_); (case c => walk_at "cond")))
local macro_rules | `(tactic| walk_at "eqs") => `(tactic| first | (with_reducible first | refine r_eqI ?_ | refine r_neI ?_ | refine r_eqS ?_ | refine r_neS ?_) | ((with_reducible first | refine r_eq ?c ?_ | refine r_ne ?c ?_); (case c => rfl)))
local macro_rules | `(tactic| walk_at "st1") => `(tactic| first
  | walk_at "go1"
  | walk_at "rI" | walk_at "ixL" | walk_at "setL" | walk_at "eqs")
local macro_rules | `(tactic| walk_at "st") => `(tactic| repeat walk_at "st1")
/-! ### the law's draws -/
/-- three ints stand at b -/
def Box (H : Hp) (b : Addr) : Prop := ∃ x y z : Int, H b = some (.lst [.int x, .int y, .int z])
section
variable {P : Program} {w : World} {K : PySem.W.Frag} {mg : Str → Option Value} {base : Heap} {a : Ad}
def sp_box (K : PySem.W.Frag) : Sp := fun vs H Q _ => ∃ (p : Addr) (ns : List Int) (k : Nat), vs = [.ref p, .int k] ∧ SqL K H p (ns.map V.int) ∧ ns.length ≤ 63 ∧ k ≤ 100 ∧ ∀ b H', Same H H' → Box H' b → H b = none → Q (.ref b) H'
theorem ok_law_box (T : Txt K mg a) : FnOk P w K mg base CX0 1 a.f_law_box a.d_law_box P_law_box (sp_box K) := by
  refine T.F_law_box.ok sc_law_box (fun vs H Q E h => ?_) (fun cdv A outer s H vs Q E hr h => ?_)
  · obtain ⟨p, ns, k, rfl, _⟩ := h
    rfl
  · obtain ⟨p, ns, k, rfl, hq, hl, hk, q⟩ := h
    refine ⟨_, (pss_cons (ps_set (i := 2) sc_law_box.nd rfl (Or.inl rfl) (pe_op op_add (pe_op op_mul pe_int (pv 1)) pe_int))
    (pss_cons (ps_if (pt_cmpR op_lt (pv 1) (pe_callB (c_lenK (K := K)) (by rfl) T.len (by decide +kernel) (pa_cons (pv 0) pa_nil)) (nomark _))
      (pss_one (ps_set (i := 2) sc_law_box.nd rfl (Or.inl rfl) (pe_callB c_abs (by rfl) T.abs (by decide +kernel) (pa_cons (pe_ix (ix_listK (K := K)) (pv 0) (pv 1) (fun _ _ => rfl)) pa_nil))))
      (pss_one (ps_if (pt_cmpR op_gt (pe_callB (c_lenK (K := K)) (by rfl) T.len (by decide +kernel) (pa_cons (pv 0) pa_nil)) pe_int (nomark _))
        (pss_one (ps_set (i := 2) sc_law_box.nd rfl (Or.inl rfl) (pe_op op_add (pv 2) (pe_op op_mul (pe_op op_mod (pe_callTy c_int (by rfl) T.int (by decide +kernel) (pa_cons (pe_callB c_abs (by rfl) T.abs (by decide +kernel) (pa_cons (pe_ix (ix_listK (K := K)) (pv 0) (pe_op op_mod (pe_callTy c_int (by rfl) T.int (by decide +kernel) (pa_cons (pv 1) pa_nil)) (pe_callB (c_lenK (K := K)) (by rfl) T.len (by decide +kernel) (pa_cons (pv 0) pa_nil))) (fun _ _ => rfl)) pa_nil)) pa_nil)) pe_int) pe_int))))
        pss_nil)))
    (pss_one (ps_ret (pe_lst (pa_cons (pe_ix (ix_listK (K := K)) (pe_lst (pa_cons pe_int (pa_cons (pv 2) pa_nil))) (pe_callTy c_int (by rfl) T.int (by decide +kernel) (pa_cons (pe_cmpR op_ge (pv 2) (pe_op op_pow pe_int pe_int) (nomark _)) pa_nil)) (fun _ _ => rfl)) (pa_cons (pe_op op_add (pe_op op_mod (pe_callTy c_int (by rfl) T.int (by decide +kernel) (pa_cons (pe_op op_add (pe_op op_mul (pe_op op_mod (pe_callTy c_int (by rfl) T.int (by decide +kernel) (pa_cons (pv 2) pa_nil)) pe_int) pe_int) (pe_op op_mul pe_int (pv 1))) pa_nil)) pe_int) pe_int) (pa_cons pe_int pa_nil)))))))), ?_⟩
    walk_at "st"
    refine r_lenL hq ?_
    walk_at "st"
    have at_ : ∀ i : Nat, i < ns.length → ∃ z : Int, atI (ns.map V.int) (i : Int) = some (.int z) := fun i hi => by
      refine ⟨ns[i], atI_nat ?_⟩
      rw [List.getElem?_map, List.getElem?_eq_getElem hi]
      rfl
    have fin : ∀ (c : Int), [V.int 0, V.int c].length ≤ sizeLine ∧ ∀ (p_1 : Addr), H p_1 = none →
        tCB cInt (tCons (tOp (rI0 fun i j => V.bl (decide (j ≤ i))) (tVar 2) (tOp (rI CPow fun i j => V.int (i ^ j.toNat)) (tC (V.int 10)) (tC (V.int 18)))) tNil)
          ((List.set (L2.start N_law_box [V.ref p, V.int (k : Nat)]) 2 (some (V.int (5227 * (k : Nat) + 631)))).set 2 (some (V.int c)))
          (upd H p_1 (HO.lst [V.int 0, V.int c])) fun y H2 =>
          rIxL K (V.ref p_1) y H2 fun x H1 =>
            tCons
              (tOp (rI0 fun i j => V.int (i + j))
                (tOp (rI (fun x j => 0 < j) fun i j => V.int (i % j))
                  (tCB cInt (tCons (tOp (rI0 fun i j => V.int (i + j))
                        (tOp (rI CMul fun i j => V.int (i * j)) (tOp (rI (fun x j => 0 < j) fun i j => V.int (i % j)) (tCB cInt (tCons (tVar 2) tNil)) (tC (V.int 2147483543))) (tC (V.int 38699)))
                        (tOp (rI CMul fun i j => V.int (i * j)) (tC (V.int 24029)) (tVar 1))) tNil))
                  (tC (V.int 2147483543)))
                (tC (V.int 1)))
              (tCons (tC (V.int 0)) tNil)
              ((List.set (L2.start N_law_box [V.ref p, V.int (k : Nat)]) 2 (some (V.int (5227 * (k : Nat) + 631)))).set 2 (some (V.int c)))
              H1 fun xs H2 =>
              (x :: xs).length ≤ sizeLine ∧ ∀ (p : Addr), H2 p = none → Q (V.ref p) (upd H2 p (HO.lst (x :: xs))) := by
      intro c
      refine ⟨by show 2 ≤ sizeLine; decide, fun l0 hl0 => ?_⟩
      walk_at "st"
      refine r_I (show CPow 10 18 from ⟨by decide, by decide, by decide⟩) ?_
      walk_at "st"
      obtain ⟨v, hv⟩ : ∃ v : Int, atI [V.int 0, V.int c] (if decide ((10 : Int) ^ (18 : Int).toNat ≤ c) = true then 1 else 0) = some (.int v) := by
        by_cases h : decide ((10 : Int) ^ (18 : Int).toNat ≤ c) = true
        · rw [if_pos h]; exact ⟨c, atI_nat (j := 1) rfl⟩
        · rw [if_neg h]; exact ⟨0, atI_nat (j := 0) rfl⟩
      refine r_ixL (SqL.of upd_same) hv ?_
      walk_at "st"
      have s1 : Same H (upd H l0 (.lst [.int 0, .int c])) := Same.mk hl0
      refine ⟨by show 3 ≤ sizeLine; decide, fun b hb => ?_⟩
      exact q b _ (Same.put s1 (Same.free s1 hb)) ⟨_, _, _, upd_same⟩ (Same.free s1 hb)
    refine brD (fun e => ?_) (fun e => ?_)
    · rw [List.length_map] at e
      obtain ⟨z, hz⟩ := at_ k (by omega)
      walk_at "st"
      refine r_ixL hq hz ?_
      walk_at "st"
      exact fin _
    · walk_at "st"
      refine r_lenL hq ?_
      walk_at "st"
      refine brD (fun e2 => ?_) (fun e2 => ?_)
      · walk_at "st"
        refine r_lenL hq ?_
        walk_at "st"
        rw [List.length_map] at e2 ⊢
        have hm0 : 0 ≤ (k : Int) % (ns.length : Nat) := Int.emod_nonneg _ (by omega)
        have hm1 : (k : Int) % (ns.length : Nat) < (ns.length : Nat) := Int.emod_lt_of_pos _ (by omega)
        obtain ⟨z, hz⟩ := at_ ((k : Int) % (ns.length : Nat)).toNat (by omega)
        have e3 : ((((k : Int) % (ns.length : Nat)).toNat : Nat) : Int) = (k : Int) % (ns.length : Nat) := by omega
        rw [e3] at hz
        clear hm0 hm1 e3 at_
        refine r_ixL hq hz ?_
        walk_at "st"
        exact fin _
      · walk_at "st"
        have f := fin (5227 * (k : Nat) + 631)
        rw [List.set_set] at f
        exact f
def sp_take : Sp := fun vs H Q _ => ∃ (b : Addr) (m : Int), vs = [.ref b, .int m] ∧ Box H b ∧ 0 < m ∧ m < 1000000 ∧ ∀ (r x y z : Int), 0 ≤ r → r < m → Q (.int r) (upd H b (.lst [.int x, .int y, .int z]))
theorem ok_law_take (T : Txt K mg a) : FnOk P w K mg base CX0 1 a.f_law_take a.d_law_take P_law_take sp_take := by
  refine T.F_law_take.ok sc_law_take (fun vs H Q E h => ?_) (fun cdv A outer s H vs Q E hr h => ?_)
  · obtain ⟨b, m, rfl, _⟩ := h
    rfl
  · obtain ⟨b, m, rfl, ⟨x, y, z, hb⟩, h0, h1, q⟩ := h
    refine ⟨_, (pss_cons (ps_if (pt_cmpR op_gt (pe_ix (ix_listK (K := K)) (pv 0) pe_int (fun _ _ => rfl)) pe_int (nomark _))
      (pss_cons (ps_set (i := 2) sc_law_take.nd rfl (Or.inl rfl) (pe_op op_mod (pe_callTy c_int (by rfl) T.int (by decide +kernel) (pa_cons (pe_ix (ix_listK (K := K)) (pv 0) pe_int (fun _ _ => rfl)) pa_nil)) (pv 1)))
      (pss_cons (ps_asg (pe_op op_fdiv (pe_ix (ix_listK (K := K)) (pv 0) pe_int (fun _ _ => rfl)) (pv 1)) (pg_sub (pv 0) pe_int set_list))
      (pss_one (ps_ret (pv 2)))))
      pss_nil)
    (pss_cons (ps_asg (pe_op op_add (pe_ix (ix_listK (K := K)) (pv 0) pe_int (fun _ _ => rfl)) pe_int) (pg_sub (pv 0) pe_int set_list))
    (pss_cons (ps_set (i := 3) sc_law_take.nd rfl (Or.inl rfl) (pe_op op_mod (pe_callTy c_int (by rfl) T.int (by decide +kernel) (pa_cons (pe_op op_add (pe_op op_mul (pe_op op_add (pe_ix (ix_listK (K := K)) (pv 0) pe_int (fun _ _ => rfl)) (pe_op op_mul pe_int (pe_ix (ix_listK (K := K)) (pv 0) pe_int (fun _ _ => rfl)))) pe_int) pe_int) pa_nil)) pe_int))
    (pss_cons (ps_asg (pe_op op_add (pe_op op_mod (pe_callTy c_int (by rfl) T.int (by decide +kernel) (pa_cons (pe_op op_add (pe_op op_mul (pv 3) pe_int) pe_int) pa_nil)) pe_int) pe_int) (pg_sub (pv 0) pe_int set_list))
    (pss_one (ps_ret (pe_op op_mod (pe_callTy c_int (by rfl) T.int (by decide +kernel) (pa_cons (pe_op op_fdiv (pe_op op_add (pe_op op_mul (pv 3) pe_int) (pe_ix (ix_listK (K := K)) (pv 0) pe_int (fun _ _ => rfl))) pe_int) pa_nil)) (pv 1)))))))), ?_⟩
    walk_at "st"
    refine brD (fun e => ?_) (fun e => ?_)
    · walk_at "st"
      exact q (x % m) (x / m) y z (Int.emod_nonneg _ (by omega)) (Int.emod_lt_of_pos _ h0)
    · walk_at "st"
      rw [upd2]
      exact q _ _ _ _ (Int.emod_nonneg _ (by omega)) (Int.emod_lt_of_pos _ h0)
/-- one of a list -/
def sp_pick (K : PySem.W.Frag) : Sp := fun vs H Q _ => ∃ (b p : Addr) (xs : List V), vs = [.ref b, .ref p] ∧ Box H b ∧ SqL K H p xs ∧ p ≠ b ∧ 0 < xs.length ∧ xs.length < 1000 ∧ (∀ H', Keep (· = b) H H' → SqL K H' p xs) ∧
  ∀ (v : V) (x y z : Int), v ∈ xs → Q v (upd H b (.lst [.int x, .int y, .int z]))
theorem ok_law_pick (T : Txt K mg a) : FnOk P w K mg base CX0 2 a.f_law_pick a.d_law_pick P_law_pick (sp_pick K) := by
  refine T.F_law_pick.ok sc_law_pick (fun vs H Q E h => ?_) (fun cdv A outer s H vs Q E hr h => ?_)
  · obtain ⟨b, p, xs, rfl, _⟩ := h
    rfl
  · obtain ⟨b, p, xs, rfl, hb, hp, hne, hl0, hl1, hk, q⟩ := h
    refine ⟨_, (pss_one (ps_ret (pe_ix (ix_listK (K := K)) (pv 1) (pe_call (ok_law_take T) (hr.mono (by decide)) (by rfl) T.mg_law_take T.F_law_take.kp T.b_law_take .nil pass0 (pa_cons (pv 0) (pa_cons (pe_callB (c_lenK (K := K)) (by rfl) T.len (by decide +kernel) (pa_cons (pv 1) pa_nil)) pa_nil))) (fun _ _ => rfl)))), ?_⟩
    walk_at "st"
    refine r_lenL hp ?_
    walk_at "st"
    refine ⟨b, _, rfl, hb, by omega, by omega, fun r x y z h0 h1 => ?_⟩
    have hr : r.toNat < xs.length := by omega
    have er : r = ((r.toNat : Nat) : Int) := by omega
    rw [er]
    refine r_ixL (v := xs[r.toNat]) (hk _ (Keep.at Keep.refl)) (atI_nat (List.getElem?_eq_getElem hr)) ?_
    exact q _ x y z (List.getElem_mem hr)
end
end Bk

set_option Elab.async false
set_option linter.all false
set_option maxRecDepth 100000
set_option maxHeartbeats 8000000
namespace Bk
open PySem PySem.Spec PyProof.Rows L2 TL
/-- the walk that needs no fact -/
local macro_rules | `(tactic| walk_at "go1") => `(tactic| with_reducible first
  | refine r_seq ?_ | refine r_set ?_ | refine r_ret ?_ | refine r_drop ?_ | refine r_ifS ?_ | refine r_next ?_ | refine r_asg ?_ | refine r_gSub ?_
  | refine r_var rfl ?_ | refine r_c ?_ | refine r_op ?_ | refine r_un ?_ | refine r_I0 ?_ | refine r_U ?_ | refine r_cons ?_ | refine r_nil ?_ | refine r_CB ?_ | refine r_call ?_
  | refine r_test ?_ | refine r_B ?_ | refine r_not ?_ | refine r_and ?_ | refine r_or ?_ | refine r_andV ?_ | refine r_orV ?_ | refine r_notV ?_ | refine r_if ?_ | refine r_exb ?_ | refine r_exc ?_
  | refine brTT ?_ | refine brFF ?_ | refine brNTT ?_ | refine brNFF ?_ | refine r_chain ?_ | refine r_sl ?_ | refine r_nopart ?_ | refine r_part ?_ | refine r_exi ?_ | refine r_gn ?_ | refine r_make ?_ | refine r_zipS ?_ | refine r_enum ?_ | refine r_rng1 ?_ | refine r_js ?_ | refine r_jn ?_ | refine r_fmt ?_ | refine r_bm ?_ | refine r_isS ?_ | refine r_sfld ?_ | refine r_m0 ?_ | refine r_m1 ?_
  | refine r_lst ?_ | refine r_tup ?_ | refine r_fld ?_ | refine r_int ?_ | refine r_intB ?_ | refine r_abs ?_)
local macro_rules | `(tactic| walk_at "go") => `(tactic| repeat walk_at "go1")
local macro_rules | `(tactic| walk_at "cond") => `(tactic| first
  | (show (0 : Int) < _; first | omega | assumption)
  | exact cdiv (by first | omega | assumption) (by first | omega | assumption)
  | exact cmulL (by omega) (by omega)
  | exact cmulR (by omega) (by omega))
local macro_rules | `(tactic| walk_at "hp") => `(tactic| first | assumption | exact upd_same)
local macro_rules | `(tactic| walk_at "ixL") => `(tactic| ((with_reducible refine' r_ixL (SqL.of ?h) ?a ?_); (case h => walk_at "hp"); (case a => rfl)))
local macro_rules | `(tactic| walk_at "setL") => `(tactic| ((with_reducible refine' r_setL ?h ?a ?_); (case h => walk_at "hp"); (case a => rfl)))
local macro_rules | `(tactic| walk_at "rI") => `(tactic| ((with_reducible refine r_I ?c ?_); (case c => walk_at "cond")))
local macro_rules | `(tactic| walk_at "eqs") => `(tactic| first | (with_reducible first | refine r_eqI ?_ | refine r_neI ?_ | refine r_eqS ?_ | refine r_neS ?_) | ((with_reducible first | refine r_eq ?c ?_ | refine r_ne ?c ?_); (case c => rfl)))
local macro_rules | `(tactic| walk_at "st1") => `(tactic| first
  | walk_at "go1"
  | walk_at "rI" | walk_at "ixL" | walk_at "setL" | walk_at "eqs")
local macro_rules | `(tactic| walk_at "st") => `(tactic| repeat walk_at "st1")
theorem Box.mk {H : Hp} {b : Addr} {x y z : Int} : Box (upd H b (.lst [.int x, .int y, .int z])) b := ⟨x, y, z, upd_same⟩
theorem Box.some {H : Hp} {b : Addr} (h : Box H b) : H b ≠ none := by
  obtain ⟨x, y, z, e⟩ := h
  rw [e]; simp
theorem Box.keep {H H' : Hp} {b : Addr} (h : Box H b) (s : Same H H') : Box H' b := by
  obtain ⟨x, y, z, e⟩ := h
  exact ⟨x, y, z, s _ _ e⟩
theorem Box.put {H : Hp} {b D : Addr} {o : HO} (h : Box H b) (n : b ≠ D) : Box (upd H D o) b := by
  obtain ⟨x, y, z, e⟩ := h
  exact ⟨x, y, z, by rw [upd_ne n]; exact e⟩
section
variable {P : Program} {w : World} {K : PySem.W.Frag} {mg : Str → Option Value} {base : Heap} {a : Ad}
def sp_tables : Sp := fun vs H Q _ => ∃ (b : Addr) (most sg : Nat), vs = [.ref b, .int most, .int sg] ∧ Box H b ∧ 1 ≤ most ∧ most ≤ 60 ∧ 1 ≤ sg ∧ sg ≤ 5 ∧
  ∀ (p : Addr) (qs : List Addr) (ts : List (List Int)) (n : Nat) (H' : Hp), Keep (· = b) H H' → Box H' b → Tab H' p qs ts → Good ts n → ts.length = sg → n ≤ most → p ≠ b → b ∉ qs → Q (.ref p) H'
theorem ok_law_tables (T : Txt K mg a) : FnOk P w K mg base CX0 3 a.f_law_tables a.d_law_tables P_law_tables sp_tables := by
  refine T.F_law_tables.ok sc_law_tables (fun vs H Q E h => ?_) (fun cdv A outer s H vs Q E hr h => ?_)
  · obtain ⟨b, most, sg, rfl, _⟩ := h
    rfl
  · obtain ⟨b, most, sg, rfl, hb, m0, m1, g0, g1, q⟩ := h
    refine ⟨_, (pss_cons (ps_set (i := 3) sc_law_tables.nd rfl (Or.inr rfl) (pe_op op_add pe_int (pe_call (ok_law_take T) (hr.mono (by decide)) (by rfl) T.mg_law_take T.F_law_take.kp T.b_law_take .nil pass0 (pa_cons (pv 0) (pa_cons (pv 1) pa_nil)))))
    (pss_cons (ps_set (i := 4) sc_law_tables.nd rfl (Or.inl rfl) (pe_lst pa_nil))
    (pss_cons (ps_for PassesOwn.never rfl (pi_range1 (by rfl) T.range (pa_cons (pv 2) pa_nil)) (pg_name (i := 5) sc_law_tables.nd rfl (Or.inl rfl))
      (pss_cons (ps_set (i := 6) sc_law_tables.nd rfl (Or.inl rfl) (pe_call (ok_law_pick T) (hr.mono (by decide)) (by rfl) T.mg_law_pick T.F_law_pick.kp T.b_law_pick .nil pass0 (pa_cons (pv 0) (pa_cons (pe_lst (pa_cons pe_int (pa_cons pe_int (pa_cons pe_int (pa_cons pe_int (pa_cons pe_int pa_nil)))))) pa_nil))))
      (pss_one (ps_if (pt_cmpR op_eq (pv 6) pe_int (nomark _))
        (pss_one (ps_expr (pe_bm PySem.F.plainAttrs_list PySem.F.slot_list_append PySem.F.type_list_append mt_append (pv 4) (pa_cons (pe_lc (own := [("_law_state", 8)]) (g := gName 8) (tt := tYes) rfl sc_law_tables.nd (pi_range1 (by rfl) T.range (pa_cons (pv 3) pa_nil)) (blkOk_by (own := [("_law_state", 8)]) (N := N_law_tables) (sc := defScope s_law_tables) (by decide +kernel)) (fun _ _ _ _ _ => (pg_name (i := 8) sc_law_tables.nd rfl (Or.inl rfl))) (fun _ _ _ _ _ => pts_nil) (fun _ _ _ _ _ => (pe_call (ok_law_take T) (hr.mono (by decide)) (by rfl) T.mg_law_take T.F_law_take.kp T.b_law_take .nil pass0 (pa_cons (pv 0) (pa_cons (pv 3) pa_nil))))) pa_nil))))
        (pss_one (ps_if (pt_cmpR op_eq (pv 6) pe_int (nomark _))
          (pss_one (ps_expr (pe_bm PySem.F.plainAttrs_list PySem.F.slot_list_append PySem.F.type_list_append mt_append (pv 4) (pa_cons (pe_lc (own := [("_law_state", 8)]) (g := gName 8) (tt := tYes) rfl sc_law_tables.nd (pi_range1 (by rfl) T.range (pa_cons (pv 3) pa_nil)) (blkOk_by (own := [("_law_state", 8)]) (N := N_law_tables) (sc := defScope s_law_tables) (by decide +kernel)) (fun _ _ _ _ _ => (pg_name (i := 8) sc_law_tables.nd rfl (Or.inl rfl))) (fun _ _ _ _ _ => pts_nil) (fun _ _ _ _ _ => (pe_ifExp (pt_cmpR op_eq (pe_call (ok_law_take T) (hr.mono (by decide)) (by rfl) T.mg_law_take T.F_law_take.kp T.b_law_take .nil pass0 (pa_cons (pv 0) (pa_cons pe_int pa_nil))) pe_int (nomark _)) (pv 8) (pe_call (ok_law_take T) (hr.mono (by decide)) (by rfl) T.mg_law_take T.F_law_take.kp T.b_law_take .nil pass0 (pa_cons (pv 0) (pa_cons (pv 3) pa_nil)))))) pa_nil))))
          (pss_cons (ps_set (i := 7) sc_law_tables.nd rfl (Or.inr rfl) (pe_call (ok_law_take T) (hr.mono (by decide)) (by rfl) T.mg_law_take T.F_law_take.kp T.b_law_take .nil pass0 (pa_cons (pv 0) (pa_cons (pv 3) pa_nil))))
          (pss_one (ps_expr (pe_bm PySem.F.plainAttrs_list PySem.F.slot_list_append PySem.F.type_list_append mt_append (pv 4) (pa_cons (pe_lc (own := [("_law_state", 8)]) (g := gName 8) (tt := tYes) rfl sc_law_tables.nd (pi_range1 (by rfl) T.range (pa_cons (pv 3) pa_nil)) (blkOk_by (own := [("_law_state", 8)]) (N := N_law_tables) (sc := defScope s_law_tables) (by decide +kernel)) (fun _ _ _ _ _ => (pg_name (i := 8) sc_law_tables.nd rfl (Or.inl rfl))) (fun _ _ _ _ _ => pts_nil) (fun _ _ _ _ _ => (pe_op op_mod (pe_callTy c_int (by rfl) T.int (by decide +kernel) (pa_cons (pe_op op_add (pv 8) (pv 7)) pa_nil)) (pv 3)))) pa_nil)))))))))))
    (pss_one (ps_ret (pv 4)))))), ?_⟩
    walk_at "st"
    refine ⟨b, most, rfl, hb, by omega, by omega, fun r x y z r0 r1 => ?_⟩
    walk_at "st"
    have eN : ((1 : Int) + r) = ((r.toNat + 1 : Nat) : Int) := by omega
    rw [eN]
    generalize hN : r.toNat + 1 = n
    have n0 : 1 ≤ n := by omega
    have n1 : n ≤ most := by omega
    have k0 : Keep (· = b) H (upd H b (.lst [.int x, .int y, .int z])) := Keep.at Keep.refl
    refine ⟨by show 0 ≤ sizeLine; exact Nat.zero_le _, fun F hF => ?_⟩
    have hFb : b ≠ F := ne_of_none upd_same hF
    have hHF : H F = none := by
      rw [upd_ne (Ne.symm hFb)] at hF
      exact hF
    walk_at "st"
    refine r_for ?_
    walk_at "st"
    refine ⟨(sg : Nat), rfl, by omega, by omega, ?_⟩
    rw [Int.toNat_natCast]
    refine for_range (lo := 0) (n := sg) (fun i σ H' => (∃ v5 v6 v7, σ = [some (.ref b), some (.int (most : Nat)), some (.int (sg : Nat)), some (.int (n : Nat)), some (.ref F), v5, v6, v7, none]) ∧ Keep (· = b) H H' ∧ Box H' b ∧
        ∃ (qs : List Addr) (ts : List (List Int)), H' F = some (.lst (qs.map V.ref)) ∧ qs.length = i ∧ ts.length = i ∧ (∀ (j : Nat) q t, qs[j]? = some q → ts[j]? = some t → H' q = some (.lst (t.map V.int))) ∧ (∀ t ∈ ts, t.length = n ∧ ∀ x ∈ t, 0 ≤ x ∧ x < n) ∧ b ∉ qs ∧ F ∉ qs)
      ⟨⟨_, _, _, rfl⟩, Keep.put k0 hHF, Box.put Box.mk hFb, [], [], upd_same, rfl, rfl, fun j q t z => by simp at z, fun t z => by simp at z, by simp, by simp⟩ ?_ ?_
    · rintro i σ H' hi ⟨⟨v5, v6, v7, rfl⟩, t1, t2, qs, ts, t3, t4, t5, t6, t7, t8, t9⟩
      -- a new row, from a comprehension that draws at b, at the list's end
      have stp : ∀ (D : Addr) (t : List Int) (H'' : Hp) v6' v7', H' D = none → Keep (· = b) H' H'' → Box H'' b → H'' D = some (.lst (t.map V.int)) → t.length = n → (∀ x ∈ t, 0 ≤ x ∧ x < n) →
          (∃ v5 v6 v7, [some (V.ref b), some (.int (most : Nat)), some (.int (sg : Nat)), some (.int (n : Nat)), some (.ref F), some (.int (i : Nat)), v6', v7', none] = [some (V.ref b), some (.int (most : Nat)), some (.int (sg : Nat)), some (.int (n : Nat)), some (.ref F), v5, v6, v7, none]) ∧
          Keep (· = b) H (upd H'' F (.lst (qs.map V.ref ++ [.ref D]))) ∧ Box (upd H'' F (.lst (qs.map V.ref ++ [.ref D]))) b ∧
        ∃ (qs' : List Addr) (ts : List (List Int)), (upd H'' F (.lst (qs.map V.ref ++ [.ref D]))) F = some (.lst (qs'.map V.ref)) ∧ qs'.length = i + 1 ∧ ts.length = i + 1 ∧ (∀ (j : Nat) q t, qs'[j]? = some q → ts[j]? = some t → (upd H'' F (.lst (qs.map V.ref ++ [.ref D]))) q = some (.lst (t.map V.int))) ∧ (∀ t ∈ ts, t.length = n ∧ ∀ x ∈ t, 0 ≤ x ∧ x < n) ∧ b ∉ qs' ∧ F ∉ qs' := by
        intro D t H'' v6' v7' hD k2 b2 hD2 tl tx
        have hDF : D ≠ F := fun z => by rw [z, t3] at hD; cases hD
        have hDb : D ≠ b := fun z => by
          obtain ⟨_, _, _, e⟩ := t2
          rw [z, e] at hD; cases hD
        refine ⟨⟨_, _, _, rfl⟩, fun c o nc e => ?_, Box.put b2 hFb, qs ++ [D], ts ++ [t], by rw [upd_same, List.map_append]; rfl, by simp [t4], by simp [t5], fun j q u h1 h2 => ?_, fun u hu => ?_, fun z => ?_, fun z => ?_⟩
        · rw [upd_ne (ne_of_none e hHF)]
          exact k2 c o nc (t1 c o nc e)
        · by_cases hj : j < i
          · rw [List.getElem?_append_left (by omega)] at h1 h2
            have hq : q ∈ qs := List.mem_of_getElem? h1
            rw [upd_ne (show q ≠ F from fun z => t9 (by rw [← z]; exact hq))]
            exact k2 q _ (fun z => t8 (by rw [← z]; exact hq)) (t6 j q u h1 h2)
          · have hj' : j = i := by
              have h4 := (List.getElem?_eq_some_iff.mp h1).1
              rw [List.length_append] at h4
              have h5 : [D].length = 1 := rfl
              omega
            rw [hj', List.getElem?_append_right (by omega), t4, Nat.sub_self] at h1
            rw [hj', List.getElem?_append_right (by omega), t5, Nat.sub_self] at h2
            rw [← Option.some.inj h1, ← Option.some.inj h2, upd_ne hDF]
            exact hD2
        · rcases List.mem_append.mp hu with z | z
          · exact t7 u z
          · rw [List.mem_singleton.mp z]; exact ⟨tl, tx⟩
        · rcases List.mem_append.mp z with z | z
          · exact t8 z
          · exact hDb (List.mem_singleton.mp z).symm
        · rcases List.mem_append.mp z with z | z
          · exact t9 z
          · exact hDF (List.mem_singleton.mp z).symm
      have e0 : (0 : Int) + (i : Nat) = (i : Nat) := Int.zero_add _
      rw [e0]
      walk_at "st"
      refine ⟨by show 5 ≤ sizeLine; decide, fun l hl => ?_⟩
      have hlb : l ≠ b := fun z => t2.some (by rw [← z]; exact hl)
      have kl : Keep (· = b) H' (upd H' l (.lst [.int 0, .int 0, .int 1, .int 1, .int 2])) := Keep.put Keep.refl hl
      walk_at "st"
      refine ⟨b, l, [.int 0, .int 0, .int 1, .int 1, .int 2], rfl, Box.put t2 (Ne.symm hlb), SqL.of upd_same, hlb, by decide, by decide, fun H'' k => SqL.of (k _ _ hlb upd_same), fun v x y z hv => ?_⟩
      have k1 : Keep (· = b) H' (upd (upd H' l (.lst [.int 0, .int 0, .int 1, .int 1, .int 2])) b (.lst [.int x, .int y, .int z])) := Keep.at kl
      have b1 : Box (upd (upd H' l (.lst [.int 0, .int 0, .int 1, .int 1, .int 2])) b (.lst [.int x, .int y, .int z])) b := Box.mk
      generalize (upd (upd H' l (.lst [.int 0, .int 0, .int 1, .int 1, .int 2])) b (.lst [.int x, .int y, .int z])) = H1 at k1 b1
      -- a comprehension over range(n) of draws
      have comp : ∀ (te : TE) (σ0 : L2.St) (H1 : Hp), Keep (· = b) H' H1 → Box H1 b → σ0[3]? = some (some (.int (n : Nat))) →
          (∀ (j : Nat) (H2 : Hp) (Q' : VK), j < n → Box H2 b → (∀ (r : Int) H4, 0 ≤ r → r < n → Box H4 b → Keep (· = b) H2 H4 → Q' (.int r) H4) → te ((σ0.set 8 none).set 8 (some (.int (j : Nat)))) H2 Q') →
          ∀ Q' : VK, (∀ (D : Addr) (t : List Int) (H2 : Hp), H' D = none → Keep (· = b) H' H2 → Box H2 b → H2 D = some (.lst (t.map V.int)) → t.length = n → (∀ x ∈ t, 0 ≤ x ∧ x < n) → Q' (.ref D) H2) →
          tLc (iRng1 (tCons (tVar 3) tNil)) (gName 8) tYes te [8] σ0 H1 Q' := by
        intro te σ0 H1 k1 b1 hσ hte Q' q'
        refine r_lcR (S := fun c => c = b) (n := n) (fun D i acc H2 => Keep (· = b) H1 H2 ∧ Box H2 b ∧ ∃ t : List Int, acc = t.map V.int ∧ t.length = i ∧ ∀ x ∈ t, 0 ≤ x ∧ x < (n : Int)) (fun c e => by rw [e]; exact b1.some) (by omega)
          (fun D i acc H2 o hD ⟨e1, e2, t, e3, e4, e5⟩ => ⟨Keep.put e1 hD, Box.put e2 (fun z => b1.some (by rw [z]; exact hD)), t, e3, e4, e5⟩) (fun _ _ => ⟨Keep.refl, b1, [], rfl, rfl, fun x z => by simp at z⟩) ?_ ?_ (fun R q => ⟨_, hσ, q⟩)
        · intro D j acc H2 hj hD hD' ⟨e1, e2, t, e3, e4, e5⟩ Q2 q2
          refine hte j H2 Q2 hj e2 fun r H4 r0 r1 b4 k4 => q2 _ _ ⟨Keep.trans e1 k4, b4, t ++ [r], by rw [e3, List.map_append]; rfl, by simp [e4], fun u hu => ?_⟩ k4
          rcases List.mem_append.mp hu with z | z
          · exact e5 u z
          · rw [List.mem_singleton.mp z]; exact ⟨r0, r1⟩
        · intro D acc H2 hD ⟨e1, e2, t, e3, e4, e5⟩ hD' _
          obtain ⟨x', y', z', hb'⟩ := t2
          exact q' D t H2 (Keep.free k1 hb' hD b1.some) (Keep.trans k1 e1) e2 (by rw [hD', e3]) e4 e5
      have tk : ∀ (j : Nat) (v6' v7' : Option V) (H2 : Hp) (Q' : VK), Box H2 b → (∀ (r : Int) H4, 0 ≤ r → r < n → Box H4 b → Keep (· = b) H2 H4 → Q' (.int r) H4) →
          sp_take ([.ref b, .int (n : Nat)] ++ []) H2 Q' E0 := fun j v6' v7' H2 Q' b2 q' => ⟨b, n, rfl, b2, by omega, by omega, fun r x y z r0 r1 => q' r _ r0 r1 Box.mk (Keep.at Keep.refl)⟩
      rcases (by simpa using hv : v = .int 0 ∨ v = .int 1 ∨ v = .int 2) with rfl | rfl | rfl
      · walk_at "st"
        refine brT (by decide) ?_
        walk_at "st"
        refine r_tyL (k1 _ _ (Ne.symm hFb) t3) ?_
        walk_at "st"
        refine comp _ _ H1 k1 b1 rfl (fun j H2 Q' hj b2 q' => ?_) _ fun D t H2 hD k2 b2 hD2 tl tx => ?_
        · walk_at "st"
          exact tk j none none H2 Q' b2 q'
        · walk_at "st"
          refine r_app (k2 _ _ (Ne.symm hFb) t3) (by rw [List.length_map]; omega) ?_
          exact stp D t H2 _ _ hD k2 b2 hD2 tl tx
      · walk_at "st"
        refine brF (by decide) ?_
        walk_at "st"
        refine brT (by decide) ?_
        walk_at "st"
        refine r_tyL (k1 _ _ (Ne.symm hFb) t3) ?_
        walk_at "st"
        refine comp _ _ H1 k1 b1 rfl (fun j H2 Q' hj b2 q' => ?_) _ fun D t H2 hD k2 b2 hD2 tl tx => ?_
        · walk_at "st"
          refine ⟨b, 2, rfl, b2, by omega, by omega, fun r x y z r0 r1 => ?_⟩
          walk_at "st"
          refine brD (fun e => ?_) (fun e => ?_)
          · walk_at "st"
            exact q' _ _ (by omega) (by omega) Box.mk (Keep.at Keep.refl)
          · walk_at "st"
            exact tk j none none _ Q' Box.mk (fun r H4 r0 r1 b4 k4 => q' r H4 r0 r1 b4 (Keep.trans (Keep.at Keep.refl) k4))
        · walk_at "st"
          refine r_app (k2 _ _ (Ne.symm hFb) t3) (by rw [List.length_map]; omega) ?_
          exact stp D t H2 _ _ hD k2 b2 hD2 tl tx
      · walk_at "st"
        refine brF (by decide) ?_
        walk_at "st"
        refine brF (by decide) ?_
        walk_at "st"
        refine ⟨b, n, rfl, b1, by omega, by omega, fun r x y z r0 r1 => ?_⟩
        walk_at "st"
        refine r_tyL (Keep.at k1 _ _ (Ne.symm hFb) t3) ?_
        walk_at "st"
        refine comp _ _ _ (Keep.at k1) Box.mk rfl (fun j H2 Q' hj b2 q' => ?_) _ fun D t H2 hD k2 b2 hD2 tl tx => ?_
        · walk_at "st"
          exact q' _ _ (Int.emod_nonneg _ (by omega)) (Int.emod_lt_of_pos _ (by omega)) b2 Keep.refl
        · walk_at "st"
          refine r_app (k2 _ _ (Ne.symm hFb) t3) (by rw [List.length_map]; omega) ?_
          exact stp D t H2 _ _ hD k2 b2 hD2 tl tx
    · rintro σ H' ⟨⟨v5, v6, v7, rfl⟩, t1, t2, qs, ts, t3, t4, t5, t6, t7, t8, t9⟩
      walk_at "st"
      refine q F qs ts n H' t1 t2 ⟨t3, by omega, t6⟩ ⟨by omega, by omega, n0, by omega, t7⟩ t5 n1 (Ne.symm hFb) t8
end
end Bk

set_option Elab.async false
set_option linter.all false
set_option maxRecDepth 100000
set_option maxHeartbeats 4000000
namespace Bk
open PySem PySem.Spec PyProof.Rows L2 TL
/-! ### texts cut and joined -/
theorem tl_inj {x y : Str} (h : tl x = tl y) : x = y := by rw [← mk_tl x, ← mk_tl y, h]
theorem wordsOf_join {ws : List Str} (hne : ws ≠ []) (h : ∀ w ∈ ws, 32 ∉ tl w) : wordsOf (Txt.join spc ws) = ws :=
  split_join (s := 32) (S := []) (by decide +kernel) spc_k hne h
theorem linesOf_join {ls : List Str} (hne : ls ≠ []) (h : ∀ l ∈ ls, 10 ∉ tl l) : Txt.split (Txt.join nlS ls) nlS = ls :=
  split_join (s := 10) (S := []) (by decide +kernel) nl_k hne h
theorem tl_joinS (sep : Str) (ws : List Str) : tl (Txt.join sep ws) = joinL (tl sep) (ws.map tl) := by rw [join_eq, tl_join]
theorem joinL_snoc (S p : List Nat) : ∀ ps : List (List Nat), ps ≠ [] → joinL S (ps ++ [p]) = joinL S ps ++ (S ++ p)
  | [], h => absurd rfl h
  | [q], _ => rfl
  | q :: q' :: r, _ => by
    have ih := joinL_snoc S p (q' :: r) (by simp)
    show q ++ (S ++ joinL S ((q' :: r) ++ [p])) = q ++ (S ++ joinL S (q' :: r)) ++ (S ++ p)
    rw [ih]
    simp
theorem join_snoc (sep : Str) {ws : List Str} (w : Str) (h : ws ≠ []) : Txt.join sep (ws ++ [w]) = Txt.join sep ws ++ (sep ++ w) := by
  refine tl_inj ?_
  rw [tl_joinS, List.map_append, tl_append, tl_append, tl_joinS]
  exact joinL_snoc _ _ _ (by simpa using h)
theorem joinL_mem (S : List Nat) (c : Nat) : ∀ ps : List (List Nat), c ∈ joinL S ps → c ∈ S ∨ ∃ p ∈ ps, c ∈ p
  | [], h => by simp [joinL] at h
  | [q], h => .inr ⟨q, List.mem_cons_self .., h⟩
  | q :: q' :: r, h => by
    have h' : c ∈ q ++ (S ++ joinL S (q' :: r)) := h
    rcases List.mem_append.mp h' with z | z
    · exact .inr ⟨q, List.mem_cons_self .., z⟩
    · rcases List.mem_append.mp z with z | z
      · exact .inl z
      · rcases joinL_mem S c (q' :: r) z with y | ⟨p, hp, y⟩
        · exact .inl y
        · exact .inr ⟨p, List.mem_cons_of_mem _ hp, y⟩
theorem join_mem {sep : Str} {ws : List Str} {c : Nat} (h : c ∈ tl (Txt.join sep ws)) : c ∈ tl sep ∨ ∃ w ∈ ws, c ∈ tl w := by
  rw [tl_joinS] at h
  rcases joinL_mem _ _ _ h with z | ⟨p, hp, z⟩
  · exact .inl z
  · obtain ⟨w, hw, rfl⟩ := List.mem_map.mp hp
    exact .inr ⟨w, hw, z⟩
/-- the first word is what stands before the first blank -/
theorem spl_head (s : Nat) : ∀ (l acc : List Nat), (spl [s] 0 acc l).head? = some (acc ++ l.takeWhile (fun c => decide (c ≠ s)))
  | [], acc => by rw [spl_nil]; simp
  | c :: r, acc => by
    by_cases h : c = s
    · rw [spl_hit (by rw [h]; exact pre_self [s] r)]
      simp [h]
    · have hp : pre [s] (c :: r) = false := by
        cases e : pre [s] (c :: r) with
        | false => rfl
        | true => exact absurd (by simpa [pre] using e) (fun z => h (by simpa [eq_comm] using z))
      rw [spl_miss hp, spl_head s r (acc ++ [c])]
      simp [h]
theorem first_ne {v e : Str} {c : Nat} (he : (tl e).head? = some c) (hv : (tl v).head? ≠ some c) : (wordsOf v)[0]? ≠ some e := by
  intro h
  have h1 := tls v spc_ne spc_k
  have hs : tl spc = [32] := by decide +kernel
  rw [hs] at h1
  have h2 := spl_head 32 (tl v) []
  rw [← h1, List.nil_append] at h2
  have h3 : ((Txt.split v spc).map tl).head? = some (tl e) := by
    have h4 : (Txt.split v spc)[0]? = some e := h
    rw [List.head?_eq_getElem?, List.getElem?_map, h4]
    rfl
  rw [h3] at h2
  have h5 := Option.some.inj h2
  rw [h5] at he
  cases hl : tl v with
  | nil => rw [hl] at he; simp at he
  | cons d r =>
    rw [hl] at he hv
    by_cases hd : d = 32
    · simp [hd] at he
    · simp [hd] at he
      exact hv (by rw [he]; rfl)
/-! ### numbers -/
theorem istr_num {x : Int} (h : 0 ≤ x) : istr x = numS x.toNat := by
  unfold istr numS
  congr 2
  omega
theorem num_key : ∀ x : Fin 61, isDig (numS x.val) = true ∧ numS x.val ≠ Str.ofString "" ∧ ¬ ((numS x.val).cps.toList[0]? = some 48 ∧ numS x.val ≠ Str.ofString "0") ∧ (numS x.val).length = (if x.val < 10 then 1 else 2) ∧ ((tl (numS x.val)).all fun c => decide (48 ≤ c) && decide (c ≤ 57)) = true := by decide +kernel
theorem num_at {x : Nat} (h : x ≤ 60) : isDig (numS x) = true ∧ numS x ≠ Str.ofString "" ∧ ¬ ((numS x).cps.toList[0]? = some 48 ∧ numS x ≠ Str.ofString "0") ∧ (numS x).length = (if x < 10 then 1 else 2) ∧ ((tl (numS x)).all fun c => decide (48 ≤ c) && decide (c ≤ 57)) = true := num_key ⟨x, by omega⟩
theorem num_dig {x : Nat} (h : x ≤ 60) : ∀ c ∈ tl (numS x), 48 ≤ c ∧ c ≤ 57 := fun c hc => by
  have := List.all_eq_true.mp (num_at h).2.2.2.2 c hc
  simpa using this
theorem rnum_num {x m : Nat} (h : x ≤ m) (hm : m ≤ 60) : rnum (numS x) m = x := by
  obtain ⟨h1, h2, h3, h4, _⟩ := num_at (x := x) (by omega)
  have h5 := (num_at hm).2.2.2.1
  have hl : (numL x).length ≤ 4300 := by
    have e : (numS x).length = (numL x).length := by
      show (numS x).cps.size = _
      rw [← Array.length_toList, show (numS x).cps.toList = numL x from tl_num x]
    rw [← e, h4]
    by_cases z : x < 10
    · rw [if_pos z]; decide
    · rw [if_neg z]; decide
  have hi : PySem.intText? (numS x) = some (x : Int) := int_num hl
  unfold rnum
  rw [if_neg h2, if_neg, if_neg (by rw [h1]; simp), if_neg h3, hi]
  · exact if_pos (by omega)
  · rw [h4, h5]
    by_cases z : x < 10
    · rw [if_pos z]
      by_cases z2 : m < 10
      · rw [if_pos z2]; omega
      · rw [if_neg z2]; omega
    · rw [if_neg z, if_neg (by omega)]; omega
theorem rnum_nodig {w : Str} {m : Nat} (h : isDig w = false) : rnum w m = -1 := by
  unfold rnum
  by_cases h1 : w = Str.ofString ""
  · rw [if_pos h1]
  rw [if_neg h1]
  by_cases h2 : (numS m).length < w.length
  · rw [if_pos h2]
  rw [if_neg h2, if_pos h]
theorem bad_words : ∀ m : Fin 61, rnum (Str.ofString "") m.val = -1 ∧ rnum (Str.ofString "00") m.val = -1 ∧ rnum (Str.ofString "61") m.val = -1 ∧ rnum (Str.ofString "-1") m.val = -1 ∧ rnum (Str.ofString "x") m.val = -1 := by decide +kernel
/-! ### lines -/
theorem sgn_tl (j : Nat) : tl (sgn j) = [97 + j] := rfl
theorem row_free {j : Nat} {t : List Int} {n : Nat} (hj : j < 5) (hn : n ≤ 60) (h : ∀ x ∈ t, 0 ≤ x ∧ x < n) : ∀ w ∈ sgn j :: t.map istr, ∀ c ∈ tl w, (48 ≤ c ∧ c ≤ 57) ∨ (97 ≤ c ∧ c ≤ 101) := by
  intro w hw c hc
  rcases List.mem_cons.mp hw with z | z
  · rw [z, sgn_tl] at hc
    rw [List.mem_singleton.mp hc]
    right; omega
  · obtain ⟨x, hx, rfl⟩ := List.mem_map.mp z
    have hb := h x hx
    rw [istr_num hb.1] at hc
    exact .inl (num_dig (by omega) c hc)
theorem row_words32 {j : Nat} {t : List Int} {n : Nat} (hj : j < 5) (hn : n ≤ 60) (h : ∀ x ∈ t, 0 ≤ x ∧ x < n) : ∀ w ∈ sgn j :: t.map istr, 32 ∉ tl w := fun w hw z => by
  have := row_free hj hn h w hw 32 z
  omega
theorem words_row {j : Nat} {t : List Int} {n : Nat} (hj : j < 5) (hn : n ≤ 60) (h : ∀ x ∈ t, 0 ≤ x ∧ x < n) : wordsOf (rowL j t) = sgn j :: t.map istr := wordsOf_join (by simp) (row_words32 hj hn h)
theorem rtab_row {j : Nat} {t : List Int} {n : Nat} (hj : j < 5) (hn : n ≤ 60) (h : t.length = n ∧ ∀ x ∈ t, 0 ≤ x ∧ x < n) : rtab (rowL j t) j n = t := by
  have e : (t.map istr).map (fun w => rnum w (n - 1)) = t := by
    rw [List.map_map]
    conv => rhs; rw [← List.map_id t]
    refine List.map_congr_left fun x hx => ?_
    have hb := h.2 x hx
    show rnum (istr x) (n - 1) = x
    rw [istr_num hb.1, rnum_num (by omega) (by omega)]
    omega
  unfold rtab
  rw [words_row hj hn h.2, if_neg (by omega), if_neg (by simp), if_neg (by simp [h.1])]
  show (if (((t.map istr).map fun w => rnum w (n - 1)).all fun x => decide (0 ≤ x)) = true then (t.map istr).map (fun w => rnum w (n - 1)) else []) = t
  rw [e, if_pos]
  rw [List.all_eq_true]
  intro x hx
  exact decide_eq_true (h.2 x hx).1
theorem head_words (n : Nat) : headL n = Txt.join spc [Str.ofString "states", istr (n : Int)] := by
  refine tl_inj ?_
  rw [tl_joinS]
  unfold headL
  rw [tl_append]
  show tl (Str.ofString "states ") ++ _ = tl (Str.ofString "states") ++ (tl spc ++ tl (istr (n : Int)))
  rw [← List.append_assoc]
  have : tl (Str.ofString "states ") = tl (Str.ofString "states") ++ tl spc := by decide +kernel
  rw [this]
theorem head_free {n : Nat} (hn : n ≤ 60) : ∀ w ∈ [Str.ofString "states", istr (n : Int)], ∀ c ∈ tl w, (48 ≤ c ∧ c ≤ 57) ∨ (97 ≤ c ∧ c ≤ 122) := by
  intro w hw c hc
  rcases List.mem_cons.mp hw with z | z
  · rw [z] at hc
    have e : tl (Str.ofString "states") = [115, 116, 97, 116, 101, 115] := by decide +kernel
    rw [e] at hc
    simp at hc
    omega
  · rw [List.mem_singleton.mp z, istr_num (by omega)] at hc
    exact .inl (num_dig (by omega) c hc)
theorem words_head {n : Nat} (hn : n ≤ 60) : wordsOf (headL n) = [Str.ofString "states", istr (n : Int)] := by
  rw [head_words]
  refine wordsOf_join (by simp) fun w hw z => ?_
  have := head_free hn w hw 32 z
  omega
theorem rstates_head {n : Nat} (h0 : 1 ≤ n) (hn : n ≤ 60) : rstates (headL n) = n := by
  unfold rstates
  rw [words_head hn]
  show (if Str.ofString "states" = Str.ofString "states" then _ else _) = _
  rw [if_pos rfl, istr_num (by omega), Int.toNat_natCast, rnum_num hn (Nat.le_refl _), if_pos (by omega)]
end Bk

set_option Elab.async false
set_option linter.all false
set_option maxRecDepth 100000
set_option maxHeartbeats 4000000
namespace Bk
open PySem PySem.Spec PyProof.Rows L2 TL
/-! ### wrong lines -/
def wrongAt (v : Str) (i n : Nat) : Prop := if i = 0 then rstates v = 0 else rtab v (i - 1) n = []
theorem rowsL_at : ∀ (ts : List (List Int)) (j k : Nat), (rowsL j ts)[k]? = (ts[k]?).map (rowL (j + k))
  | [], j, k => by simp [rowsL]
  | t :: r, j, 0 => by simp [rowsL]
  | t :: r, j, k + 1 => by
    have ih := rowsL_at r (j + 1) k
    simp only [rowsL, List.getElem?_cons_succ]
    rw [ih, Nat.add_assoc, Nat.add_comm 1 k]
theorem split_parts {ls : List Str} {u : Str} {rest : List Str} (e : ls = u :: rest) (h : ∀ l ∈ ls, 10 ∉ tl l) : headOf (Txt.join nlS ls) = u ∧ restL (Txt.join nlS ls) = rest := by
  have h1 := linesOf_join (ls := ls) (by rw [e]; simp) h
  unfold headOf restL
  rw [h1, e]
  exact ⟨rfl, rfl⟩
theorem tab_row {ts : List (List Int)} {n : Nat} (g : Good ts n) {x : Str} {k : Nat} (hh : headOf x = headL n) (hk : k < ts.length) (hr : (restL x)[k]? = (rowsL 0 ts)[k]?) : ∃ t, ts[k]? = some t ∧ tabAt x k = t ∧ t ≠ [] := by
  have ht : ts[k]? = some ts[k] := List.getElem?_eq_getElem hk
  have hg := g.rows _ (List.getElem_mem hk)
  refine ⟨ts[k], ht, ?_, fun z => ?_⟩
  · rw [rowsL_at, ht, Nat.zero_add] at hr
    unfold tabAt
    rw [hh, rstates_head g.n0 g.n60, Int.toNat_natCast, List.getD_eq_getElem?_getD, hr]
    have := g.l5
    exact rtab_row (by omega) g.n60 hg
  · have h1 := hg.1
    rw [z] at h1
    have := g.n0
    simp at h1
    omega
theorem bad_line {ts : List (List Int)} {n : Nat} (g : Good ts n) {ls : List Str} {i : Nat} {v : Str} (hfree : ∀ l ∈ ls, 10 ∉ tl l) (hpre : ∀ j, j < i → ls[j]? = (linesL ts n)[j]?) (hat : ls[i]? = some v) (hw : wrongAt v i n) (hi : i ≤ ts.length + 1) :
    Bad (Txt.join nlS ls) (i + 1) := by
  obtain ⟨u, rest, e⟩ : ∃ u rest, ls = u :: rest := by
    cases ls with
    | nil => simp at hat
    | cons u r => exact ⟨u, r, rfl⟩
  obtain ⟨h1, h2⟩ := split_parts e hfree
  cases i with
  | zero =>
    left
    rw [e] at hat
    have : u = v := Option.some.inj hat
    rw [h1, this]
    exact ⟨hw, rfl⟩
  | succ j =>
    have hu : u = headL n := by
      have h3 := hpre 0 (by omega)
      rw [e] at h3
      exact Option.some.inj h3
    have hn : rstates (headOf (Txt.join nlS ls)) = n := by rw [h1, hu]; exact rstates_head g.n0 g.n60
    have n0 := g.n0
    have hrj : (restL (Txt.join nlS ls))[j]? = some v := by
      rw [h2]
      rw [e] at hat
      exact hat
    refine .inr (.inr ⟨by rw [hn]; omega, j, (List.getElem?_eq_some_iff.mp hrj).1, fun k hk => ?_, ?_, rfl⟩)
    · have h3 := hpre (k + 1) (by omega)
      rw [e] at h3
      have h4 : (restL (Txt.join nlS ls))[k]? = (rowsL 0 ts)[k]? := by rw [h2]; exact h3
      obtain ⟨t, _, e1, e2⟩ := tab_row g (k := k) (h1.trans hu) (by omega) h4
      rw [e1]; exact e2
    · unfold tabAt
      rw [List.getD_eq_getElem?_getD, hrj, hn, Int.toNat_natCast]
      exact hw
theorem bad_two {x : Str} (hf : 10 ∉ tl x) (h : rstates x ≠ 0) : Bad x 2 := by
  have e : Txt.join nlS [x] = x := by rw [join_eq]; rfl
  obtain ⟨h1, h2⟩ := split_parts (ls := [x]) rfl (fun l hl => by rw [List.mem_singleton.mp hl]; exact hf)
  rw [e] at h1 h2
  exact .inr (.inl ⟨by rw [h1]; exact h, h2, rfl⟩)
/-! ### the lines of a device -/
theorem row_chars {j : Nat} {t : List Int} {n : Nat} (hj : j < 5) (hn : n ≤ 60) (h : ∀ x ∈ t, 0 ≤ x ∧ x < n) : ∀ w ∈ sgn j :: t.map istr, ∀ c ∈ tl w, (48 ≤ c ∧ c ≤ 57) ∨ (97 ≤ c ∧ c ≤ 122) := fun w hw c hc => by
  have := row_free hj hn h w hw c hc
  omega
/-- a line, and its words -/
structure IsLine (l : Str) (wl : List Str) (i n : Nat) : Prop where
  eq : l = Txt.join spc wl
  len : wl.length = if i = 0 then 2 else n + 1
  n0 : 1 ≤ n
  n60 : n ≤ 60
  i5 : i ≤ 5
  chars : ∀ w ∈ wl, ∀ c ∈ tl w, (48 ≤ c ∧ c ≤ 57) ∨ (97 ≤ c ∧ c ≤ 122)
  head : wl.head? = some (if i = 0 then Str.ofString "states" else sgn (i - 1))
  small : l.length ≤ 300
theorem line_at {ts : List (List Int)} {n i : Nat} (g : Good ts n) (hi : i ≤ ts.length) : ∃ l wl, (linesL ts n)[i]? = some l ∧ IsLine l wl i n := by
  have hs := (lines_sum g).2
  have l5 := g.l5
  cases i with
  | zero =>
    refine ⟨headL n, [Str.ofString "states", istr (n : Int)], rfl, head_words n, rfl, g.n0, g.n60, by omega, head_free g.n60, rfl, hs _ (List.mem_cons_self ..)⟩
  | succ j =>
    have hj : j < ts.length := by omega
    have ht := g.rows _ (List.getElem_mem hj)
    have he : (linesL ts n)[j + 1]? = some (rowL j ts[j]) := by
      show (rowsL 0 ts)[j]? = _
      rw [rowsL_at, List.getElem?_eq_getElem hj, Nat.zero_add]
      rfl
    refine ⟨rowL j ts[j], sgn j :: (ts[j]).map istr, he, rfl, ?_, g.n0, g.n60, by omega, row_chars (by omega) g.n60 ht.2, rfl, hs _ (List.mem_of_getElem? he)⟩
    rw [if_neg (by omega), List.length_cons, List.length_map, ht.1]
theorem line_chars {l : Str} {wl : List Str} {i n : Nat} (L : IsLine l wl i n) : ∀ c ∈ tl l, c = 32 ∨ (48 ≤ c ∧ c ≤ 57) ∨ (97 ≤ c ∧ c ≤ 122) := fun c hc => by
  rw [L.eq] at hc
  rcases join_mem hc with z | ⟨w, hw, z⟩
  · have e : tl spc = [32] := by decide +kernel
    rw [e] at z
    exact .inl (List.mem_singleton.mp z)
  · exact .inr (L.chars w hw c z)
theorem lines_free {ts : List (List Int)} {n : Nat} (g : Good ts n) : ∀ l ∈ linesL ts n, 10 ∉ tl l := fun l hl z => by
  obtain ⟨i, hi⟩ := List.getElem?_of_mem hl
  have h1 := (List.getElem?_eq_some_iff.mp hi).1
  have h2 : (linesL ts n).length = ts.length + 1 := by
    show (rowsL 0 ts).length + 1 = _
    rw [rowsL_len]
  obtain ⟨l', wl, e, L⟩ := line_at g (i := i) (by omega)
  rw [hi] at e
  rw [Option.some.inj e] at z
  have := line_chars L 10 z
  omega
theorem fine_text {ts : List (List Int)} {n : Nat} (g : Good ts n) : Fine (textL ts n) ts n := by
  obtain ⟨h1, h2⟩ := split_parts (ls := linesL ts n) rfl (lines_free g)
  have n0 := g.n0
  have l0 := g.l0
  have hl : (rowsL 0 ts).length = ts.length := rowsL_len ts 0
  have key : ∀ k, k < ts.length → ∃ t, ts[k]? = some t ∧ tabAt (textL ts n) k = t ∧ t ≠ [] := fun k hk => tab_row g h1 hk (by
    show (restL (Txt.join nlS (linesL ts n)))[k]? = _
    rw [h2])
  refine ⟨?_, by omega, ?_, fun k hk => ?_, ?_⟩
  · show rstates (headOf (Txt.join nlS (linesL ts n))) = n
    rw [h1]; exact rstates_head g.n0 g.n60
  · show restL (Txt.join nlS (linesL ts n)) ≠ []
    rw [h2]
    intro z
    rw [z] at hl
    simp at hl
    omega
  · have hk' : k < ts.length := by
      have h3 : restL (textL ts n) = rowsL 0 ts := h2
      rw [h3, hl] at hk
      exact hk
    obtain ⟨t, _, e, ne⟩ := key k hk'
    rw [e]; exact ne
  · have h3 : restL (textL ts n) = rowsL 0 ts := h2
    rw [h3, hl]
    refine List.ext_getElem? fun k => ?_
    rw [List.getElem?_map]
    by_cases hk : k < ts.length
    · obtain ⟨t, e1, e2, _⟩ := key k hk
      rw [e1, List.getElem?_range hk]
      show some t = some (tabAt (textL ts n) k)
      rw [e2]
    · rw [List.getElem?_eq_none (by omega), List.getElem?_eq_none (by rw [List.length_range]; omega)]
      rfl
/-! ### lines bent -/
theorem rtab_len {l : Str} {j n : Nat} (h : (wordsOf l).length ≠ n + 1) : rtab l j n = [] := by
  unfold rtab
  by_cases h1 : 5 ≤ j
  · rw [if_pos h1]
  rw [if_neg h1]
  by_cases h2 : (wordsOf l)[0]? ≠ some (sgn j)
  · rw [if_pos h2]
  rw [if_neg h2, if_pos h]
theorem rtab_first {l : Str} {j n : Nat} (h : (wordsOf l)[0]? ≠ some (sgn j)) : rtab l j n = [] := by
  unfold rtab
  by_cases h1 : 5 ≤ j
  · rw [if_pos h1]
  rw [if_neg h1, if_pos h]
theorem rtab_five {l : Str} {j n : Nat} (h : 5 ≤ j) : rtab l j n = [] := by
  unfold rtab
  rw [if_pos h]
theorem rtab_last {l : Str} {j n : Nat} {u w : Str} {r : List Str} (e : wordsOf l = u :: (r ++ [w])) (h : rnum w (n - 1) = -1) : rtab l j n = [] := by
  unfold rtab
  by_cases h1 : 5 ≤ j
  · rw [if_pos h1]
  rw [if_neg h1]
  by_cases h2 : (wordsOf l)[0]? ≠ some (sgn j)
  · rw [if_pos h2]
  rw [if_neg h2]
  by_cases h3 : (wordsOf l).length ≠ n + 1
  · rw [if_pos h3]
  rw [if_neg h3, if_neg]
  rw [e]
  intro z
  rw [List.all_eq_true] at z
  have := z (rnum w (n - 1)) (by simp)
  rw [h] at this
  exact absurd this (by decide)
theorem rstates_len {l : Str} (h : (wordsOf l).length ≠ 2) : rstates l = 0 := by
  unfold rstates
  split
  · rename_i u v hh
    rw [hh] at h
    exact absurd rfl h
  · rfl
theorem rstates_first {l : Str} (h : (wordsOf l)[0]? ≠ some (Str.ofString "states")) : rstates l = 0 := by
  unfold rstates
  split
  · rename_i u v hh
    rw [hh] at h
    rw [if_neg (fun z => h (congrArg some z))]
  · rfl
theorem rstates_last {l u w : Str} (e : wordsOf l = [u, w]) (h : rnum w 60 = -1) : rstates l = 0 := by
  unfold rstates
  rw [e]
  show (if u = Str.ofString "states" then (if rnum w 60 > 0 then rnum w 60 else 0) else 0) = 0
  rw [h]
  by_cases z : u = Str.ofString "states"
  · rw [if_pos z]; rfl
  · rw [if_neg z]
section
variable {l : Str} {wl : List Str} {i n : Nat} (L : IsLine l wl i n)
include L
theorem wrong_len {ws : List Str} (hne : ws ≠ []) (hf : ∀ w ∈ ws, 32 ∉ tl w) (hl : ws.length ≠ wl.length) : wrongAt (Txt.join spc ws) i n := by
  have e := wordsOf_join hne hf
  have h1 := L.len
  unfold wrongAt
  by_cases z : i = 0
  · rw [if_pos z] at h1 ⊢
    exact rstates_len (by rw [e]; omega)
  · rw [if_neg z] at h1 ⊢
    exact rtab_len (by rw [e]; omega)
theorem line_ini : ∃ u ini x, wl = u :: (ini ++ [x]) ∧ wl.dropLast = u :: ini ∧ (i = 0 → ini = []) := by
  have h1 := L.len
  have n0 := L.n0
  have h2 : 2 ≤ wl.length := by
    by_cases z : i = 0
    · rw [if_pos z] at h1; omega
    · rw [if_neg z] at h1; omega
  cases wl with
  | nil => simp at h2
  | cons u r =>
    have hr : r ≠ [] := by
      intro z
      rw [z] at h2
      simp at h2
    refine ⟨u, r.dropLast, r.getLast hr, by rw [List.dropLast_concat_getLast], ?_, fun z => ?_⟩
    · cases r with
      | nil => exact absurd rfl hr
      | cons _ _ => rfl
    · rw [if_pos z] at h1
      have : r.length = 1 := by simpa using h1
      exact List.length_eq_zero_iff.mp (by rw [List.length_dropLast]; omega)
theorem words_free : ∀ w ∈ wl, 32 ∉ tl w ∧ 10 ∉ tl w := fun w hw => ⟨fun z => by have := L.chars w hw 32 z; omega, fun z => by have := L.chars w hw 10 z; omega⟩
theorem wrong_last {w : Str} (h32 : 32 ∉ tl w) (hw : ∀ m, m ≤ 60 → rnum w m = -1) : wrongAt (Txt.join spc (wl.dropLast ++ [w])) i n := by
  obtain ⟨u, ini, x, e1, e2, e3⟩ := line_ini L
  have hf : ∀ v ∈ wl.dropLast ++ [w], 32 ∉ tl v := fun v hv => by
    rcases List.mem_append.mp hv with z | z
    · exact (words_free L v (List.dropLast_subset _ z)).1
    · rw [List.mem_singleton.mp z]; exact h32
  have e := wordsOf_join (ws := wl.dropLast ++ [w]) (by simp) hf
  rw [e2] at e ⊢
  unfold wrongAt
  by_cases z : i = 0
  · rw [if_pos z]
    rw [e3 z] at e ⊢
    exact rstates_last e (hw 60 (by omega))
  · rw [if_neg z]
    have := L.n60
    exact rtab_last e (hw (n - 1) (by omega))
theorem wrong_first {v : Str} (h : (tl v).head? ≠ some (if i = 0 then 115 else 97 + (i - 1))) : wrongAt v i n := by
  unfold wrongAt
  by_cases z : i = 0
  · rw [if_pos z] at h ⊢
    exact rstates_first (first_ne (c := 115) (by decide +kernel) h)
  · rw [if_neg z] at h ⊢
    exact rtab_first (first_ne (c := 97 + (i - 1)) rfl h)
theorem line_head : ∃ r, tl l = (if i = 0 then [115, 116] else [97 + (i - 1), 32]) ++ r := by
  obtain ⟨u, ini, x, e1, _, _⟩ := line_ini L
  have hh := L.head
  rw [e1] at hh
  have hu : u = (if i = 0 then Str.ofString "states" else sgn (i - 1)) := Option.some.inj hh
  have hs : tl spc = [32] := by decide +kernel
  have e : tl l = tl u ++ ([32] ++ joinL [32] ((ini ++ [x]).map tl)) := by
    rw [L.eq, tl_joinS, e1, hs]
    cases ini with
    | nil => rfl
    | cons _ _ => rfl
  rw [e, hu]
  by_cases z : i = 0
  · rw [if_pos z, if_pos z]
    have e5 : tl (Str.ofString "states") = [115, 116] ++ [97, 116, 101, 115] := by decide +kernel
    rw [e5]
    exact ⟨[97, 116, 101, 115] ++ ([32] ++ joinL [32] ((ini ++ [x]).map tl)), by simp⟩
  · rw [if_neg z, if_neg z, sgn_tl]
    exact ⟨joinL [32] ((ini ++ [x]).map tl), by simp⟩
end
end Bk

set_option Elab.async false
set_option linter.all false
set_option maxRecDepth 100000
set_option maxHeartbeats 4000000
namespace Bk
open PySem PySem.Spec PyProof.Rows L2 TL
/-- one line in the place of another -/
structure OkBent (v : Str) (i n : Nat) : Prop where
  free : 10 ∉ tl v
  small : v.length ≤ 900
  wrong : wrongAt v i n
def bentL (l hd : Str) : List Str := [l ++ Str.ofString " ", Str.ofString " " ++ l, Str.ofString "", l ++ Str.ofString " 0", cutS l (some 1) none, Txt.upper l, hd, hd ++ Str.ofString " ", hd ++ Str.ofString " 00", hd ++ Str.ofString " 61", hd ++ Str.ofString " -1", hd ++ Str.ofString " x", l ++ Str.ofString "?"]
theorem cut1 (z : Str) : tl (cutS z (some 1) none) = (tl z).drop 1 := by
  show (((z.cps.toList.drop (HT.sIx z.length 0 (some ((1 : Nat) : Int)))).take (HT.sIx z.length z.length none - HT.sIx z.length 0 (some ((1 : Nat) : Int)))).toArray).toList = (tl z).drop 1
  rw [HT.sIx_nat, HT.sIx_none]
  have hl : z.length = z.cps.toList.length := len_tl z
  show (z.cps.toList.drop (min 1 z.length)).take (z.length - min 1 z.length) = z.cps.toList.drop 1
  rw [hl]
  generalize z.cps.toList = cs
  cases cs with
  | nil => rfl
  | cons c r =>
    have e : min 1 (c :: r).length = 1 := by simp only [List.length_cons]; omega
    rw [e]
    show r.take (r.length + 1 - 1) = r
    simp
section
variable {l : Str} {wl : List Str} {i n : Nat} (L : IsLine l wl i n)
include L
theorem hd_len : (Txt.join spc wl.dropLast).length ≤ 300 := by
  obtain ⟨u, ini, x, e1, e2, _⟩ := line_ini L
  have h1 := L.small
  have e : wl = wl.dropLast ++ [x] := by rw [e2, e1]; rfl
  rw [L.eq, e, join_snoc spc x (by rw [e2]; simp), Str.length_append] at h1
  omega
theorem last_ok {w : Str} (h32 : 32 ∉ tl w) (h10 : 10 ∉ tl w) (hl : w.length ≤ 500) (hw : ∀ m, m ≤ 60 → rnum w m = -1) : OkBent (Txt.join spc wl.dropLast ++ (spc ++ w)) i n := by
  obtain ⟨u, ini, x, e1, e2, _⟩ := line_ini L
  have hne : wl.dropLast ≠ [] := by rw [e2]; simp
  have hs : spc.length = 1 := by decide +kernel
  have ht : tl spc = [32] := by decide +kernel
  refine ⟨?_, ?_, ?_⟩
  · intro z
    rw [tl_append, tl_append, ht] at z
    rcases List.mem_append.mp z with z | z
    · rcases join_mem z with y | ⟨w', hw', y⟩
      · rw [ht] at y; simp at y
      · exact (words_free L w' (List.dropLast_subset _ hw')).2 y
    · rcases List.mem_append.mp z with y | y
      · simp at y
      · exact h10 y
  · have := hd_len L
    rw [Str.length_append, Str.length_append, hs]
    omega
  · rw [← join_snoc spc w hne]
    exact wrong_last L h32 hw
theorem more_ok {w : Str} (h32 : 32 ∉ tl w) (h10 : 10 ∉ tl w) (hl : w.length ≤ 500) : OkBent (l ++ (spc ++ w)) i n := by
  obtain ⟨u, ini, x, e1, e2, _⟩ := line_ini L
  have hne : wl ≠ [] := by rw [e1]; simp
  have hs : spc.length = 1 := by decide +kernel
  have ht : tl spc = [32] := by decide +kernel
  refine ⟨?_, ?_, ?_⟩
  · intro z
    rw [tl_append, tl_append, ht] at z
    rcases List.mem_append.mp z with z | z
    · have := line_chars L 10 z; omega
    · rcases List.mem_append.mp z with y | y
      · simp at y
      · exact h10 y
  · have := L.small
    rw [Str.length_append, Str.length_append, hs]
    omega
  · rw [L.eq, ← join_snoc spc w hne]
    refine wrong_len L (by simp) (fun v hv => ?_) (by simp)
    rcases List.mem_append.mp hv with z | z
    · exact (words_free L v z).1
    · rw [List.mem_singleton.mp z]; exact h32
theorem bent_ok : ∀ v ∈ bentL l (Txt.join spc wl.dropLast), OkBent v i n := by
  obtain ⟨u, ini, x, e1, e2, _⟩ := line_ini L
  have hne : wl.dropLast ≠ [] := by rw [e2]; simp
  have ht : tl spc = [32] := by decide +kernel
  have hb := fun (m : Nat) (hm : m ≤ 60) => bad_words ⟨m, by omega⟩
  have hlc := line_chars L
  obtain ⟨r, hr⟩ := line_head L
  have hsm := L.small
  have i5 := L.i5
  have ee : ∀ s : Str, spc ++ s = Str.ofString " " ++ s := fun s => rfl
  intro v hv
  have hv' : v = l ++ Str.ofString " " ∨ v = Str.ofString " " ++ l ∨ v = Str.ofString "" ∨ v = l ++ Str.ofString " 0" ∨ v = cutS l (some 1) none ∨ v = Txt.upper l ∨ v = Txt.join spc wl.dropLast ∨ v = Txt.join spc wl.dropLast ++ Str.ofString " " ∨ v = Txt.join spc wl.dropLast ++ Str.ofString " 00" ∨
      v = Txt.join spc wl.dropLast ++ Str.ofString " 61" ∨ v = Txt.join spc wl.dropLast ++ Str.ofString " -1" ∨ v = Txt.join spc wl.dropLast ++ Str.ofString " x" ∨ v = l ++ Str.ofString "?" := by simpa [bentL] using hv
  have c0 : Str.ofString " " = spc ++ Str.ofString "" := by decide +kernel
  have c1 : Str.ofString " 0" = spc ++ Str.ofString "0" := by decide +kernel
  have c2 : Str.ofString " 00" = spc ++ Str.ofString "00" := by decide +kernel
  have c3 : Str.ofString " 61" = spc ++ Str.ofString "61" := by decide +kernel
  have c4 : Str.ofString " -1" = spc ++ Str.ofString "-1" := by decide +kernel
  have c5 : Str.ofString " x" = spc ++ Str.ofString "x" := by decide +kernel
  rcases hv' with e | e | e | e | e | e | e | e | e | e | e | e | e
  · rw [e, c0]; exact more_ok L (by decide +kernel) (by decide +kernel) (by decide +kernel)
  · rw [e]
    refine ⟨fun z => ?_, ?_, wrong_first L ?_⟩
    · rw [tl_append, show tl (Str.ofString " ") = [32] from ht] at z
      rcases List.mem_append.mp z with y | y
      · simp at y
      · have := hlc 10 y; omega
    · rw [Str.length_append, show (Str.ofString " ").length = 1 by decide +kernel]; omega
    · rw [tl_append, show tl (Str.ofString " ") = [32] from ht]
      by_cases z : i = 0
      · rw [if_pos z]; simp
      · rw [if_neg z]; simp; omega
  · rw [e]
    refine ⟨by decide +kernel, by decide +kernel, wrong_first L ?_⟩
    have : tl (Str.ofString "") = [] := by decide +kernel
    rw [this]; simp
  · rw [e, c1]; exact more_ok L (by decide +kernel) (by decide +kernel) (by decide +kernel)
  · rw [e]
    refine ⟨fun z => ?_, ?_, wrong_first L ?_⟩
    · rw [cut1] at z
      have := hlc 10 (List.mem_of_mem_drop z)
      omega
    · exact Nat.le_trans (cutS_length _ _ _) (by omega)
    · rw [cut1, hr]
      by_cases z : i = 0
      · rw [if_pos z, if_pos z]; simp
      · rw [if_neg z, if_neg z]; simp; omega
  · rw [e]
    have ha : ∀ c ∈ l.cps.toList, c < 128 := fun c hc => by have := hlc c hc; omega
    have eu : tl (Txt.upper l) = (tl l).map up1 := by
      rw [upper_ascii ha]
      show (l.cps.map up1).toList = _
      rw [Array.toList_map]
    refine ⟨fun z => ?_, ?_, wrong_first L ?_⟩
    · rw [eu] at z
      obtain ⟨c, hc, hz⟩ := List.mem_map.mp z
      have := hlc c hc
      unfold up1 at hz
      split at hz <;> omega
    · rw [len_tl, eu, List.length_map, ← len_tl]; omega
    · rw [eu, hr]
      by_cases z : i = 0
      · rw [if_pos z, if_pos z]
        simp [up1]
      · rw [if_neg z, if_neg z]
        have h5 : 97 ≤ 97 + (i - 1) ∧ 97 + (i - 1) ≤ 122 := by omega
        simp [up1]
        omega
  · rw [e]
    refine ⟨fun z => ?_, Nat.le_trans (hd_len L) (by decide), wrong_len L hne (fun w hw => (words_free L w (List.dropLast_subset _ hw)).1) ?_⟩
    · rcases join_mem z with y | ⟨w', hw', y⟩
      · rw [ht] at y; simp at y
      · exact (words_free L w' (List.dropLast_subset _ hw')).2 y
    · rw [e2, e1]; simp
  · rw [e, c0]; exact last_ok L (by decide +kernel) (by decide +kernel) (by decide +kernel) fun m hm => (hb m hm).1
  · rw [e, c2]; exact last_ok L (by decide +kernel) (by decide +kernel) (by decide +kernel) fun m hm => (hb m hm).2.1
  · rw [e, c3]; exact last_ok L (by decide +kernel) (by decide +kernel) (by decide +kernel) fun m hm => (hb m hm).2.2.1
  · rw [e, c4]; exact last_ok L (by decide +kernel) (by decide +kernel) (by decide +kernel) fun m hm => (hb m hm).2.2.2.1
  · rw [e, c5]; exact last_ok L (by decide +kernel) (by decide +kernel) (by decide +kernel) fun m hm => (hb m hm).2.2.2.2
  · have eq : l ++ Str.ofString "?" = Txt.join spc wl.dropLast ++ (spc ++ (x ++ Str.ofString "?")) := by
      have e6 : wl = wl.dropLast ++ [x] := by rw [e2, e1]; rfl
      refine tl_inj ?_
      rw [L.eq]
      conv => lhs; rw [e6]
      rw [join_snoc spc x hne]
      simp only [tl_append, List.append_assoc]
    have hx : x ∈ wl := by rw [e1]; simp
    have hq : tl (Str.ofString "?") = [63] := by decide +kernel
    have hxl : x.length ≤ 300 := by
      have e6 : wl = wl.dropLast ++ [x] := by rw [e2, e1]; rfl
      have h1 := hsm
      rw [L.eq, e6, join_snoc spc x hne, Str.length_append, Str.length_append] at h1
      omega
    rw [e, eq]
    refine last_ok L (fun z => ?_) (fun z => ?_) ?_ fun m hm => rnum_nodig ?_
    · rw [tl_append, hq] at z
      rcases List.mem_append.mp z with y | y
      · exact (words_free L x hx).1 y
      · simp at y
    · rw [tl_append, hq] at z
      rcases List.mem_append.mp z with y | y
      · exact (words_free L x hx).2 y
      · simp at y
    · rw [Str.length_append, show (Str.ofString "?").length = 1 by decide +kernel]; omega
    · unfold isDig
      have e7 : (x ++ Str.ofString "?").cps.toList = tl x ++ [63] := by rw [← hq]; exact tl_append _ _
      rw [e7, List.all_append]
      have e8 : ([63].all fun c => decide (c ∈ dig10.cps.toList)) = false := by decide +kernel
      rw [e8, Bool.and_false]
end
/-! ### the written texts -/
theorem ode (s : String) (h : rstates (headOf (Str.ofString s)) = 0) : Bad (Str.ofString s) 1 := .inl ⟨h, rfl⟩
theorem odd1 : Bad (Str.ofString "states 0\na") 1 := ode _ (by decide +kernel)
theorem odd2 : Bad (Str.ofString "states 61\na") 1 := ode _ (by decide +kernel)
theorem odd3 : Bad (Str.ofString "states 01\na 0") 1 := ode _ (by decide +kernel)
theorem odd4 : Bad (Str.ofString "state 1\na 0") 1 := ode _ (by decide +kernel)
theorem odd5 : Bad (Str.ofString "states 1 \na 0") 1 := ode _ (by decide +kernel)
theorem odd6 : Bad (Str.ofString "states -1\na 0") 1 := ode _ (by decide +kernel)
theorem odd7 : Bad (Str.ofString "") 1 := ode _ (by decide +kernel)
def firstBad (x : Str) (j : Nat) : Bool := decide (rstates (headOf x) ≠ 0) && decide (j < (restL x).length) && ((List.range j).all fun i => decide (tabAt x i ≠ [])) && decide (tabAt x j = [])
theorem of_firstBad {x : Str} {j : Nat} (h : firstBad x j = true) : Bad x (j + 2) := by
  unfold firstBad at h
  simp only [Bool.and_eq_true, decide_eq_true_eq, List.all_eq_true] at h
  obtain ⟨⟨⟨h1, h2⟩, h3⟩, h4⟩ := h
  exact .inr (.inr ⟨h1, j, h2, fun i hi => h3 i (List.mem_range.mpr hi), h4, rfl⟩)
theorem odd8 : Bad (Str.ofString "states 1\nb 0") 2 := of_firstBad (j := 0) (by decide +kernel)
theorem odd9 : Bad (Str.ofString "states 1\na 0\nc 0") 3 := of_firstBad (j := 1) (by decide +kernel)
theorem odd10 : Bad (Str.ofString "states 1\na 1") 2 := of_firstBad (j := 0) (by decide +kernel)
theorem odd11 : Bad (Str.ofString "states 1\na 0\nb 0\nc 0\nd 0\ne 0\nf 0") 7 := of_firstBad (j := 5) (by decide +kernel)
theorem odd12 : Bad (Str.ofString "states 60\na" ++ repS (Str.ofString " 60") 60) 2 := of_firstBad (j := 0) (by decide +kernel)
theorem odd13 : Fine (Str.ofString "states 60\na" ++ repS (Str.ofString " 59") 60) [List.replicate 60 59] 60 := by
  have h1 : (decide (rstates (headOf (Str.ofString "states 60\na" ++ repS (Str.ofString " 59") 60)) = 60) && decide ((restL (Str.ofString "states 60\na" ++ repS (Str.ofString " 59") 60)).length = 1) && decide (tabAt (Str.ofString "states 60\na" ++ repS (Str.ofString " 59") 60) 0 = List.replicate 60 59)) = true := by decide +kernel
  simp only [Bool.and_eq_true, decide_eq_true_eq] at h1
  obtain ⟨⟨a1, a2⟩, a3⟩ := h1
  refine ⟨a1, by decide, fun z => by rw [z] at a2; exact absurd a2 (by decide), fun i hi => ?_, ?_⟩
  · have : i = 0 := by omega
    rw [this, a3]; decide
  · rw [a2]
    show _ = [tabAt _ 0]
    rw [a3]
end Bk

set_option Elab.async false
set_option linter.all false
set_option maxRecDepth 100000
set_option maxHeartbeats 16000000
namespace Bk
open PySem PySem.Spec PyProof.Rows L2 TL
/-- the walk that needs no fact -/
local macro_rules | `(tactic| walk_at "go1") => `(tactic| with_reducible first
  | refine r_seq ?_ | refine r_set ?_ | refine r_ret ?_ | refine r_drop ?_ | refine r_ifS ?_ | refine r_next ?_ | refine r_asg ?_ | refine r_gSub ?_
  | refine r_var rfl ?_ | refine r_c ?_ | refine r_op ?_ | refine r_un ?_ | refine r_I0 ?_ | refine r_U ?_ | refine r_cons ?_ | refine r_nil ?_ | refine r_CB ?_ | refine r_call ?_
  | refine r_test ?_ | refine r_B ?_ | refine r_not ?_ | refine r_and ?_ | refine r_or ?_ | refine r_andV ?_ | refine r_orV ?_ | refine r_notV ?_ | refine r_if ?_ | refine r_exb ?_ | refine r_exc ?_
  | refine brTT ?_ | refine brFF ?_ | refine brNTT ?_ | refine brNFF ?_ | refine r_chain ?_ | refine r_sl ?_ | refine r_nopart ?_ | refine r_part ?_ | refine r_exi ?_ | refine r_gn ?_ | refine r_make ?_ | refine r_zipS ?_ | refine r_enum ?_ | refine r_rng1 ?_ | refine r_js ?_ | refine r_jn ?_ | refine r_fmt ?_ | refine r_bm ?_ | refine r_isS ?_ | refine r_sfld ?_ | refine r_m0 ?_ | refine r_m1 ?_
  | refine r_lst ?_ | refine r_tup ?_ | refine r_fld ?_ | refine r_int ?_ | refine r_intB ?_ | refine r_abs ?_)
local macro_rules | `(tactic| walk_at "go") => `(tactic| repeat walk_at "go1")
local macro_rules | `(tactic| walk_at "cond") => `(tactic| first
  | (show (0 : Int) < _; first | omega | assumption)
  | exact cdiv (by first | omega | assumption) (by first | omega | assumption)
  | exact cmulL (by omega) (by omega)
  | exact cmulR (by omega) (by omega))
local macro_rules | `(tactic| walk_at "hp") => `(tactic| first | assumption | exact upd_same)
local macro_rules | `(tactic| walk_at "ixL") => `(tactic| ((with_reducible refine' r_ixL (SqL.of ?h) ?a ?_); (case h => walk_at "hp"); (case a => rfl)))
local macro_rules | `(tactic| walk_at "setL") => `(tactic| ((with_reducible refine' r_setL ?h ?a ?_); (case h => walk_at "hp"); (case a => rfl)))
local macro_rules | `(tactic| walk_at "rI") => `(tactic| ((with_reducible refine r_I ?c ?_); (case c => walk_at "cond")))
local macro_rules | `(tactic| walk_at "eqs") => `(tactic| first | (with_reducible first | refine r_eqI ?_ | refine r_neI ?_ | refine r_eqS ?_ | refine r_neS ?_) | ((with_reducible first | refine r_eq ?c ?_ | refine r_ne ?c ?_); (case c => rfl)))
local macro_rules | `(tactic| walk_at "st1") => `(tactic| first
  | walk_at "go1"
  | walk_at "rI" | walk_at "ixL" | walk_at "setL" | walk_at "eqs")
local macro_rules | `(tactic| walk_at "st") => `(tactic| repeat walk_at "st1")
section
variable {P : Program} {w : World} {K : PySem.W.Frag} {mg : Str → Option Value} {base : Heap} {a : Ad}
theorem Dev.keep {C b : Addr} {H H' : Hp} {x : Addr} {ts : List (List Int)} {n : Nat} (h : Dev C H x ts n) (k : Keep (· = b) H H') (hb : Box H b) : Dev C H' x ts n := by
  obtain ⟨dx, tp, rs, h1, ⟨h2, h3, h4⟩, g⟩ := h
  obtain ⟨_, _, _, e⟩ := hb
  refine ⟨dx, tp, rs, k _ _ (fun z => ?_) h1, ⟨k _ _ (fun z => ?_) h2, h3, fun i q t e1 e2 => k _ _ (fun z => ?_) (h4 i q t e1 e2)⟩, g⟩
  · rw [z, e] at h1; cases h1
  · rw [z, e] at h2; cases h2
  · have h5 := h4 i q t e1 e2
    rw [z, e] at h5; cases h5
theorem reads_bad {H : Hp} {Q : VK} {E : XK} {x : Str} {k : Nat} (hb : Bad x k) (hx : x.length ≤ 9000) (q : ∀ H', Same H H' → Q (.int (k : Nat)) H') : sp_reads K a ([.str x] ++ []) H Q E := .inr ⟨x, rfl, hx, .inl ⟨k, hb, q⟩⟩
theorem reads_fine {H : Hp} {Q : VK} {E : XK} {x : Str} {ts : List (List Int)} {n : Nat} (hf : Fine x ts n) (hx : x.length ≤ 9000) (q : ∀ p H', Same H H' → Dev a.C_Device H' p ts n → Q (.ref p) H') : sp_reads K a ([.str x] ++ []) H Q E := .inr ⟨x, rfl, hx, .inr ⟨ts, n, hf, q⟩⟩
theorem reads_none {H : Hp} {Q : VK} {E : XK} {v : V} {nm : String} (ty : TyX K H v (.type nm)) (h : kitB nm "str" = some false) (q : ∀ H', Same H H' → Q (.int 0) H') : sp_reads K a ([v] ++ []) H Q E := .inl ⟨v, nm, rfl, ty, h, q⟩
theorem mk_dev1 {H : Hp} {R : Hp → Prop} {x dx p : Addr} {qs : List Addr} {ts : List (List Int)} {n : Nat} (hx : H x = none) (hd : H dx = none) (hne : dx ≠ x) (tab : Tab H p qs ts) (g : Good ts n) (q : ∀ H', Same H H' → Dev a.C_Device H' x ts n → R H') :
    sp_init a (.ref x :: ([.ref p] ++ [])) (upd (upd H dx (.own x)) x (.ins a.C_Device dx [])) (fun v H2 => v = .non ∧ R H2) E0 := by
  have s1 : ∀ b o, H b = some o → upd (upd H dx (.own x)) x (.ins a.C_Device dx []) b = some o := fun b o e => by
    rw [upd_ne (ne_of_none e hx), upd_ne (ne_of_none e hd)]
    exact e
  refine ⟨x, dx, p, qs, ts, n, rfl, upd_same, tab.mono s1, g, fun z => ?_, fun z => ?_, fun H' k d => ⟨rfl, q H' (fun b o e => k b o (ne_of_none e hx) (s1 b o e)) d⟩⟩
  · rw [z, tab.1] at hx
    cases hx
  · obtain ⟨i, hi⟩ := List.getElem?_of_mem z
    have hi' : i < ts.length := by rw [← tab.2.1]; exact (List.getElem?_eq_some_iff.mp hi).1
    rw [tab.2.2 i x _ hi (List.getElem?_eq_getElem hi')] at hx
    cases hx
theorem own_ne {H : Hp} {Q : VK} {x y : Addr} {ts : List (List Int)} {n m : Nat} (hx : Dev a.C_Device H x ts n) (hy : Dev a.C_Device H y ts m) (q : Q (.bl false) H) : rOwn true a.C_Device (sp_eq a) E0 (.ref x) (.ref y) H Q := by
  obtain ⟨dx, tp, rs, h1, _⟩ := id hx
  obtain ⟨dy, tq, ss, i1, _⟩ := id hy
  exact r_own h1 i1 ⟨x, y, ts, n, m, rfl, hx, hy, true, rfl, q⟩
theorem own_eq {H : Hp} {Q : VK} {x y : Addr} {ts : List (List Int)} {n m : Nat} (hx : Dev a.C_Device H x ts n) (hy : Dev a.C_Device H y ts m) (q : Q (.bl true) H) : rOwn false a.C_Device (sp_eq a) E0 (.ref x) (.ref y) H Q := by
  obtain ⟨dx, tp, rs, h1, _⟩ := id hx
  obtain ⟨dy, tq, ss, i1, _⟩ := id hy
  exact r_own h1 i1 ⟨x, y, ts, n, m, rfl, hx, hy, true, rfl, q⟩
theorem addle {x y : Str} (hx : x.length ≤ 5000) (hy : y.length ≤ 5000) : x.length + y.length ≤ sizeLine := Nat.le_trans (Nat.add_le_add hx hy) (by decide)
theorem lines_small {ls : List Str} {k : Nat} (h : ls.length ≤ k) (hk : k ≤ 8) (hs : ∀ l ∈ ls, l.length ≤ 900) : (ls.map (·.length)).sum + ls.length * nlS.length ≤ 8000 := by
  have h1 := sum_le (·.length) (b := 900) ls hs
  have h2 : nlS.length = 1 := by decide +kernel
  rw [h2]
  omega
theorem take_map (ls : List Str) (i : Nat) : cutV (ls.map V.str) none (some (i : Int)) = (ls.take i).map V.str := by rw [cutV_take, List.map_take]
theorem drop_map (ls : List Str) (i : Nat) : cutV (ls.map V.str) (some (i : Int)) none = (ls.drop i).map V.str := by rw [cutV_drop, List.map_drop]
theorem dup_wrong {l : Str} {wl : List Str} {i n : Nat} (IL : IsLine l wl i n) : wrongAt l (i + 1) n := by
  have hne : wl ≠ [] := fun z => by
    have := IL.head
    rw [z] at this
    cases this
  have hw : wordsOf l = wl := by
    rw [IL.eq]
    exact wordsOf_join hne fun w hw => (words_free IL w hw).1
  unfold wrongAt
  rw [if_neg (by omega)]
  refine rtab_first ?_
  have hh := IL.head
  rw [List.head?_eq_getElem?] at hh
  rw [hw, hh]
  intro z
  have z' := congrArg tl (Option.some.inj z)
  rw [show i + 1 - 1 = i from rfl, sgn_tl] at z'
  by_cases h0 : i = 0
  · rw [if_pos h0] at z'
    have e5 : tl (Str.ofString "states") = [115, 116, 97, 116, 101, 115] := by decide +kernel
    rw [e5] at z'
    simp at z'
  · rw [if_neg h0, sgn_tl] at z'
    simp at z'
    omega
theorem nl_empty {x : Str} {ls : List Str} (h : ls ≠ []) (e : Txt.join nlS ls = x) : x ++ Str.ofString "\n" = Txt.join nlS (ls ++ [Str.ofString ""]) := by
  rw [join_snoc nlS _ h, e]
  have : nlS ++ Str.ofString "" = Str.ofString "\n" := by decide +kernel
  rw [this]
theorem bad_more {ts : List (List Int)} {n : Nat} (g : Good ts n) : Bad (textL ts n ++ Str.ofString "\n") (ts.length + 2) := by
  have hl : (linesL ts n).length = ts.length + 1 := by
    show (rowsL 0 ts).length + 1 = _
    rw [rowsL_len]
  rw [nl_empty (x := textL ts n) (ls := linesL ts n) (by simp [linesL]) rfl]
  refine bad_line g (i := ts.length + 1) (v := Str.ofString "") (fun v hv => ?_) (fun j hj => ?_) ?_ ?_ (by omega)
  · rcases List.mem_append.mp hv with z | z
    · exact lines_free g v z
    · rw [List.mem_singleton.mp z]; decide +kernel
  · rw [List.getElem?_append_left (by omega)]
  · rw [List.getElem?_append_right (by omega), hl, Nat.sub_self]; rfl
  · unfold wrongAt
    rw [if_neg (by omega)]
    refine rtab_len ?_
    have e : wordsOf (Str.ofString "") = [Str.ofString ""] := by decide +kernel
    have := g.n0
    rw [e, List.length_singleton]
    omega
def sp_case : Sp



 := fun vs H Q _ => ∃ (b : Addr), vs = [.ref b] ∧ Box H b ∧ ∀ H', Keep (· = b) H H' → Q (.bl true) H'
theorem ok_law_case_right (T : Txt K mg a) : FnOk P w K mg base CX0 12 a.f_law_case_right a.d_law_case_right P_law_case_right sp_case := by
  refine T.F_law_case_right.ok sc_law_case_right (fun vs H Q E h => ?_) (fun cdv A outer s H vs Q E hr h => ?_)
  · obtain ⟨b, rfl, _⟩ := h
    rfl
  · obtain ⟨b, rfl, hb, q⟩ := h
    refine ⟨_, (pss_cons (ps_set (i := 1) sc_law_case_right.nd rfl (Or.inl rfl) (pe_call (ok_law_tables T) (hr.mono (by decide)) (by rfl) T.mg_law_tables T.F_law_tables.kp T.b_law_tables .nil pass0 (pa_cons (pv 0) (pa_cons pe_int (pa_cons (pe_op op_add pe_int (pe_call (ok_law_take T) (hr.mono (by decide)) (by rfl) T.mg_law_take T.F_law_take.kp T.b_law_take .nil pass0 (pa_cons (pv 0) (pa_cons pe_int pa_nil)))) pa_nil)))))
    (pss_cons (ps_set (i := 2) sc_law_case_right.nd rfl (Or.inl rfl) (pe_make T.M_Device (ok_Device_init T) (hr.mono (by decide)) (by rfl) T.mg_Device T.b_Device_init .nil pass0 (pa_cons (pv 1) pa_nil)))
    (pss_cons (ps_set (i := 3) sc_law_case_right.nd rfl (Or.inl rfl) (pe_lst (pa_cons (pe_op op_add_str pe_str (pe_callTy c_str (by rfl) T.str (by decide +kernel) (pa_cons (pe_fldK (K := K) rfl (pv 2) rfl) pa_nil))) pa_nil)))
    (pss_cons (ps_for PassesOwn.never rfl (pi_range1 (by rfl) T.range (pa_cons (pe_callB (c_lenK (K := K)) (by rfl) T.len (by decide +kernel) (pa_cons (pv 1) pa_nil)) pa_nil)) (pg_name (i := 4) sc_law_case_right.nd rfl (Or.inl rfl))
      (pss_one (ps_expr (pe_bm PySem.F.plainAttrs_list PySem.F.slot_list_append PySem.F.type_list_append mt_append (pv 3) (pa_cons (pe_join pe_str (pe_op op_cat (pe_lst (pa_cons (pe_ix ix_str pe_str (pv 4) (fun _ _ => rfl)) pa_nil)) (pe_lc (own := [("_law_state", 10)]) (g := gName 10) (tt := tYes) rfl sc_law_case_right.nd (pi_list (pe_ix (ix_listK (K := K)) (pv 1) (pv 4) (fun _ _ => rfl))) (blkOk_by (own := [("_law_state", 10)]) (N := N_law_case_right) (sc := defScope s_law_case_right) (by decide +kernel)) (fun _ _ _ _ _ => (pg_name (i := 10) sc_law_case_right.nd rfl (Or.inl rfl))) (fun _ _ _ _ _ => pts_nil) (fun _ _ _ _ _ => (pe_callTy c_str (by rfl) T.str (by decide +kernel) (pa_cons (pv 10) pa_nil)))))) pa_nil)))))
    (pss_cons (ps_set (i := 5) sc_law_case_right.nd rfl (Or.inl rfl) (pe_join pe_str (pv 3)))
    (pss_cons (ps_if (PW.pt (pw_or (pt_cmpR op_ne (pe_callK0 (E := fun _ => E0) (ok_device_text T) (hr.mono (by decide)) (by rfl) T.mg_device_text T.F_device_text.kp T.kb_device_text passAt0 (pk_cons (pv 2) pk_nil)) (pv 5) (nomark _)) (pw_or (pt_cmpR (op_neOwn (hr.mono (by decide)) (ok_Device_eq T) T.m_Device_eq.at_ T.m_Device_eq.fn T.ne_Device T.ob_Device T.b_Device_eq pass0) (pe_call (ok_law_reads T) (hr.mono (by decide)) (by rfl) T.mg_law_reads T.F_law_reads.kp T.b_law_reads .nil pass0 (pa_cons (pv 5) pa_nil)) (pv 2) (nomark _)) (pw_or (pt_cmpR op_ne (pe_call (ok_law_reads T) (hr.mono (by decide)) (by rfl) T.mg_law_reads T.F_law_reads.kp T.b_law_reads .nil pass0 (pa_cons pe_int pa_nil)) pe_int (nomark _)) (pw_or (pt_cmpR op_ne (pe_call (ok_law_reads T) (hr.mono (by decide)) (by rfl) T.mg_law_reads T.F_law_reads.kp T.b_law_reads .nil pass0 (pa_cons pe_non pa_nil)) pe_int (nomark _)) (pw_or1 (pt_cmpR op_ne (pe_call (ok_law_reads T) (hr.mono (by decide)) (by rfl) T.mg_law_reads T.F_law_reads.kp T.b_law_reads .nil pass0 (pa_cons (pe_lst (pa_cons pe_str pa_nil)) pa_nil)) pe_int (nomark _))))))))
      (pss_one (ps_ret pe_bl))
      pss_nil)
    (pss_cons (ps_set (i := 4) sc_law_case_right.nd rfl (Or.inl rfl) (pe_call (ok_law_take T) (hr.mono (by decide)) (by rfl) T.mg_law_take T.F_law_take.kp T.b_law_take .nil pass0 (pa_cons (pv 0) (pa_cons (pe_callB (c_lenK (K := K)) (by rfl) T.len (by decide +kernel) (pa_cons (pv 3) pa_nil)) pa_nil))))
    (pss_cons (ps_set (i := 6) sc_law_case_right.nd rfl (Or.inl rfl) (pe_ix (ix_listK (K := K)) (pv 3) (pv 4) (fun _ _ => rfl)))
    (pss_cons (ps_set (i := 7) sc_law_case_right.nd rfl (Or.inl rfl) (pe_join pe_str (pe_slice sl_list (pe_split (pv 6) pe_str) po_none (po_some (pe_op op_sub (pe_callB (c_lenK (K := K)) (by rfl) T.len (by decide +kernel) (pa_cons (pe_split (pv 6) pe_str) pa_nil)) pe_int)))))
    (pss_cons (ps_set (i := 8) sc_law_case_right.nd rfl (Or.inl rfl) (pe_lst (pa_cons (pe_op op_add_str (pv 6) pe_str) (pa_cons (pe_op op_add_str pe_str (pv 6)) (pa_cons pe_str (pa_cons (pe_op op_add_str (pv 6) pe_str) (pa_cons (pe_slice sl_str (pv 6) (po_some pe_int) po_none) (pa_cons (pe_upper (pv 6)) (pa_cons (pv 7) (pa_cons (pe_op op_add_str (pv 7) pe_str) (pa_cons (pe_op op_add_str (pv 7) pe_str) (pa_cons (pe_op op_add_str (pv 7) pe_str) (pa_cons (pe_op op_add_str (pv 7) pe_str) (pa_cons (pe_op op_add_str (pv 7) pe_str) (pa_cons (pe_op op_add_str (pv 6) pe_str) pa_nil)))))))))))))))
    (pss_cons (ps_if (pt_cmpR op_ne (pe_call (ok_law_reads T) (hr.mono (by decide)) (by rfl) T.mg_law_reads T.F_law_reads.kp T.b_law_reads .nil pass0 (pa_cons (pe_join pe_str (pe_op op_cat (pe_op op_cat (pe_slice sl_list (pv 3) po_none (po_some (pv 4))) (pe_lst (pa_cons (pe_call (ok_law_pick T) (hr.mono (by decide)) (by rfl) T.mg_law_pick T.F_law_pick.kp T.b_law_pick .nil pass0 (pa_cons (pv 0) (pa_cons (pv 8) pa_nil))) pa_nil))) (pe_slice sl_list (pv 3) (po_some (pe_op op_add (pv 4) pe_int)) po_none))) pa_nil)) (pe_op op_add (pv 4) pe_int) (nomark _))
      (pss_one (ps_ret pe_bl))
      pss_nil)
    (pss_cons (ps_if (PW.pt (pw_or (pt_cmpR op_ne (pe_call (ok_law_reads T) (hr.mono (by decide)) (by rfl) T.mg_law_reads T.F_law_reads.kp T.b_law_reads .nil pass0 (pa_cons (pe_op op_add_str (pv 5) pe_str) pa_nil)) (pe_op op_add (pe_callB (c_lenK (K := K)) (by rfl) T.len (by decide +kernel) (pa_cons (pv 3) pa_nil)) pe_int) (nomark _)) (pw_or (pt_cmpR op_ne (pe_call (ok_law_reads T) (hr.mono (by decide)) (by rfl) T.mg_law_reads T.F_law_reads.kp T.b_law_reads .nil pass0 (pa_cons (pe_ix (ix_listK (K := K)) (pv 3) pe_int (fun _ _ => rfl)) pa_nil)) pe_int (nomark _)) (pw_or1 (pt_cmpR op_ne (pe_call (ok_law_reads T) (hr.mono (by decide)) (by rfl) T.mg_law_reads T.F_law_reads.kp T.b_law_reads .nil pass0 (pa_cons pe_str pa_nil)) pe_int (nomark _))))))
      (pss_one (ps_ret pe_bl))
      pss_nil)
    (pss_cons (ps_if (pt_cmpR op_ne (pe_call (ok_law_reads T) (hr.mono (by decide)) (by rfl) T.mg_law_reads T.F_law_reads.kp T.b_law_reads .nil pass0 (pa_cons (pe_join pe_str (pe_op op_cat (pe_slice sl_list (pv 3) po_none (po_some (pe_op op_add (pv 4) pe_int))) (pe_slice sl_list (pv 3) (po_some (pv 4)) po_none))) pa_nil)) (pe_op op_add (pv 4) pe_int) (nomark _))
      (pss_one (ps_ret pe_bl))
      pss_nil)
    (pss_cons (ps_for PassesOwn.never rfl (pi_tup (pe_tup (pa_cons pe_str (pa_cons pe_str (pa_cons pe_str (pa_cons pe_str (pa_cons pe_str (pa_cons pe_str pa_nil)))))))) (pg_name (i := 9) sc_law_case_right.nd rfl (Or.inl rfl))
      (pss_one (ps_if (pt_cmpR op_ne (pe_call (ok_law_reads T) (hr.mono (by decide)) (by rfl) T.mg_law_reads T.F_law_reads.kp T.b_law_reads .nil pass0 (pa_cons (pv 9) pa_nil)) pe_int (nomark _))
        (pss_one (ps_ret pe_bl))
        pss_nil)))
    (pss_one (ps_ret (pe_and (pe_cmpR op_eq (pe_call (ok_law_reads T) (hr.mono (by decide)) (by rfl) T.mg_law_reads T.F_law_reads.kp T.b_law_reads .nil pass0 (pa_cons pe_str pa_nil)) pe_int (nomark _)) (pe_and (pe_cmpR op_eq (pe_call (ok_law_reads T) (hr.mono (by decide)) (by rfl) T.mg_law_reads T.F_law_reads.kp T.b_law_reads .nil pass0 (pa_cons pe_str pa_nil)) pe_int (nomark _)) (pe_one (pe_cmpR op_eq (pe_call (ok_law_reads T) (hr.mono (by decide)) (by rfl) T.mg_law_reads T.F_law_reads.kp T.b_law_reads .nil pass0 (pa_cons pe_str pa_nil)) pe_int (nomark _))))))))))))))))))))), ?_⟩
    walk_at "st"
    refine ⟨b, 5, rfl, hb, by omega, by omega, fun r x y z r0 r1 => ?_⟩
    walk_at "st"
    have eS : ((1 : Int) + r) = ((r.toNat + 1 : Nat) : Int) := by omega
    rw [eS]
    refine ⟨b, 12, r.toNat + 1, rfl, Box.mk, by omega, by omega, by omega, by omega, fun p qs ts n H1 k1 b1 tab g hsg hn12 hpb hbq => ?_⟩
    have K1 : Keep (· = b) H H1 := Keep.trans (Keep.at Keep.refl) k1
    clear k1 eS r0 r1
    walk_at "st"
    intro dv ddx hdv0 hddx hdne
    refine mk_dev1 hdv0 hddx hdne tab g fun H2 s2 hd => ?_
    clear hdv0 hddx hdne ddx
    have K2 := Keep.trans K1 (Keep.of s2)
    have b2 := b1.keep s2
    have tab2 := tab.mono s2
    have hd' := hd
    obtain ⟨dx, tp, rs, hdx, _⟩ := hd'
    walk_at "st"
    refine ⟨dv, _, dx, _, _, rfl, hdx, T.cl_Device, T.n_Device_states, rfl, ?_⟩
    walk_at "st"
    refine r_str (log_small (by have := g.n60; omega)) ?_
    walk_at "st"
    have n60 := g.n60
    have l5 := g.l5
    have hhl := head_len n60
    refine ⟨Str.ofString "states ", istr (n : Int), rfl, rfl, ?_, ?_⟩
    · have h1 : (headL n).length = (Str.ofString "states ").length + (istr (n : Int)).length := Str.length_append _ _
      rw [← h1]
      exact Nat.le_trans hhl (by decide)
    show (fun x H1 => _) (V.str (headL n)) H2
    walk_at "st"
    refine ⟨by show 1 ≤ sizeLine; decide, fun L hL => ?_⟩
    walk_at "st"
    refine r_for ?_
    walk_at "st"
    have s3 : Same H2 (upd H2 L (.lst [.str (headL n)])) := Same.mk hL
    refine r_lenL (SqL.of (s3 _ _ tab2.1)) ?_
    walk_at "st"
    have lq : (qs.map V.ref).length = ts.length := by rw [List.length_map, tab2.2.1]
    rw [lq]
    refine ⟨(ts.length : Nat), rfl, by omega, by omega, ?_⟩
    rw [Int.toNat_natCast]
    refine for_range (lo := 0) (n := ts.length) (fun i σ H' => (∃ v4, σ = [some (.ref b), some (.ref p), some (.ref dv), some (.ref L), v4, none, none, none, none, none, none]) ∧ Same H2 H' ∧ H' L = some (.lst ((headL n :: rowsL 0 (ts.take i)).map V.str)))
      ⟨⟨_, rfl⟩, s3, upd_same⟩ ?_ ?_
    · rintro i σ H' hi ⟨⟨v4, rfl⟩, t1, t2⟩
      have e0 : (0 : Int) + (i : Nat) = (i : Nat) := Int.zero_add _
      rw [e0]
      obtain ⟨t, ht⟩ : ∃ t, ts[i]? = some t := ⟨_, List.getElem?_eq_getElem hi⟩
      have rt := g.rows t (List.mem_of_getElem? ht)
      obtain ⟨qi, hqi⟩ : ∃ qi, qs[i]? = some qi := ⟨_, List.getElem?_eq_getElem (by rw [List.length_map] at lq; omega)⟩
      have htq3 := t1 _ _ (tab2.2.2 i qi t hqi ht)
      walk_at "st"
      refine r_tyL t2 ?_
      walk_at "st"
      have at5 : atI (Str.ofString "abcde").cps.toList (i : Int) = some (97 + i) := by
        refine atI_nat ?_
        have e : (Str.ofString "abcde").cps.toList = [97, 98, 99, 100, 101] := by decide +kernel
        rw [e]
        have : i = 0 ∨ i = 1 ∨ i = 2 ∨ i = 3 ∨ i = 4 := by omega
        rcases this with h | h | h | h | h <;> rw [h] <;> rfl
      refine ⟨_, i, 97 + i, rfl, rfl, by decide +kernel, at5, ?_⟩
      walk_at "st"
      refine ⟨by show 1 ≤ sizeLine; decide, fun A1 hA1 => ?_⟩
      have s4 : Same H' (upd H' A1 (.lst [.str ⟨#[97 + i]⟩])) := Same.mk hA1
      have s24 := t1.trans s4
      refine r_lc0 ?_
      walk_at "st"
      refine r_ixL (v := .ref qi) (SqL.of (s24 _ _ tab2.1)) (atI_nat (by rw [List.getElem?_map, hqi]; rfl)) ?_
      refine r_lcL (S := fun _ => False) (fun _ k acc H'' => Same (upd H' A1 (.lst [.str ⟨#[97 + i]⟩])) H'' ∧ acc = ((t.take k).map istr).map V.str) (SqL.of (s4 _ _ htq3)) (fun _ z => z.elim) (by rw [List.length_map]; omega)
        (fun D k acc H' o hD ⟨e1, e2⟩ => ⟨Same.put e1 hD, e2⟩) (fun _ _ => ⟨Same.refl _, rfl⟩) (fun _ k acc H' e => SqL.of (e.1 _ _ (s4 _ _ htq3))) ?_ ?_ (fun R q => q)
      · intro D i' z acc H'' hi' hz hD hD' ⟨e1, e2⟩ Q' q'
        obtain ⟨z', hz', rfl⟩ : ∃ z', t[i']? = some z' ∧ V.int z' = z := by
          rw [List.getElem?_map] at hz
          exact Option.map_eq_some_iff.mp hz
        have hzb := rt.2 z' (List.mem_of_getElem? hz')
        walk_at "st"
        refine r_str (log_small (by omega)) ?_
        refine q' _ _ ⟨e1, ?_⟩ Keep.refl
        rw [e2, List.take_add_one, hz', List.map_append, List.map_append]
        rfl
      · intro D acc H'' hD ⟨e1, e2⟩ hD' hlen
        have e3 : t.take (t.map V.int).length = t := by rw [List.length_map, List.take_length]
        rw [e3] at e2
        rw [e2] at hD'
        refine r_cat (e1 _ _ upd_same) hD' (by simp only [List.length_map, List.length_cons, List.length_nil]; omega) fun A2 hA2 => ?_
        have er : [V.str ⟨#[97 + i]⟩] ++ (t.map istr).map V.str = (sgn i :: t.map istr).map V.str := rfl
        rw [er]
        walk_at "st"
        refine ⟨spc, A2, sgn i :: t.map istr, rfl, rfl, .inl (SqL.of upd_same), Nat.le_trans (row_words n60 rt) (by decide), ?_⟩
        walk_at "st"
        have s5 : Same H' (upd H'' A2 (.lst ((sgn i :: t.map istr).map V.str))) := Same.put (s4.trans e1) (Same.free (s4.trans e1) hA2)
        refine r_app (s5 _ _ t2) (by simp only [List.length_map, List.length_cons, rowsL_len, List.length_take]; omega) ?_
        refine ⟨⟨_, rfl⟩, ?_, ?_⟩
        · intro b o e
          have ne : b ≠ L := ne_of_none e hL
          rw [upd_ne ne]
          exact s5 _ _ (t1 _ _ e)
        · rw [upd_same, List.take_add_one, ht]
          show some (HO.lst (_ ++ [V.str (rowL i t)])) = _
          have e6 : rowsL 0 (ts.take i ++ (some t).toList) = rowsL 0 (ts.take i) ++ [rowL i t] := by
            rw [rowsL_app]
            have e7 : (ts.take i).length = i := by rw [List.length_take]; omega
            rw [e7, Nat.zero_add]
            rfl
          rw [e6]
          simp
    · rintro σ H3 ⟨⟨v4, rfl⟩, t1, t2⟩
      rw [List.take_length] at t2
      walk_at "st"
      refine ⟨nlS, L, linesL ts n, rfl, rfl, .inl (SqL.of t2), Nat.le_trans (lines_sum g).1 (by decide), ?_⟩
      show (fun x H1 => _) (V.str (textL ts n)) H3
      walk_at "st"
      refine r_callK (r_cons (r_var rfl (r_nil ?_)))
      refine ⟨dv, ts, n, rfl, hd.mono t1, fun H4 u4 => ?_⟩
      have tx : Txt.join nlS (linesL ts n) = textL ts n := rfl
      rw [tx]
      walk_at "st"
      refine brNT (decide_eq_true rfl) ?_
      have htl : (textL ts n).length ≤ 2000 := Nat.le_trans (join_len _ _) (lines_sum g).1
      walk_at "st"
      refine reads_fine (fine_text g) (Nat.le_trans htl (by decide)) fun d1 H5 u5 hd1 => ?_
      walk_at "st"
      refine own_ne hd1 (hd.mono (t1.trans (u4.trans u5))) ?_
      walk_at "st"
      refine reads_none (nm := "int") (.base (.int 0)) (by decide +kernel) fun H6 u6 => ?_
      walk_at "st"
      refine brNT (decide_eq_true rfl) ?_
      walk_at "st"
      refine reads_none (nm := "NoneType") (.base .non) (by decide +kernel) fun H7 u7 => ?_
      walk_at "st"
      refine brNT (decide_eq_true rfl) ?_
      walk_at "st"
      refine ⟨by show 1 ≤ sizeLine; decide, fun o1 ho1 => ?_⟩
      walk_at "st"
      refine reads_none (nm := "list") (.base (.lst upd_same)) (by decide +kernel) fun H8 u8 => ?_
      walk_at "st"
      refine brNT (decide_eq_true rfl) ?_
      have t3 : Same H3 H8 := u4.trans (u5.trans (u6.trans (u7.trans ((Same.mk ho1).trans u8))))
      clear u4 u5 u6 u7 u8 hd1
      have hL8 := t3 _ _ t2
      have K3 := Keep.trans K2 (Keep.of (t1.trans t3))
      have b3 := b2.keep (t1.trans t3)
      have hLb : L ≠ b := fun z => b2.some (by rw [← z]; exact hL)
      clear t1 t2 t3 b2 K2 K1 s3 tab2 tab hd hdx s2 hpb hbq
      walk_at "st"
      refine r_lenL (SqL.of hL8) ?_
      have hln : (List.map V.str (headL n :: rowsL 0 ts)).length = ts.length + 1 := by
        rw [List.length_map, List.length_cons, rowsL_len]
      rw [hln]
      walk_at "st"
      refine ⟨b, ((ts.length + 1 : Nat) : Int), rfl, b3, by omega, by omega, fun r' x' y' z' q0 q1 => ?_⟩
      obtain ⟨i, rfl⟩ : ∃ i : Nat, r' = (i : Nat) := ⟨r'.toNat, by omega⟩
      have hi : i ≤ ts.length := by omega
      have K9 : Keep (· = b) H (upd H8 b (.lst [.int x', .int y', .int z'])) := Keep.at K3
      have hL9 : upd H8 b (.lst [.int x', .int y', .int z']) L = some (.lst ((linesL ts n).map V.str)) := by rw [upd_ne hLb]; exact hL8
      have b9 : Box (upd H8 b (.lst [.int x', .int y', .int z'])) b := Box.mk
      generalize upd H8 b (.lst [.int x', .int y', .int z']) = H9 at K9 hL9 b9 ⊢
      clear hL8 K3 b3 q0 q1 ho1 hhl tx
      obtain ⟨l, wl, hl, IL⟩ := line_at g hi
      walk_at "st"
      refine r_ixL (v := .str l) (SqL.of hL9) (atI_nat (by rw [List.getElem?_map, hl]; rfl)) ?_
      walk_at "st"
      have wll : wordsOf l = wl := by
        rw [IL.eq]
        refine wordsOf_join (fun z => ?_) fun w hw => (words_free IL w hw).1
        have := IL.head
        rw [z] at this
        cases this
      have hsm := IL.small
      refine r_split (by decide +kernel) (by omega) fun p1 hp1 => ?_
      walk_at "st"
      have wll' : Txt.split l (Str.ofString " ") = wl := wll
      rw [wll']
      refine r_split (by decide +kernel) (by omega) fun p2 hp2 => ?_
      rw [wll']
      walk_at "st"
      refine r_lenL (SqL.of upd_same) ?_
      walk_at "st"
      have s10 := Same.mk (o := .lst (wl.map V.str)) hp1
      have s11 := s10.trans (Same.mk (o := .lst (wl.map V.str)) hp2)
      have wl2 : 2 ≤ wl.length := by
        have h1 := IL.len
        have n0 := IL.n0
        by_cases z : i = 0
        · rw [if_pos z] at h1; omega
        · rw [if_neg z] at h1; omega
      refine r_slL (xs := wl.map V.str) (SqL.of (Same.mk hp2 _ _ upd_same)) fun p3 hp3 => ?_
      have ec : cutV (wl.map V.str) none (some (((wl.map V.str).length : Int) - 1)) = wl.dropLast.map V.str := by
        have e1 : (((wl.map V.str).length : Int) - 1) = ((wl.length - 1 : Nat) : Int) := by rw [List.length_map]; omega
        rw [e1, cutV_take, List.dropLast_eq_take, List.map_take]
      rw [ec]
      have s12 := s11.trans (Same.mk (o := .lst (wl.dropLast.map V.str)) hp3)
      obtain ⟨hwn, hww⟩ := split_small (s := spc) spc_ne spc_k hsm
      rw [show Txt.split l spc = wl from wll] at hwn hww
      refine ⟨spc, p3, wl.dropLast, rfl, rfl, .inl (SqL.of upd_same), ?_, ?_⟩
      · have h1 := sum_le (·.length) (b := 300) wl.dropLast fun v hv => hww v (List.dropLast_subset _ hv)
        have h2 : spc.length = 1 := by decide +kernel
        rw [List.length_dropLast] at h1 ⊢
        rw [h2]
        omega
      have hdl := hd_len IL
      have ehd : ∀ v, v ∈ bentL l (Txt.join spc wl.dropLast) → OkBent v i n := bent_ok IL
      generalize Txt.join spc wl.dropLast = hd at hdl ehd ⊢
      have hL12 := s12 _ _ hL9
      have b12 := b9.keep s12
      have K12 := K9.trans (Keep.of s12)
      generalize upd (upd (upd H9 p1 (.lst (wl.map V.str))) p2 (.lst (wl.map V.str))) p3 (.lst (wl.dropLast.map V.str)) = H12 at hL12 b12 K12 ⊢
      clear s12 s11 s10 ec hp1 hp2 hp3 hwn hww wll wll' hL9 b9 K9 p1 p2 p3
      walk_at "st"
      have hl5 : l.length ≤ 5000 := by omega
      have hd5 : hd.length ≤ 5000 := by omega
      refine ⟨_, _, rfl, rfl, addle (by first | assumption | decide +kernel) (by first | assumption | decide +kernel), ?_⟩
      walk_at "st"
      refine ⟨_, _, rfl, rfl, addle (by first | assumption | decide +kernel) (by first | assumption | decide +kernel), ?_⟩
      walk_at "st"
      refine ⟨_, _, rfl, rfl, addle (by first | assumption | decide +kernel) (by first | assumption | decide +kernel), ?_⟩
      walk_at "st"
      refine r_slS (by omega) ?_
      walk_at "st"
      refine ⟨l, rfl, rfl, by omega, ?_⟩
      walk_at "st"
      refine ⟨_, _, rfl, rfl, addle (by first | assumption | decide +kernel) (by first | assumption | decide +kernel), ?_⟩
      walk_at "st"
      refine ⟨_, _, rfl, rfl, addle (by first | assumption | decide +kernel) (by first | assumption | decide +kernel), ?_⟩
      walk_at "st"
      refine ⟨_, _, rfl, rfl, addle (by first | assumption | decide +kernel) (by first | assumption | decide +kernel), ?_⟩
      walk_at "st"
      refine ⟨_, _, rfl, rfl, addle (by first | assumption | decide +kernel) (by first | assumption | decide +kernel), ?_⟩
      walk_at "st"
      refine ⟨_, _, rfl, rfl, addle (by first | assumption | decide +kernel) (by first | assumption | decide +kernel), ?_⟩
      walk_at "st"
      refine ⟨_, _, rfl, rfl, addle (by first | assumption | decide +kernel) (by first | assumption | decide +kernel), ?_⟩
      walk_at "st"
      refine ⟨by show 13 ≤ sizeLine; decide, fun p4 hp4 => ?_⟩
      have ebl : (HO.lst [V.str (l ++ Str.ofString " "), V.str (Str.ofString " " ++ l), V.str (Str.ofString ""), V.str (l ++ Str.ofString " 0"), V.str (cutS l (some 1) none), V.str (Txt.upper l), V.str hd, V.str (hd ++ Str.ofString " "), V.str (hd ++ Str.ofString " 00"), V.str (hd ++ Str.ofString " 61"), V.str (hd ++ Str.ofString " -1"), V.str (hd ++ Str.ofString " x"), V.str (l ++ Str.ofString "?")]) = .lst ((bentL l hd).map V.str) := rfl
      rw [ebl]
      have h4b : p4 ≠ b := fun z => b12.some (by rw [← z]; exact hp4)
      have s13 := Same.mk (o := .lst ((bentL l hd).map V.str)) hp4
      have hL13 := s13 _ _ hL12
      have b13 := b12.keep s13
      have K13 := K12.trans (Keep.of s13)
      have h13 : upd H12 p4 (.lst ((bentL l hd).map V.str)) p4 = some (.lst ((bentL l hd).map V.str)) := upd_same
      generalize upd H12 p4 (.lst ((bentL l hd).map V.str)) = H13 at hL13 b13 K13 h13 ⊢
      clear s13 hL12 b12 K12 hp4 ebl
      walk_at "st"
      have hlnl : (linesL ts n).length = ts.length + 1 := by
        show (rowsL 0 ts).length + 1 = _
        rw [rowsL_len]
      have hlsm := (lines_sum g).2
      have hlfr := lines_free g
      refine r_slL (xs := (linesL ts n).map V.str) (SqL.of hL13) fun c1 hc1 => ?_
      rw [take_map]
      have s14 := Same.mk (o := .lst (((linesL ts n).take i).map V.str)) hc1
      walk_at "st"
      have hc1b : c1 ≠ b := fun z => b13.some (by rw [← z]; exact hc1)
      have hbl : ((bentL l hd).map V.str).length = 13 := rfl
      refine ⟨b, p4, (bentL l hd).map V.str, rfl, b13.keep s14, SqL.of (s14 _ _ h13), h4b, by rw [hbl]; decide, by rw [hbl]; decide, fun H' k => SqL.of (k _ _ h4b (s14 _ _ h13)), fun v xx yy zz hv => ?_⟩
      obtain ⟨u, hu, rfl⟩ := List.mem_map.mp hv
      have ob := ehd u hu
      clear hv hu ehd
      have K15 := Keep.at (o := .lst [.int xx, .int yy, .int zz]) (K13.trans (Keep.of s14))
      have hL15 : upd (upd H13 c1 (.lst (((linesL ts n).take i).map V.str))) b (.lst [.int xx, .int yy, .int zz]) L = some (.lst ((linesL ts n).map V.str)) := by rw [upd_ne hLb]; exact s14 _ _ hL13
      have hc15 : upd (upd H13 c1 (.lst (((linesL ts n).take i).map V.str))) b (.lst [.int xx, .int yy, .int zz]) c1 = some (.lst (((linesL ts n).take i).map V.str)) := by rw [upd_ne hc1b]; exact upd_same
      generalize upd (upd H13 c1 (.lst (((linesL ts n).take i).map V.str))) b (.lst [.int xx, .int yy, .int zz]) = H15 at K15 hL15 hc15 ⊢
      clear s14 hL13 b13 K13 h13 hc1 hc1b hbl h4b
      walk_at "st"
      refine ⟨by show 1 ≤ sizeLine; decide, fun c2 hc2 => ?_⟩
      have s16 := Same.mk (o := .lst [.str u]) hc2
      refine r_cat (s16 _ _ hc15) upd_same (by simp only [List.length_map, List.length_take, List.length_cons, List.length_nil]; omega) fun c3 hc3 => ?_
      have s17 := s16.trans (Same.mk (o := .lst (((linesL ts n).take i).map V.str ++ [V.str u])) hc3)
      walk_at "st"
      have ei1 : ((i : Nat) : Int) + 1 = ((i + 1 : Nat) : Int) := rfl
      rw [ei1]
      refine r_slL (xs := (linesL ts n).map V.str) (SqL.of (s17 _ _ hL15)) fun c4 hc4 => ?_
      rw [drop_map]
      have s18 := s17.trans (Same.mk (o := .lst (((linesL ts n).drop (i + 1)).map V.str)) hc4)
      refine r_cat (Same.mk hc4 _ _ upd_same) upd_same (by simp only [List.length_append, List.length_map, List.length_take, List.length_drop, List.length_cons, List.length_nil]; omega) fun c5 hc5 => ?_
      have ecat : ((linesL ts n).take i).map V.str ++ [V.str u] ++ ((linesL ts n).drop (i + 1)).map V.str = ((linesL ts n).take i ++ [u] ++ (linesL ts n).drop (i + 1)).map V.str := by simp
      rw [ecat]
      have s19 := s18.trans (Same.mk (o := .lst (((linesL ts n).take i ++ [u] ++ (linesL ts n).drop (i + 1)).map V.str)) hc5)
      have hmem : ∀ v ∈ (linesL ts n).take i ++ [u] ++ (linesL ts n).drop (i + 1), v.length ≤ 900 ∧ 10 ∉ tl v := fun v hv => by
        rcases List.mem_append.mp hv with z | z
        · rcases List.mem_append.mp z with z | z
          · have := List.mem_of_mem_take z
            exact ⟨Nat.le_trans (hlsm v this) (by decide), hlfr v this⟩
          · rw [List.mem_singleton.mp z]; exact ⟨ob.small, ob.free⟩
        · have := List.mem_of_mem_drop z
          exact ⟨Nat.le_trans (hlsm v this) (by decide), hlfr v this⟩
      have hsz := lines_small (ls := (linesL ts n).take i ++ [u] ++ (linesL ts n).drop (i + 1)) (k := 7) (by simp only [List.length_append, List.length_take, List.length_drop, List.length_cons, List.length_nil]; omega) (by decide) fun v hv => (hmem v hv).1
      refine ⟨nlS, c5, (linesL ts n).take i ++ [u] ++ (linesL ts n).drop (i + 1), rfl, rfl, .inl (SqL.of upd_same), Nat.le_trans hsz (by decide), ?_⟩
      walk_at "st"
      refine reads_bad (bad_line g (i := i) (v := u) (fun v hv => (hmem v hv).2) (fun j hj => ?_) ?_ ob.wrong (by omega)) (Nat.le_trans (join_len _ _) (Nat.le_trans hsz (by decide))) fun H20 s20 => ?_
      · rw [List.append_assoc, List.getElem?_append_left (by rw [List.length_take]; omega), List.getElem?_take_of_lt hj]
      · rw [List.append_assoc, List.getElem?_append_right (by rw [List.length_take]; omega), List.length_take]
        have : i - min i (linesL ts n).length = 0 := by omega
        rw [this]; rfl
      walk_at "st"
      refine brNT (decide_eq_true rfl) ?_
      have hL20 := s20 _ _ (s19 _ _ hL15)
      have K20 := K15.trans (Keep.of (s19.trans s20))
      clear s16 s17 s18 s19 s20 hL15 hc15 K15 ecat hmem hsz ob hc2 hc3 hc4 hc5
      walk_at "st"
      refine ⟨_, _, rfl, rfl, addle (Nat.le_trans htl (by decide)) (by decide +kernel), ?_⟩
      walk_at "st"
      have eN : ((textL ts n) ++ Str.ofString "\n").length ≤ 9000 := by
        rw [Str.length_append, show (Str.ofString "\n").length = 1 by decide +kernel]; omega
      refine reads_bad (bad_more g) eN fun H21 s21 => ?_
      walk_at "st"
      refine r_lenL (SqL.of (s21 _ _ hL20)) ?_
      walk_at "st"
      refine brNT (decide_eq_true (by rw [List.length_map, hlnl]; rfl)) ?_
      walk_at "st"
      refine r_ixL (v := .str (headL n)) (SqL.of (s21 _ _ hL20)) (atI_nat (j := 0) rfl) ?_
      walk_at "st"
      have hhead : headL n ∈ linesL ts n := List.mem_cons_self ..
      refine reads_bad (bad_two (hlfr _ hhead) (by rw [rstates_head g.n0 g.n60]; have := g.n0; omega)) (Nat.le_trans (hlsm _ hhead) (by decide)) fun H22 s22 => ?_
      walk_at "st"
      refine brNT (decide_eq_true rfl) ?_
      walk_at "st"
      refine reads_bad odd7 (by decide +kernel) fun H23 s23 => ?_
      walk_at "st"
      refine brNT (decide_eq_true rfl) ?_
      have s24 := s21.trans (s22.trans s23)
      walk_at "st"
      refine r_slL (xs := (linesL ts n).map V.str) (SqL.of (s24 _ _ hL20)) fun c1 hc1 => ?_
      rw [ei1, take_map]
      have s25 := s24.trans (Same.mk (o := .lst (((linesL ts n).take (i + 1)).map V.str)) hc1)
      walk_at "st"
      refine r_slL (xs := (linesL ts n).map V.str) (SqL.of (s25 _ _ hL20)) fun c2 hc2 => ?_
      rw [drop_map]
      have s26 := s25.trans (Same.mk (o := .lst (((linesL ts n).drop i).map V.str)) hc2)
      refine r_cat (Same.mk hc2 _ _ upd_same) upd_same (by simp only [List.length_map, List.length_take, List.length_drop]; omega) fun c3 hc3 => ?_
      rw [← List.map_append]
      have s27 := s26.trans (Same.mk (o := .lst (((linesL ts n).take (i + 1) ++ (linesL ts n).drop i).map V.str)) hc3)
      have hmem : ∀ v ∈ (linesL ts n).take (i + 1) ++ (linesL ts n).drop i, v.length ≤ 900 ∧ 10 ∉ tl v := fun v hv => by
        have hm : v ∈ linesL ts n := by
          rcases List.mem_append.mp hv with z | z
          · exact List.mem_of_mem_take z
          · exact List.mem_of_mem_drop z
        exact ⟨Nat.le_trans (hlsm v hm) (by decide), hlfr v hm⟩
      have hsz := lines_small (ls := (linesL ts n).take (i + 1) ++ (linesL ts n).drop i) (k := 8) (by simp only [List.length_append, List.length_take, List.length_drop]; omega) (by decide) fun v hv => (hmem v hv).1
      refine ⟨nlS, c3, (linesL ts n).take (i + 1) ++ (linesL ts n).drop i, rfl, rfl, .inl (SqL.of upd_same), Nat.le_trans hsz (by decide), ?_⟩
      walk_at "st"
      refine reads_bad (bad_line g (i := i + 1) (v := l) (fun v hv => (hmem v hv).2) (fun j hj => ?_) ?_ (dup_wrong IL) (by omega)) (Nat.le_trans (join_len _ _) (Nat.le_trans hsz (by decide))) fun H28 s28 => ?_
      · rw [List.getElem?_append_left (by rw [List.length_take]; omega), List.getElem?_take_of_lt hj]
      · rw [List.getElem?_append_right (by rw [List.length_take]; omega), List.length_take, List.getElem?_drop]
        have : i + (i + 1 - min (i + 1) (linesL ts n).length) = i := by omega
        rw [this]; exact hl
      walk_at "st"
      refine brNT (decide_eq_true rfl) ?_
      have K28 := K20.trans (Keep.of (s27.trans s28))
      clear s21 s22 s23 s24 s25 s26 s27 s28 hL20 K20 hmem hsz hc1 hc2 hc3 eN hhead hlsm hlfr ei1 IL hl hln hlnl lq hL hLb hl5 hd5 hdl hsm
      walk_at "st"
      refine r_for ?_
      walk_at "st"
      refine ⟨by show 6 ≤ sizeLine; decide, fun to hto => ?_⟩
      have s29 := Same.mk (o := .tup [V.str (Str.ofString "states 0\na"), V.str (Str.ofString "states 61\na"), V.str (Str.ofString "states 01\na 0"), V.str (Str.ofString "state 1\na 0"), V.str (Str.ofString "states 1 \na 0"), V.str (Str.ofString "states -1\na 0")]) hto
      refine ⟨to, rfl, ⟨_, SqT.of upd_same⟩, ?_⟩
      refine for_tup (K := K) (a := to) (fun _ σ H' => (∃ v9, σ = [some (V.ref b), some (V.ref p), some (V.ref dv), some (V.ref L), some (V.int (i : Nat)), some (V.str (textL ts n)), some (V.str l), some (V.str hd), some (V.ref p4), v9, none]) ∧
        Same (upd H28 to (.tup [V.str (Str.ofString "states 0\na"), V.str (Str.ofString "states 61\na"), V.str (Str.ofString "states 01\na 0"), V.str (Str.ofString "state 1\na 0"), V.str (Str.ofString "states 1 \na 0"), V.str (Str.ofString "states -1\na 0")])) H') ⟨⟨_, rfl⟩, Same.refl _⟩ (fun i σ H' _ z => SqT.of (z.2 _ _ upd_same)) ?_ ?_
      · rintro j x σ H' hx ⟨⟨v9, rfl⟩, u1⟩
        obtain ⟨y, hy, hyl, rfl⟩ : ∃ y, Bad y 1 ∧ y.length ≤ 9000 ∧ x = .str y := by
          have hm := List.mem_of_getElem? hx
          simp only [List.mem_cons, List.not_mem_nil, or_false] at hm
          rcases hm with e | e | e | e | e | e
          · exact ⟨_, odd1, by decide +kernel, e⟩
          · exact ⟨_, odd2, by decide +kernel, e⟩
          · exact ⟨_, odd3, by decide +kernel, e⟩
          · exact ⟨_, odd4, by decide +kernel, e⟩
          · exact ⟨_, odd5, by decide +kernel, e⟩
          · exact ⟨_, odd6, by decide +kernel, e⟩
        walk_at "st"
        refine reads_bad hy hyl fun H30 u2 => ?_
        walk_at "st"
        refine brNT (decide_eq_true rfl) ?_
        walk_at "st"
        exact ⟨⟨_, rfl⟩, u1.trans u2⟩
      · rintro σ H' ⟨⟨v9, rfl⟩, u1⟩
        walk_at "st"
        refine reads_bad odd8 (by decide +kernel) fun H30 u2 => ?_
        walk_at "st"
        refine brT (decide_eq_true rfl) ?_
        walk_at "st"
        refine reads_bad odd9 (by decide +kernel) fun H31 u3 => ?_
        walk_at "st"
        refine brT (decide_eq_true rfl) ?_
        walk_at "st"
        refine reads_bad odd10 (by decide +kernel) fun H32 u4 => ?_
        walk_at "st"
        exact q H32 (K28.trans (Keep.of (s29.trans (u1.trans (u2.trans (u3.trans u4))))))
end
end Bk

set_option Elab.async false
set_option linter.all false
set_option maxRecDepth 100000
set_option maxHeartbeats 16000000
namespace Bk
open PySem PySem.Spec PyProof.Rows L2 TL
/-- the walk that needs no fact -/
local macro_rules | `(tactic| walk_at "go1") => `(tactic| with_reducible first
  | refine r_seq ?_ | refine r_set ?_ | refine r_ret ?_ | refine r_drop ?_ | refine r_ifS ?_ | refine r_next ?_ | refine r_asg ?_ | refine r_gSub ?_
  | refine r_var rfl ?_ | refine r_c ?_ | refine r_op ?_ | refine r_un ?_ | refine r_I0 ?_ | refine r_U ?_ | refine r_cons ?_ | refine r_nil ?_ | refine r_CB ?_ | refine r_call ?_
  | refine r_test ?_ | refine r_B ?_ | refine r_not ?_ | refine r_and ?_ | refine r_or ?_ | refine r_andV ?_ | refine r_orV ?_ | refine r_notV ?_ | refine r_if ?_ | refine r_exb ?_ | refine r_exc ?_
  | refine brTT ?_ | refine brFF ?_ | refine brNTT ?_ | refine brNFF ?_ | refine r_chain ?_ | refine r_sl ?_ | refine r_nopart ?_ | refine r_part ?_ | refine r_exi ?_ | refine r_gn ?_ | refine r_make ?_ | refine r_zipS ?_ | refine r_enum ?_ | refine r_rng1 ?_ | refine r_js ?_ | refine r_jn ?_ | refine r_fmt ?_ | refine r_bm ?_ | refine r_isS ?_ | refine r_sfld ?_ | refine r_m0 ?_ | refine r_m1 ?_
  | refine r_lst ?_ | refine r_tup ?_ | refine r_fld ?_ | refine r_int ?_ | refine r_intB ?_ | refine r_abs ?_)
local macro_rules | `(tactic| walk_at "go") => `(tactic| repeat walk_at "go1")
local macro_rules | `(tactic| walk_at "cond") => `(tactic| first
  | (show (0 : Int) < _; first | omega | assumption)
  | exact cdiv (by first | omega | assumption) (by first | omega | assumption)
  | exact cmulL (by omega) (by omega)
  | exact cmulR (by omega) (by omega))
local macro_rules | `(tactic| walk_at "hp") => `(tactic| first | assumption | exact upd_same)
local macro_rules | `(tactic| walk_at "ixL") => `(tactic| ((with_reducible refine' r_ixL (SqL.of ?h) ?a ?_); (case h => walk_at "hp"); (case a => rfl)))
local macro_rules | `(tactic| walk_at "setL") => `(tactic| ((with_reducible refine' r_setL ?h ?a ?_); (case h => walk_at "hp"); (case a => rfl)))
local macro_rules | `(tactic| walk_at "rI") => `(tactic| ((with_reducible refine r_I ?c ?_); (case c => walk_at "cond")))
local macro_rules | `(tactic| walk_at "eqs") => `(tactic| first | (with_reducible first | refine r_eqI ?_ | refine r_neI ?_ | refine r_eqS ?_ | refine r_neS ?_) | ((with_reducible first | refine r_eq ?c ?_ | refine r_ne ?c ?_); (case c => rfl)))
local macro_rules | `(tactic| walk_at "st1") => `(tactic| first
  | walk_at "go1"
  | walk_at "rI" | walk_at "ixL" | walk_at "setL" | walk_at "eqs")
local macro_rules | `(tactic| walk_at "st") => `(tactic| repeat walk_at "st1")
theorem sql_same {K : PySem.W.Frag} {H H' : Hp} {p : Addr} {xs : List V} (h : SqL K H p xs) (e : Same H H') : SqL K H' p xs := by
  rcases h with (h | ⟨o, h⟩) | h
  · exact .inl (.inl (e _ _ h))
  · exact .inl (.inr ⟨o, e _ _ h⟩)
  · exact .inr h
section
variable {P : Program} {w : World} {K : PySem.W.Frag} {mg : Str → Option Value} {base : Heap} {a : Ad}
def sp_law (K : PySem.W.Frag) : Sp := fun vs H Q _ => ∃ (p : Addr) (ns : List Int), vs = [.ref p] ∧ SqL K H p (ns.map V.int) ∧ ns.length ≤ 63 ∧ ∀ H', Q (.bl true) H'
theorem ok_law (T : Txt K mg a) : FnOk P w K mg base CX0 20 a.f_law a.d_law P_law (sp_law K) := by
  refine T.F_law.ok sc_law (fun vs H Q E h => ?_) (fun cdv A outer s H vs Q E hr h => ?_)
  · obtain ⟨p, ns, rfl, _⟩ := h
    rfl
  · obtain ⟨p, ns, rfl, hp, hl, k⟩ := h
    refine ⟨_, (pss_cons (ps_for PassesOwn.never rfl (pi_range1 (by rfl) T.range (pa_cons pe_int pa_nil)) (pg_name (i := 1) sc_law.nd rfl (Or.inl rfl))
      (pss_one (ps_if (pt_not (pt_val (pe_call (ok_law_case_right T) (hr.mono (by decide)) (by rfl) T.mg_law_case_right T.F_law_case_right.kp T.b_law_case_right .nil pass0 (pa_cons (pe_call (ok_law_box T) (hr.mono (by decide)) (by rfl) T.mg_law_box T.F_law_box.kp T.b_law_box .nil pass0 (pa_cons (pv 0) (pa_cons (pv 1) pa_nil))) pa_nil))))
        (pss_one (ps_ret pe_bl))
        pss_nil)))
    (pss_cons (ps_set (i := 2) sc_law.nd rfl (Or.inl rfl) (pe_call (ok_law_reads T) (hr.mono (by decide)) (by rfl) T.mg_law_reads T.F_law_reads.kp T.b_law_reads .nil pass0 (pa_cons (pe_op op_add_str pe_str (pe_op op_repS pe_str pe_int)) pa_nil)))
    (pss_cons (ps_if (pt_cmpR op_ne (pe_call (ok_law_reads T) (hr.mono (by decide)) (by rfl) T.mg_law_reads T.F_law_reads.kp T.b_law_reads .nil pass0 (pa_cons pe_str pa_nil)) pe_int (nomark _))
      (pss_one (ps_ret pe_bl))
      pss_nil)
    (pss_one (ps_ret (pe_and (pe_cmpR (op_eqOwn (hr.mono (by decide)) (ok_Device_eq T) T.m_Device_eq.at_ T.m_Device_eq.fn T.b_Device_eq pass0) (pv 2) (pe_make T.M_Device (ok_Device_init T) (hr.mono (by decide)) (by rfl) T.mg_Device T.b_Device_init .nil pass0 (pa_cons (pe_lst (pa_cons (pe_op op_rep (pe_lst (pa_cons pe_int pa_nil)) pe_int) pa_nil)) pa_nil)) (nomark _)) (pe_one (pe_cmpR op_eq (pe_call (ok_law_reads T) (hr.mono (by decide)) (by rfl) T.mg_law_reads T.F_law_reads.kp T.b_law_reads .nil pass0 (pa_cons (pe_op op_add_str pe_str (pe_op op_repS pe_str pe_int)) pa_nil)) pe_int (nomark _))))))))), ?_⟩
    walk_at "st"
    refine r_for ?_
    walk_at "st"
    refine ⟨4, rfl, by decide, by decide, ?_⟩
    refine for_range (lo := 0) (n := 4) (fun i σ H' => (∃ v1, σ = [some (.ref p), v1, none]) ∧ Same H H') ⟨⟨_, rfl⟩, Same.refl _⟩ ?_ ?_
    · rintro i σ H' hi ⟨⟨v1, rfl⟩, s1⟩
      have e0 : (0 : Int) + (i : Nat) = (i : Nat) := Int.zero_add _
      rw [e0]
      walk_at "st"
      refine ⟨p, ns, i, rfl, sql_same hp s1, hl, by omega, fun b H1 s2 b1 hb => ?_⟩
      walk_at "st"
      refine ⟨b, rfl, b1, fun H2 k2 => ?_⟩
      walk_at "st"
      exact ⟨⟨_, rfl⟩, fun c o e => k2 c o (ne_of_none (s1 c o e) hb) (s2 c o (s1 c o e))⟩
    · rintro σ H' ⟨⟨v1, rfl⟩, s1⟩
      walk_at "st"
      refine ⟨Str.ofString " 59", 60, rfl, rfl, by decide, by decide, by decide +kernel, by decide +kernel, ?_⟩
      refine ⟨_, _, rfl, rfl, by decide +kernel, ?_⟩
      walk_at "st"
      refine reads_fine odd13 (by decide +kernel) fun d1 H2 s2 hd1 => ?_
      walk_at "st"
      refine reads_bad odd11 (by decide +kernel) fun H3 s3 => ?_
      walk_at "st"
      refine brNT (decide_eq_true rfl) ?_
      walk_at "st"
      refine ⟨by show 1 ≤ sizeLine; decide, fun q1 hq1 => ?_⟩
      refine ⟨q1, 60, [.int 59], rfl, rfl, upd_same, by decide, by decide, by decide, fun q2 hq2 => ?_⟩
      walk_at "st"
      refine ⟨by show 1 ≤ sizeLine; decide, fun q3 hq3 => ?_⟩
      walk_at "st"
      have s4 : Same H3 (upd (upd (upd H3 q1 (.lst [.int 59])) q2 (.lst (List.replicate (60 : Int).toNat [V.int 59]).flatten)) q3 (.lst [.ref q2])) := (Same.mk hq1).trans ((Same.mk hq2).trans (Same.mk hq3))
      have e60 : (List.replicate (60 : Int).toNat [V.int 59]).flatten = (List.replicate 60 (59 : Int)).map V.int := by decide +kernel
      rw [e60] at s4 hq3 ⊢
      intro x xd hx0 hxd hxn
      refine mk_dev1 hx0 hxd hxn (p := q3) (qs := [q2]) (ts := [List.replicate 60 59]) (n := 60) ⟨upd_same, rfl, fun i q t h1 h2 => ?_⟩ ⟨by decide, by decide, by decide, by decide, fun t ht => ?_⟩ fun H4 s5 hx => ?_
      · cases i with
        | zero =>
          have e1 : q2 = q := Option.some.inj h1
          have e2 : List.replicate 60 (59 : Int) = t := Option.some.inj h2
          rw [← e1, ← e2]
          exact Same.mk hq3 _ _ upd_same
        | succ j => simp at h1
      · rw [List.mem_singleton.mp ht]
        exact ⟨by decide, by decide⟩
      walk_at "st"
      refine own_eq (hd1.mono (s3.trans (s4.trans s5))) hx ?_
      walk_at "st"
      refine ⟨Str.ofString " 60", 60, rfl, rfl, by decide, by decide, by decide +kernel, by decide +kernel, ?_⟩
      refine ⟨_, _, rfl, rfl, by decide +kernel, ?_⟩
      walk_at "st"
      refine reads_bad odd12 (by decide +kernel) fun H5 s6 => ?_
      walk_at "st"
      exact k H5
end
end Bk

namespace Bk
open PySem PySem.Spec PyProof.Rows L2 TL
set_option maxRecDepth 100000
set_option maxHeartbeats 40000000
theorem all_mk {l : PySem.W.OpenLaw} {w : World} {K : PySem.W.Frag} {h : Heap} {mg : Str → Option Value} {fa : Addr} (X : K.In h) (G : h.Ns mainGlobals mg) (hfa : mg "law" = some (.ref fa))
    {f_is_integer f_is_number_to f_is_sequence f_is_sequence_of f_is_table f_checked_tables f_device_text f_read_device f_read_states f_read_table f_read_number f_law_box f_law_take f_law_pick f_law_tables f_law_reads f_law_case_right f_law f_Device_init f_Device_eq f_BadText_init C_Device C_BadText C_BackError C_BadDevice : Addr} {od_is_integer an_is_integer od_is_number_to an_is_number_to od_is_sequence an_is_sequence od_is_sequence_of an_is_sequence_of od_is_table an_is_table od_checked_tables an_checked_tables od_device_text an_device_text od_read_device an_read_device od_read_states an_read_states od_read_table an_read_table od_read_number an_read_number od_law_box an_law_box od_law_take an_law_take od_law_pick an_law_pick od_law_tables an_law_tables od_law_reads an_law_reads od_law_case_right an_law_case_right od_law an_law od_Device_init an_Device_init od_Device_eq an_Device_eq od_BadText_init an_BadText_init : Option Addr} {sl_is_integer sl_is_number_to sl_is_sequence sl_is_sequence_of sl_is_table sl_checked_tables sl_device_text sl_read_device sl_read_states sl_read_table sl_read_number sl_law_box sl_law_take sl_law_pick sl_law_tables sl_law_reads sl_law_case_right sl_law sl_Device_init sl_Device_eq sl_BadText_init : Array (Option Value)} {oc_is_integer kV_is_integer dc_is_integer pm_is_integer cd_is_integer ct_is_integer oc_is_number_to kV_is_number_to dc_is_number_to pm_is_number_to cd_is_number_to ct_is_number_to oc_is_sequence kV_is_sequence dc_is_sequence pm_is_sequence cd_is_sequence ct_is_sequence oc_is_sequence_of kV_is_sequence_of dc_is_sequence_of pm_is_sequence_of cd_is_sequence_of ct_is_sequence_of oc_is_table kV_is_table dc_is_table pm_is_table cd_is_table ct_is_table oc_checked_tables kV_checked_tables dc_checked_tables pm_checked_tables cd_checked_tables ct_checked_tables oc_device_text kV_device_text dc_device_text pm_device_text cd_device_text ct_device_text oc_read_device kV_read_device dc_read_device pm_read_device cd_read_device ct_read_device oc_read_states kV_read_states dc_read_states pm_read_states cd_read_states ct_read_states oc_read_table kV_read_table dc_read_table pm_read_table cd_read_table ct_read_table oc_read_number kV_read_number dc_read_number pm_read_number cd_read_number ct_read_number oc_law_box kV_law_box dc_law_box pm_law_box cd_law_box ct_law_box oc_law_take kV_law_take dc_law_take pm_law_take cd_law_take ct_law_take oc_law_pick kV_law_pick dc_law_pick pm_law_pick cd_law_pick ct_law_pick oc_law_tables kV_law_tables dc_law_tables pm_law_tables cd_law_tables ct_law_tables oc_law_reads kV_law_reads dc_law_reads pm_law_reads cd_law_reads ct_law_reads oc_law_case_right kV_law_case_right dc_law_case_right pm_law_case_right cd_law_case_right ct_law_case_right oc_law kV_law dc_law pm_law cd_law ct_law oc_Device_init kV_Device_init dc_Device_init pm_Device_init cd_Device_init ct_Device_init oc_Device_eq kV_Device_eq dc_Device_eq pm_Device_eq cd_Device_eq ct_Device_eq oc_BadText_init kV_BadText_init dc_BadText_init pm_BadText_init cd_BadText_init ct_BadText_init : Value}
    {nm_BadText q_BadText : Str} {N_BadText : Addr} {bs_BadText bm_BadText : List Value} {sn_BadText : List Str} {sub_BadText : List Value} {ab_BadText : Bool} {col_BadText : Option Bool} {dd_BadText : Option Addr} {m0_BadText m1_BadText m2_BadText m3_BadText m5_BadText : Option Value} {t_ALL_SIGNALS t_MOST_STATES t_DIGITS : Tok}
    (a_Device : PySem.W.nsIn K mainGlobals "Device" = some (some (.ref C_Device)))
    (a_BadText : PySem.W.nsIn K mainGlobals "BadText" = some (some (.ref C_BadText)))
    (a_BackError : PySem.W.nsIn K mainGlobals "BackError" = some (some (.ref C_BackError)))
    (a_BadDevice : PySem.W.nsIn K mainGlobals "BadDevice" = some (some (.ref C_BadDevice)))
    (a_is_integer : PySem.W.nsIn K mainGlobals "is_integer" = some (some (.ref f_is_integer)))
    (l_is_integer : K.lookup f_is_integer = some ⟨oc_is_integer, od_is_integer, .func (PySem.W.fnOf "is_integer" "is_integer" (defArgs s_is_integer) (defBody s_is_integer) (defScope s_is_integer) .none kV_is_integer dc_is_integer pm_is_integer an_is_integer cd_is_integer ct_is_integer), sl_is_integer⟩)
    (c_is_integer : PySem.W.codeIn K cd_is_integer "is_integer" = true)
    (k_is_integer : PySem.W.keepIn K (.ref f_is_integer) = true)
    (a_is_number_to : PySem.W.nsIn K mainGlobals "is_number_to" = some (some (.ref f_is_number_to)))
    (l_is_number_to : K.lookup f_is_number_to = some ⟨oc_is_number_to, od_is_number_to, .func (PySem.W.fnOf "is_number_to" "is_number_to" (defArgs s_is_number_to) (defBody s_is_number_to) (defScope s_is_number_to) .none kV_is_number_to dc_is_number_to pm_is_number_to an_is_number_to cd_is_number_to ct_is_number_to), sl_is_number_to⟩)
    (c_is_number_to : PySem.W.codeIn K cd_is_number_to "is_number_to" = true)
    (k_is_number_to : PySem.W.keepIn K (.ref f_is_number_to) = true)
    (a_is_sequence : PySem.W.nsIn K mainGlobals "is_sequence" = some (some (.ref f_is_sequence)))
    (l_is_sequence : K.lookup f_is_sequence = some ⟨oc_is_sequence, od_is_sequence, .func (PySem.W.fnOf "is_sequence" "is_sequence" (defArgs s_is_sequence) (defBody s_is_sequence) (defScope s_is_sequence) .none kV_is_sequence dc_is_sequence pm_is_sequence an_is_sequence cd_is_sequence ct_is_sequence), sl_is_sequence⟩)
    (c_is_sequence : PySem.W.codeIn K cd_is_sequence "is_sequence" = true)
    (k_is_sequence : PySem.W.keepIn K (.ref f_is_sequence) = true)
    (a_is_sequence_of : PySem.W.nsIn K mainGlobals "is_sequence_of" = some (some (.ref f_is_sequence_of)))
    (l_is_sequence_of : K.lookup f_is_sequence_of = some ⟨oc_is_sequence_of, od_is_sequence_of, .func (PySem.W.fnOf "is_sequence_of" "is_sequence_of" (defArgs s_is_sequence_of) (defBody s_is_sequence_of) (defScope s_is_sequence_of) .none kV_is_sequence_of dc_is_sequence_of pm_is_sequence_of an_is_sequence_of cd_is_sequence_of ct_is_sequence_of), sl_is_sequence_of⟩)
    (c_is_sequence_of : PySem.W.codeIn K cd_is_sequence_of "is_sequence_of" = true)
    (k_is_sequence_of : PySem.W.keepIn K (.ref f_is_sequence_of) = true)
    (a_is_table : PySem.W.nsIn K mainGlobals "is_table" = some (some (.ref f_is_table)))
    (l_is_table : K.lookup f_is_table = some ⟨oc_is_table, od_is_table, .func (PySem.W.fnOf "is_table" "is_table" (defArgs s_is_table) (defBody s_is_table) (defScope s_is_table) .none kV_is_table dc_is_table pm_is_table an_is_table cd_is_table ct_is_table), sl_is_table⟩)
    (c_is_table : PySem.W.codeIn K cd_is_table "is_table" = true)
    (k_is_table : PySem.W.keepIn K (.ref f_is_table) = true)
    (a_checked_tables : PySem.W.nsIn K mainGlobals "checked_tables" = some (some (.ref f_checked_tables)))
    (l_checked_tables : K.lookup f_checked_tables = some ⟨oc_checked_tables, od_checked_tables, .func (PySem.W.fnOf "checked_tables" "checked_tables" (defArgs s_checked_tables) (defBody s_checked_tables) (defScope s_checked_tables) .none kV_checked_tables dc_checked_tables pm_checked_tables an_checked_tables cd_checked_tables ct_checked_tables), sl_checked_tables⟩)
    (c_checked_tables : PySem.W.codeIn K cd_checked_tables "checked_tables" = true)
    (k_checked_tables : PySem.W.keepIn K (.ref f_checked_tables) = true)
    (a_device_text : PySem.W.nsIn K mainGlobals "device_text" = some (some (.ref f_device_text)))
    (l_device_text : K.lookup f_device_text = some ⟨oc_device_text, od_device_text, .func (PySem.W.fnOf "device_text" "device_text" (defArgs s_device_text) (defBody s_device_text) (defScope s_device_text) .none kV_device_text dc_device_text pm_device_text an_device_text cd_device_text ct_device_text), sl_device_text⟩)
    (c_device_text : PySem.W.codeIn K cd_device_text "device_text" = true)
    (k_device_text : PySem.W.keepIn K (.ref f_device_text) = true)
    (a_read_device : PySem.W.nsIn K mainGlobals "read_device" = some (some (.ref f_read_device)))
    (l_read_device : K.lookup f_read_device = some ⟨oc_read_device, od_read_device, .func (PySem.W.fnOf "read_device" "read_device" (defArgs s_read_device) (defBody s_read_device) (defScope s_read_device) .none kV_read_device dc_read_device pm_read_device an_read_device cd_read_device ct_read_device), sl_read_device⟩)
    (c_read_device : PySem.W.codeIn K cd_read_device "read_device" = true)
    (k_read_device : PySem.W.keepIn K (.ref f_read_device) = true)
    (a_read_states : PySem.W.nsIn K mainGlobals "read_states" = some (some (.ref f_read_states)))
    (l_read_states : K.lookup f_read_states = some ⟨oc_read_states, od_read_states, .func (PySem.W.fnOf "read_states" "read_states" (defArgs s_read_states) (defBody s_read_states) (defScope s_read_states) .none kV_read_states dc_read_states pm_read_states an_read_states cd_read_states ct_read_states), sl_read_states⟩)
    (c_read_states : PySem.W.codeIn K cd_read_states "read_states" = true)
    (k_read_states : PySem.W.keepIn K (.ref f_read_states) = true)
    (a_read_table : PySem.W.nsIn K mainGlobals "read_table" = some (some (.ref f_read_table)))
    (l_read_table : K.lookup f_read_table = some ⟨oc_read_table, od_read_table, .func (PySem.W.fnOf "read_table" "read_table" (defArgs s_read_table) (defBody s_read_table) (defScope s_read_table) .none kV_read_table dc_read_table pm_read_table an_read_table cd_read_table ct_read_table), sl_read_table⟩)
    (c_read_table : PySem.W.codeIn K cd_read_table "read_table" = true)
    (k_read_table : PySem.W.keepIn K (.ref f_read_table) = true)
    (a_read_number : PySem.W.nsIn K mainGlobals "read_number" = some (some (.ref f_read_number)))
    (l_read_number : K.lookup f_read_number = some ⟨oc_read_number, od_read_number, .func (PySem.W.fnOf "read_number" "read_number" (defArgs s_read_number) (defBody s_read_number) (defScope s_read_number) .none kV_read_number dc_read_number pm_read_number an_read_number cd_read_number ct_read_number), sl_read_number⟩)
    (c_read_number : PySem.W.codeIn K cd_read_number "read_number" = true)
    (k_read_number : PySem.W.keepIn K (.ref f_read_number) = true)
    (a_law_box : PySem.W.nsIn K mainGlobals "_law_box" = some (some (.ref f_law_box)))
    (l_law_box : K.lookup f_law_box = some ⟨oc_law_box, od_law_box, .func (PySem.W.fnOf "_law_box" "_law_box" (defArgs s_law_box) (defBody s_law_box) (defScope s_law_box) .none kV_law_box dc_law_box pm_law_box an_law_box cd_law_box ct_law_box), sl_law_box⟩)
    (c_law_box : PySem.W.codeIn K cd_law_box "_law_box" = true)
    (k_law_box : PySem.W.keepIn K (.ref f_law_box) = true)
    (a_law_take : PySem.W.nsIn K mainGlobals "_law_take" = some (some (.ref f_law_take)))
    (l_law_take : K.lookup f_law_take = some ⟨oc_law_take, od_law_take, .func (PySem.W.fnOf "_law_take" "_law_take" (defArgs s_law_take) (defBody s_law_take) (defScope s_law_take) .none kV_law_take dc_law_take pm_law_take an_law_take cd_law_take ct_law_take), sl_law_take⟩)
    (c_law_take : PySem.W.codeIn K cd_law_take "_law_take" = true)
    (k_law_take : PySem.W.keepIn K (.ref f_law_take) = true)
    (a_law_pick : PySem.W.nsIn K mainGlobals "_law_pick" = some (some (.ref f_law_pick)))
    (l_law_pick : K.lookup f_law_pick = some ⟨oc_law_pick, od_law_pick, .func (PySem.W.fnOf "_law_pick" "_law_pick" (defArgs s_law_pick) (defBody s_law_pick) (defScope s_law_pick) .none kV_law_pick dc_law_pick pm_law_pick an_law_pick cd_law_pick ct_law_pick), sl_law_pick⟩)
    (c_law_pick : PySem.W.codeIn K cd_law_pick "_law_pick" = true)
    (k_law_pick : PySem.W.keepIn K (.ref f_law_pick) = true)
    (a_law_tables : PySem.W.nsIn K mainGlobals "_law_tables" = some (some (.ref f_law_tables)))
    (l_law_tables : K.lookup f_law_tables = some ⟨oc_law_tables, od_law_tables, .func (PySem.W.fnOf "_law_tables" "_law_tables" (defArgs s_law_tables) (defBody s_law_tables) (defScope s_law_tables) .none kV_law_tables dc_law_tables pm_law_tables an_law_tables cd_law_tables ct_law_tables), sl_law_tables⟩)
    (c_law_tables : PySem.W.codeIn K cd_law_tables "_law_tables" = true)
    (k_law_tables : PySem.W.keepIn K (.ref f_law_tables) = true)
    (a_law_reads : PySem.W.nsIn K mainGlobals "_law_reads" = some (some (.ref f_law_reads)))
    (l_law_reads : K.lookup f_law_reads = some ⟨oc_law_reads, od_law_reads, .func (PySem.W.fnOf "_law_reads" "_law_reads" (defArgs s_law_reads) (defBody s_law_reads) (defScope s_law_reads) .none kV_law_reads dc_law_reads pm_law_reads an_law_reads cd_law_reads ct_law_reads), sl_law_reads⟩)
    (c_law_reads : PySem.W.codeIn K cd_law_reads "_law_reads" = true)
    (k_law_reads : PySem.W.keepIn K (.ref f_law_reads) = true)
    (a_law_case_right : PySem.W.nsIn K mainGlobals "_law_case_right" = some (some (.ref f_law_case_right)))
    (l_law_case_right : K.lookup f_law_case_right = some ⟨oc_law_case_right, od_law_case_right, .func (PySem.W.fnOf "_law_case_right" "_law_case_right" (defArgs s_law_case_right) (defBody s_law_case_right) (defScope s_law_case_right) .none kV_law_case_right dc_law_case_right pm_law_case_right an_law_case_right cd_law_case_right ct_law_case_right), sl_law_case_right⟩)
    (c_law_case_right : PySem.W.codeIn K cd_law_case_right "_law_case_right" = true)
    (k_law_case_right : PySem.W.keepIn K (.ref f_law_case_right) = true)
    (a_law : PySem.W.nsIn K mainGlobals "law" = some (some (.ref f_law)))
    (l_law : K.lookup f_law = some ⟨oc_law, od_law, .func (PySem.W.fnOf "law" "law" (defArgs s_law) (defBody s_law) (defScope s_law) .none kV_law dc_law pm_law an_law cd_law ct_law), sl_law⟩)
    (c_law : PySem.W.codeIn K cd_law "law" = true)
    (k_law : PySem.W.keepIn K (.ref f_law) = true)
    (a_Device_init : PySem.W.findIn K (.ref C_Device) "__init__" = some (some (.ref f_Device_init)))
    (i_Device_init : PySem.W.isFn K (.ref f_Device_init) = true)
    (l_Device_init : K.lookup f_Device_init = some ⟨oc_Device_init, od_Device_init, .func (PySem.W.fnOf "__init__" "Device.__init__" (defArgs s_Device_init) (defBody s_Device_init) (defScope s_Device_init) .none kV_Device_init dc_Device_init pm_Device_init an_Device_init cd_Device_init ct_Device_init), sl_Device_init⟩)
    (c_Device_init : PySem.W.codeIn K cd_Device_init "Device.__init__" = true)
    (k_Device_init : PySem.W.keepIn K (.ref f_Device_init) = true)
    (a_Device_eq : PySem.W.findIn K (.ref C_Device) "__eq__" = some (some (.ref f_Device_eq)))
    (i_Device_eq : PySem.W.isFn K (.ref f_Device_eq) = true)
    (l_Device_eq : K.lookup f_Device_eq = some ⟨oc_Device_eq, od_Device_eq, .func (PySem.W.fnOf "__eq__" "Device.__eq__" (defArgs s_Device_eq) (defBody s_Device_eq) (defScope s_Device_eq) .none kV_Device_eq dc_Device_eq pm_Device_eq an_Device_eq cd_Device_eq ct_Device_eq), sl_Device_eq⟩)
    (c_Device_eq : PySem.W.codeIn K cd_Device_eq "Device.__eq__" = true)
    (k_Device_eq : PySem.W.keepIn K (.ref f_Device_eq) = true)
    (a_BadText_init : PySem.W.findIn K (.ref C_BadText) "__init__" = some (some (.ref f_BadText_init)))
    (t_BadText_init : PySem.W.typeIn K (.ref f_BadText_init) = some (.type "function"))
    (l_BadText_init : K.lookup f_BadText_init = some ⟨oc_BadText_init, od_BadText_init, .func (PySem.W.fnOf "__init__" "BadText.__init__" (defArgs s_BadText_init) (defBody s_BadText_init) (defScope s_BadText_init) .none kV_BadText_init dc_BadText_init pm_BadText_init an_BadText_init cd_BadText_init ct_BadText_init), sl_BadText_init⟩)
    (c_BadText_init : PySem.W.codeIn K cd_BadText_init "BadText.__init__" = true)
    (k_BadText_init : PySem.W.keepIn K (.ref f_BadText_init) = true)
    (pg_Device : PySem.W.plainGet K C_Device Str.empty = true)
    (hd_Device : PySem.W.hasDictIn K C_Device = true)
    (po_Device : PySem.W.plainOver K C_Device = true)
    (sa_Device : PySem.W.findIn K (.ref C_Device) "__setattr__" = some (some (.builtin "object.__setattr__")))
    (mk_Device : PySem.W.makesIn K C_Device = true)
    (kc_Device : PySem.W.keepIn K (.ref C_Device) = true)
    (n_Device_tables : PySem.W.findIn K (.ref C_Device) "tables" = some none)
    (n_Device_states : PySem.W.findIn K (.ref C_Device) "states" = some none)
    (n_Device_signals : PySem.W.findIn K (.ref C_Device) "signals" = some none)
    (cc_Device : PySem.W.findIn K (.ref C_Device) "__class__" = some (some (.builtin "object.__class__")))
    (mo_Device : PySem.W.mroIn K C_Device (.type "object") = some true)
    (ne_Device : PySem.W.findIn K (.ref C_Device) "__ne__" = some (some (.builtin "object.__ne__")))
    (ob_Device : PySem.W.subIn K (.ref C_Device) (.type "object") = some true)
    (sgc : PySem.W.specialIn K (.builtin "object.__class__") "__get__" = some (some (.builtin "getset_descriptor.__get__")))
    (tkc : PySem.W.takesIn K (.builtin "object.__class__") = some true)
    (x_BadText : K.lookup C_BadText = some (excClassObj nm_BadText q_BadText C_BadText N_BadText bs_BadText bm_BadText true sn_BadText sub_BadText ab_BadText col_BadText dd_BadText m0_BadText m1_BadText m2_BadText m3_BadText m5_BadText "ValueError.__new__"))
    (r_BadText : PySem.HandSPX.refsVE bm_BadText = true)
    (sa_BadText : PySem.W.findIn K (.ref C_BadText) "__setattr__" = some (some (.builtin "object.__setattr__")))
    (ga_BadText : PySem.W.findIn K (.ref C_BadText) "__getattribute__" = some (some (.builtin "BaseException.__getattribute__")))
    (gg_BadText : PySem.W.findIn K (.ref C_BadText) "__getattr__" = some none)
    (n_BadText_at : PySem.W.findIn K (.ref C_BadText) "at" = some none)
    (kc_BadText : PySem.W.keepIn K (.ref C_BadText) = true)
    (eb_BadText : PySem.W.subIn K (.ref C_BadText) (.type "BaseException") = some true)
    (ty_BadText : PySem.W.typeIn K (.ref C_BadText) = some (.type "type"))
    (hd_BadText : PySem.W.hasDictIn K C_BadText = true)
    (cc_BadText : PySem.W.findIn K (.ref C_BadText) "__class__" = some (some (.builtin "object.__class__")))
    (mo_BadText : PySem.W.mroIn K C_BadText (.type "object") = some true)
    (kit_BadText_BackError : PySem.W.kitOne K (.ref C_BadText) (.ref C_BackError) = some true)
    (kit_BadText_BadDevice : PySem.W.kitOne K (.ref C_BadText) (.ref C_BadDevice) = some false)
    (ss_BadText_BadText : PySem.W.subIn K (.ref C_BadText) (.ref C_BadText) = some true)
    (z_isinstance : PySem.W.nsIn K mainGlobals "isinstance" = some none)
    (z_int : PySem.W.nsIn K mainGlobals "int" = some none)
    (z_bool : PySem.W.nsIn K mainGlobals "bool" = some none)
    (z_list : PySem.W.nsIn K mainGlobals "list" = some none)
    (z_tuple : PySem.W.nsIn K mainGlobals "tuple" = some none)
    (z_len : PySem.W.nsIn K mainGlobals "len" = some none)
    (z_all : PySem.W.nsIn K mainGlobals "all" = some none)
    (z_enumerate : PySem.W.nsIn K mainGlobals "enumerate" = some none)
    (z_zip : PySem.W.nsIn K mainGlobals "zip" = some none)
    (z_str : PySem.W.nsIn K mainGlobals "str" = some none)
    (z_max : PySem.W.nsIn K mainGlobals "max" = some none)
    (z_min : PySem.W.nsIn K mainGlobals "min" = some none)
    (z_abs : PySem.W.nsIn K mainGlobals "abs" = some none)
    (z_range : PySem.W.nsIn K mainGlobals "range" = some none)
    (g_ALL_SIGNALS : PySem.W.nsIn K mainGlobals "ALL_SIGNALS" = some (some (.str "abcde" t_ALL_SIGNALS)))
    (g_MOST_STATES : PySem.W.nsIn K mainGlobals "MOST_STATES" = some (some (.int 60 t_MOST_STATES)))
    (g_DIGITS : PySem.W.nsIn K mainGlobals "DIGITS" = some (some (.str "0123456789" t_DIGITS))) :
    ∃ fd : FuncData, (∀ (s : Shared) (v : Value), BindsTo s fd ⟨[v], []⟩ [("_law_script", v)]) ∧ ∀ base : Heap, K.In base → base.Ns mainGlobals mg → FnOk l.prog w K mg base CX0 20 fa fd ["_law_script"] (sp_law K) := by
  have e := hfa.symm.trans (PySem.W.mg_of X G a_law)
  cases e
  have F_is_integer := fun_mk (st := s_is_integer) l_is_integer c_is_integer k_is_integer
  have F_is_number_to := fun_mk (st := s_is_number_to) l_is_number_to c_is_number_to k_is_number_to
  have F_is_sequence := fun_mk (st := s_is_sequence) l_is_sequence c_is_sequence k_is_sequence
  have F_is_sequence_of := fun_mk (st := s_is_sequence_of) l_is_sequence_of c_is_sequence_of k_is_sequence_of
  have F_is_table := fun_mk (st := s_is_table) l_is_table c_is_table k_is_table
  have F_checked_tables := fun_mk (st := s_checked_tables) l_checked_tables c_checked_tables k_checked_tables
  have F_device_text := fun_mk (st := s_device_text) l_device_text c_device_text k_device_text
  have F_read_device := fun_mk (st := s_read_device) l_read_device c_read_device k_read_device
  have F_read_states := fun_mk (st := s_read_states) l_read_states c_read_states k_read_states
  have F_read_table := fun_mk (st := s_read_table) l_read_table c_read_table k_read_table
  have F_read_number := fun_mk (st := s_read_number) l_read_number c_read_number k_read_number
  have F_law_box := fun_mk (st := s_law_box) l_law_box c_law_box k_law_box
  have F_law_take := fun_mk (st := s_law_take) l_law_take c_law_take k_law_take
  have F_law_pick := fun_mk (st := s_law_pick) l_law_pick c_law_pick k_law_pick
  have F_law_tables := fun_mk (st := s_law_tables) l_law_tables c_law_tables k_law_tables
  have F_law_reads := fun_mk (st := s_law_reads) l_law_reads c_law_reads k_law_reads
  have F_law_case_right := fun_mk (st := s_law_case_right) l_law_case_right c_law_case_right k_law_case_right
  have F_law := fun_mk (st := s_law) l_law c_law k_law
  have F_Device_init := fun_mk (st := s_Device_init) l_Device_init c_Device_init k_Device_init
  have F_Device_eq := fun_mk (st := s_Device_eq) l_Device_eq c_Device_eq k_Device_eq
  have F_BadText_init := fun_mk (st := s_BadText_init) l_BadText_init c_BadText_init k_BadText_init
  let a : Ad := { f_is_integer := f_is_integer, d_is_integer := (PySem.W.fnOf "is_integer" "is_integer" (defArgs s_is_integer) (defBody s_is_integer) (defScope s_is_integer) .none kV_is_integer dc_is_integer pm_is_integer an_is_integer cd_is_integer ct_is_integer), f_is_number_to := f_is_number_to, d_is_number_to := (PySem.W.fnOf "is_number_to" "is_number_to" (defArgs s_is_number_to) (defBody s_is_number_to) (defScope s_is_number_to) .none kV_is_number_to dc_is_number_to pm_is_number_to an_is_number_to cd_is_number_to ct_is_number_to), f_is_sequence := f_is_sequence, d_is_sequence := (PySem.W.fnOf "is_sequence" "is_sequence" (defArgs s_is_sequence) (defBody s_is_sequence) (defScope s_is_sequence) .none kV_is_sequence dc_is_sequence pm_is_sequence an_is_sequence cd_is_sequence ct_is_sequence), f_is_sequence_of := f_is_sequence_of, d_is_sequence_of := (PySem.W.fnOf "is_sequence_of" "is_sequence_of" (defArgs s_is_sequence_of) (defBody s_is_sequence_of) (defScope s_is_sequence_of) .none kV_is_sequence_of dc_is_sequence_of pm_is_sequence_of an_is_sequence_of cd_is_sequence_of ct_is_sequence_of), f_is_table := f_is_table, d_is_table := (PySem.W.fnOf "is_table" "is_table" (defArgs s_is_table) (defBody s_is_table) (defScope s_is_table) .none kV_is_table dc_is_table pm_is_table an_is_table cd_is_table ct_is_table), f_checked_tables := f_checked_tables, d_checked_tables := (PySem.W.fnOf "checked_tables" "checked_tables" (defArgs s_checked_tables) (defBody s_checked_tables) (defScope s_checked_tables) .none kV_checked_tables dc_checked_tables pm_checked_tables an_checked_tables cd_checked_tables ct_checked_tables), f_device_text := f_device_text, d_device_text := (PySem.W.fnOf "device_text" "device_text" (defArgs s_device_text) (defBody s_device_text) (defScope s_device_text) .none kV_device_text dc_device_text pm_device_text an_device_text cd_device_text ct_device_text), f_read_device := f_read_device, d_read_device := (PySem.W.fnOf "read_device" "read_device" (defArgs s_read_device) (defBody s_read_device) (defScope s_read_device) .none kV_read_device dc_read_device pm_read_device an_read_device cd_read_device ct_read_device), f_read_states := f_read_states, d_read_states := (PySem.W.fnOf "read_states" "read_states" (defArgs s_read_states) (defBody s_read_states) (defScope s_read_states) .none kV_read_states dc_read_states pm_read_states an_read_states cd_read_states ct_read_states), f_read_table := f_read_table, d_read_table := (PySem.W.fnOf "read_table" "read_table" (defArgs s_read_table) (defBody s_read_table) (defScope s_read_table) .none kV_read_table dc_read_table pm_read_table an_read_table cd_read_table ct_read_table), f_read_number := f_read_number, d_read_number := (PySem.W.fnOf "read_number" "read_number" (defArgs s_read_number) (defBody s_read_number) (defScope s_read_number) .none kV_read_number dc_read_number pm_read_number an_read_number cd_read_number ct_read_number), f_law_box := f_law_box, d_law_box := (PySem.W.fnOf "_law_box" "_law_box" (defArgs s_law_box) (defBody s_law_box) (defScope s_law_box) .none kV_law_box dc_law_box pm_law_box an_law_box cd_law_box ct_law_box), f_law_take := f_law_take, d_law_take := (PySem.W.fnOf "_law_take" "_law_take" (defArgs s_law_take) (defBody s_law_take) (defScope s_law_take) .none kV_law_take dc_law_take pm_law_take an_law_take cd_law_take ct_law_take), f_law_pick := f_law_pick, d_law_pick := (PySem.W.fnOf "_law_pick" "_law_pick" (defArgs s_law_pick) (defBody s_law_pick) (defScope s_law_pick) .none kV_law_pick dc_law_pick pm_law_pick an_law_pick cd_law_pick ct_law_pick), f_law_tables := f_law_tables, d_law_tables := (PySem.W.fnOf "_law_tables" "_law_tables" (defArgs s_law_tables) (defBody s_law_tables) (defScope s_law_tables) .none kV_law_tables dc_law_tables pm_law_tables an_law_tables cd_law_tables ct_law_tables), f_law_reads := f_law_reads, d_law_reads := (PySem.W.fnOf "_law_reads" "_law_reads" (defArgs s_law_reads) (defBody s_law_reads) (defScope s_law_reads) .none kV_law_reads dc_law_reads pm_law_reads an_law_reads cd_law_reads ct_law_reads), f_law_case_right := f_law_case_right, d_law_case_right := (PySem.W.fnOf "_law_case_right" "_law_case_right" (defArgs s_law_case_right) (defBody s_law_case_right) (defScope s_law_case_right) .none kV_law_case_right dc_law_case_right pm_law_case_right an_law_case_right cd_law_case_right ct_law_case_right), f_law := fa, d_law := (PySem.W.fnOf "law" "law" (defArgs s_law) (defBody s_law) (defScope s_law) .none kV_law dc_law pm_law an_law cd_law ct_law), f_Device_init := f_Device_init, d_Device_init := (PySem.W.fnOf "__init__" "Device.__init__" (defArgs s_Device_init) (defBody s_Device_init) (defScope s_Device_init) .none kV_Device_init dc_Device_init pm_Device_init an_Device_init cd_Device_init ct_Device_init), f_Device_eq := f_Device_eq, d_Device_eq := (PySem.W.fnOf "__eq__" "Device.__eq__" (defArgs s_Device_eq) (defBody s_Device_eq) (defScope s_Device_eq) .none kV_Device_eq dc_Device_eq pm_Device_eq an_Device_eq cd_Device_eq ct_Device_eq), f_BadText_init := f_BadText_init, d_BadText_init := (PySem.W.fnOf "__init__" "BadText.__init__" (defArgs s_BadText_init) (defBody s_BadText_init) (defScope s_BadText_init) .none kV_BadText_init dc_BadText_init pm_BadText_init an_BadText_init cd_BadText_init ct_BadText_init), C_Device := C_Device, C_BadText := C_BadText, C_BackError := C_BackError, C_BadDevice := C_BadDevice }
  have T : Txt K mg a := {
    isinstance := PySem.W.mg_none_of X G z_isinstance
    int := PySem.W.mg_none_of X G z_int
    bool := PySem.W.mg_none_of X G z_bool
    list := PySem.W.mg_none_of X G z_list
    tuple := PySem.W.mg_none_of X G z_tuple
    len := PySem.W.mg_none_of X G z_len
    all := PySem.W.mg_none_of X G z_all
    enumerate := PySem.W.mg_none_of X G z_enumerate
    zip := PySem.W.mg_none_of X G z_zip
    str := PySem.W.mg_none_of X G z_str
    max := PySem.W.mg_none_of X G z_max
    min := PySem.W.mg_none_of X G z_min
    abs := PySem.W.mg_none_of X G z_abs
    range := PySem.W.mg_none_of X G z_range
    g_ALL_SIGNALS := ⟨_, PySem.W.mg_of X G g_ALL_SIGNALS⟩
    g_MOST_STATES := ⟨_, PySem.W.mg_of X G g_MOST_STATES⟩
    g_DIGITS := ⟨_, PySem.W.mg_of X G g_DIGITS⟩
    F_is_integer := F_is_integer
    mg_is_integer := PySem.W.mg_of X G a_is_integer
    b_is_integer := F_is_integer.binds (ps := P_is_integer) fun _ _ _ _ _ _ us hl => match us, hl with | [_], _ => rfl
    F_is_number_to := F_is_number_to
    mg_is_number_to := PySem.W.mg_of X G a_is_number_to
    b_is_number_to := F_is_number_to.binds (ps := P_is_number_to) fun _ _ _ _ _ _ us hl => match us, hl with | [_, _, _], _ => rfl
    F_is_sequence := F_is_sequence
    mg_is_sequence := PySem.W.mg_of X G a_is_sequence
    b_is_sequence := F_is_sequence.binds (ps := P_is_sequence) fun _ _ _ _ _ _ us hl => match us, hl with | [_], _ => rfl
    F_is_sequence_of := F_is_sequence_of
    mg_is_sequence_of := PySem.W.mg_of X G a_is_sequence_of
    b_is_sequence_of := F_is_sequence_of.binds (ps := P_is_sequence_of) fun _ _ _ _ _ _ us hl => match us, hl with | [_, _], _ => rfl
    F_is_table := F_is_table
    mg_is_table := PySem.W.mg_of X G a_is_table
    b_is_table := F_is_table.binds (ps := P_is_table) fun _ _ _ _ _ _ us hl => match us, hl with | [_, _], _ => rfl
    F_checked_tables := F_checked_tables
    mg_checked_tables := PySem.W.mg_of X G a_checked_tables
    b_checked_tables := F_checked_tables.binds (ps := P_checked_tables) fun _ _ _ _ _ _ us hl => match us, hl with | [_], _ => rfl
    F_device_text := F_device_text
    mg_device_text := PySem.W.mg_of X G a_device_text
    b_device_text := F_device_text.binds (ps := P_device_text) fun _ _ _ _ _ _ us hl => match us, hl with | [_], _ => rfl
    kb_device_text := kb_of F_device_text (ps := P_device_text) fun _ _ _ _ _ _ us hl => match us, hl with | [_], _ => rfl
    F_read_device := F_read_device
    mg_read_device := PySem.W.mg_of X G a_read_device
    b_read_device := F_read_device.binds (ps := P_read_device) fun _ _ _ _ _ _ us hl => match us, hl with | [_], _ => rfl
    kb_read_device := kb_of F_read_device (ps := P_read_device) fun _ _ _ _ _ _ us hl => match us, hl with | [_], _ => rfl
    F_read_states := F_read_states
    mg_read_states := PySem.W.mg_of X G a_read_states
    b_read_states := F_read_states.binds (ps := P_read_states) fun _ _ _ _ _ _ us hl => match us, hl with | [_], _ => rfl
    F_read_table := F_read_table
    mg_read_table := PySem.W.mg_of X G a_read_table
    b_read_table := F_read_table.binds (ps := P_read_table) fun _ _ _ _ _ _ us hl => match us, hl with | [_, _, _], _ => rfl
    F_read_number := F_read_number
    mg_read_number := PySem.W.mg_of X G a_read_number
    b_read_number := F_read_number.binds (ps := P_read_number) fun _ _ _ _ _ _ us hl => match us, hl with | [_, _], _ => rfl
    F_law_box := F_law_box
    mg_law_box := PySem.W.mg_of X G a_law_box
    b_law_box := F_law_box.binds (ps := P_law_box) fun _ _ _ _ _ _ us hl => match us, hl with | [_, _], _ => rfl
    F_law_take := F_law_take
    mg_law_take := PySem.W.mg_of X G a_law_take
    b_law_take := F_law_take.binds (ps := P_law_take) fun _ _ _ _ _ _ us hl => match us, hl with | [_, _], _ => rfl
    F_law_pick := F_law_pick
    mg_law_pick := PySem.W.mg_of X G a_law_pick
    b_law_pick := F_law_pick.binds (ps := P_law_pick) fun _ _ _ _ _ _ us hl => match us, hl with | [_, _], _ => rfl
    F_law_tables := F_law_tables
    mg_law_tables := PySem.W.mg_of X G a_law_tables
    b_law_tables := F_law_tables.binds (ps := P_law_tables) fun _ _ _ _ _ _ us hl => match us, hl with | [_, _, _], _ => rfl
    F_law_reads := F_law_reads
    mg_law_reads := PySem.W.mg_of X G a_law_reads
    b_law_reads := F_law_reads.binds (ps := P_law_reads) fun _ _ _ _ _ _ us hl => match us, hl with | [_], _ => rfl
    F_law_case_right := F_law_case_right
    mg_law_case_right := PySem.W.mg_of X G a_law_case_right
    b_law_case_right := F_law_case_right.binds (ps := P_law_case_right) fun _ _ _ _ _ _ us hl => match us, hl with | [_], _ => rfl
    F_law := F_law
    mg_law := PySem.W.mg_of X G a_law
    F_Device_init := F_Device_init
    b_Device_init := F_Device_init.binds (ps := P_Device_init) fun _ _ _ _ _ _ us hl => match us, hl with | [_, _], _ => rfl
    F_Device_eq := F_Device_eq
    b_Device_eq := F_Device_eq.binds (ps := P_Device_eq) fun _ _ _ _ _ _ us hl => match us, hl with | [_, _], _ => rfl
    F_BadText_init := F_BadText_init
    b_BadText_init := F_BadText_init.binds (ps := P_BadText_init) fun _ _ _ _ _ _ us hl => match us, hl with | [_, _], _ => rfl
    mg_Device := PySem.W.mg_of X G a_Device
    cl_Device := ⟨pg_Device, hd_Device, po_Device, sa_Device⟩
    M_Device := ⟨mk_Device, a_Device_init, i_Device_init, kc_Device⟩
    m_Device_eq := ⟨a_Device_eq, i_Device_eq, k_Device_eq⟩
    n_Device_tables := n_Device_tables
    n_Device_states := n_Device_states
    n_Device_signals := n_Device_signals
    cc_Device := cc_Device
    mo_Device := mo_Device
    ne_Device := ne_Device
    ob_Device := ob_Device
    sgc := sgc
    tkc := tkc
    mg_BadText := PySem.W.mg_of X G a_BadText
    oex_BadText := ⟨⟨nm_BadText, q_BadText, N_BadText, bs_BadText, bm_BadText, sn_BadText, sub_BadText, ab_BadText, col_BadText, dd_BadText, m0_BadText, m1_BadText, m2_BadText, m3_BadText, m5_BadText, x_BadText, r_BadText⟩, sa_BadText, eb_BadText, ty_BadText, kc_BadText⟩
    xf_BadText := ⟨ga_BadText, gg_BadText, eb_BadText, hd_BadText⟩
    ex_BadText := ⟨ga_BadText, gg_BadText, eb_BadText, hd_BadText, cc_BadText, sgc, tkc, mo_BadText⟩
    n_BadText_at := n_BadText_at
    i_BadText := a_BadText_init
    ti_BadText := t_BadText_init
    mg_BackError := PySem.W.mg_of X G a_BackError
    mg_BadDevice := PySem.W.mg_of X G a_BadDevice
    kit_BadText_BackError := kit_BadText_BackError
    kit_BadText_BadDevice := kit_BadText_BadDevice
    exm_BadText_BadText := PySem.W.exm_ref eb_BadText hd_BadText ty_BadText ss_BadText_BadText }
  exact ⟨a.d_law, fun s v => .of_eq rfl, fun base _ _ => ok_law T⟩
theorem walk {l : PySem.W.OpenLaw} {q : Program} {loose : List Str} {XP : (Str → Option Value) → Heap → Prop} {YP : World → Heap → Prop} {d : DefRec} {K : Params → PySem.W.Frag} (hn : l.most = some 63) (hdf : d.params.defaults = [])
    (hY : ∀ (w : World) (h : Heap), YP w h → (K w.params).In h)
    (F : ∀ (w : World) (mg : Str → Option Value) (fa : Addr) (h : Heap), (K w.params).In h → h.Ns mainGlobals mg → mg d.name = some (.ref fa) →
      ∃ fd : FuncData, (∀ (s : Shared) (u : Value), BindsTo s fd ⟨[u], []⟩ [("_law_script", u)]) ∧ ∀ base : Heap, (K w.params).In base → base.Ns mainGlobals mg → FnOk l.prog w (K w.params) mg base CX0 20 fa fd ["_law_script"] (sp_law (K w.params))) :
    PySem.W.WalkO q loose XP YP l.row.toRowW d [] (fun f vs => PySem.call f vs) :=
  L2.walk_of (n := 63) (k := 20) (x := "_law_script") (CX := fun _ => CX0) (sp := fun w => sp_law (K w.params)) hn (by decide) hdf ⟨rfl, by decide, by decide⟩ hY F (fun _ _ a ns hl _ hS => ⟨a, ns, rfl, hS, hl, fun _ => rfl⟩) fun _ _ _ _ _ z => z
end Bk
open PySem PySem.W PyProof.Rows
set_option maxRecDepth 100000 in
set_option maxHeartbeats 0 in
theorem PySem.Challenge.cw_backinstep_k04_texts_of_devices_holds : PySem.Challenge.rw_backinstep_k04_texts_of_devices.Holds := by
  w_on; o_law; k_head; (case hw => w_witness2)
  k_fill
  refine Bk.walk (l := PySem.Challenge.rw_backinstep_k04_texts_of_devices) rfl rfl (fun w h Y => PySem.W.kIn_of Y) ?F
  case F =>
    intro w mg fa h KX G hmg
    refine' Bk.all_mk KX G hmg ?a_Device ?a_BadText ?a_BackError ?a_BadDevice ?a_is_integer ?l_is_integer ?c_is_integer ?k_is_integer ?a_is_number_to ?l_is_number_to ?c_is_number_to ?k_is_number_to ?a_is_sequence ?l_is_sequence ?c_is_sequence ?k_is_sequence ?a_is_sequence_of ?l_is_sequence_of ?c_is_sequence_of ?k_is_sequence_of ?a_is_table ?l_is_table ?c_is_table ?k_is_table ?a_checked_tables ?l_checked_tables ?c_checked_tables ?k_checked_tables ?a_device_text ?l_device_text ?c_device_text ?k_device_text ?a_read_device ?l_read_device ?c_read_device ?k_read_device ?a_read_states ?l_read_states ?c_read_states ?k_read_states ?a_read_table ?l_read_table ?c_read_table ?k_read_table ?a_read_number ?l_read_number ?c_read_number ?k_read_number ?a_law_box ?l_law_box ?c_law_box ?k_law_box ?a_law_take ?l_law_take ?c_law_take ?k_law_take ?a_law_pick ?l_law_pick ?c_law_pick ?k_law_pick ?a_law_tables ?l_law_tables ?c_law_tables ?k_law_tables ?a_law_reads ?l_law_reads ?c_law_reads ?k_law_reads ?a_law_case_right ?l_law_case_right ?c_law_case_right ?k_law_case_right ?a_law ?l_law ?c_law ?k_law ?a_Device_init ?i_Device_init ?l_Device_init ?c_Device_init ?k_Device_init ?a_Device_eq ?i_Device_eq ?l_Device_eq ?c_Device_eq ?k_Device_eq ?a_BadText_init ?t_BadText_init ?l_BadText_init ?c_BadText_init ?k_BadText_init ?pg_Device ?hd_Device ?po_Device ?sa_Device ?mk_Device ?kc_Device ?n_Device_tables ?n_Device_states ?n_Device_signals ?cc_Device ?mo_Device ?ne_Device ?ob_Device ?sgc ?tkc ?x_BadText ?r_BadText ?sa_BadText ?ga_BadText ?gg_BadText ?n_BadText_at ?kc_BadText ?eb_BadText ?ty_BadText ?hd_BadText ?cc_BadText ?mo_BadText ?kit_BadText_BackError ?kit_BadText_BadDevice ?ss_BadText_BadText ?z_isinstance ?z_int ?z_bool ?z_list ?z_tuple ?z_len ?z_all ?z_enumerate ?z_zip ?z_str ?z_max ?z_min ?z_abs ?z_range ?g_ALL_SIGNALS ?g_MOST_STATES ?g_DIGITS
    (case a_Device => k_is)
    (case a_BadText => k_is)
    (case a_BackError => k_is)
    (case a_BadDevice => k_is)
    (case a_is_integer => k_is)
    (case l_is_integer => k_is)
    (case c_is_integer => k_is)
    (case k_is_integer => k_is)
    (case a_is_number_to => k_is)
    (case l_is_number_to => k_is)
    (case c_is_number_to => k_is)
    (case k_is_number_to => k_is)
    (case a_is_sequence => k_is)
    (case l_is_sequence => k_is)
    (case c_is_sequence => k_is)
    (case k_is_sequence => k_is)
    (case a_is_sequence_of => k_is)
    (case l_is_sequence_of => k_is)
    (case c_is_sequence_of => k_is)
    (case k_is_sequence_of => k_is)
    (case a_is_table => k_is)
    (case l_is_table => k_is)
    (case c_is_table => k_is)
    (case k_is_table => k_is)
    (case a_checked_tables => k_is)
    (case l_checked_tables => k_is)
    (case c_checked_tables => k_is)
    (case k_checked_tables => k_is)
    (case a_device_text => k_is)
    (case l_device_text => k_is)
    (case c_device_text => k_is)
    (case k_device_text => k_is)
    (case a_read_device => k_is)
    (case l_read_device => k_is)
    (case c_read_device => k_is)
    (case k_read_device => k_is)
    (case a_read_states => k_is)
    (case l_read_states => k_is)
    (case c_read_states => k_is)
    (case k_read_states => k_is)
    (case a_read_table => k_is)
    (case l_read_table => k_is)
    (case c_read_table => k_is)
    (case k_read_table => k_is)
    (case a_read_number => k_is)
    (case l_read_number => k_is)
    (case c_read_number => k_is)
    (case k_read_number => k_is)
    (case a_law_box => k_is)
    (case l_law_box => k_is)
    (case c_law_box => k_is)
    (case k_law_box => k_is)
    (case a_law_take => k_is)
    (case l_law_take => k_is)
    (case c_law_take => k_is)
    (case k_law_take => k_is)
    (case a_law_pick => k_is)
    (case l_law_pick => k_is)
    (case c_law_pick => k_is)
    (case k_law_pick => k_is)
    (case a_law_tables => k_is)
    (case l_law_tables => k_is)
    (case c_law_tables => k_is)
    (case k_law_tables => k_is)
    (case a_law_reads => k_is)
    (case l_law_reads => k_is)
    (case c_law_reads => k_is)
    (case k_law_reads => k_is)
    (case a_law_case_right => k_is)
    (case l_law_case_right => k_is)
    (case c_law_case_right => k_is)
    (case k_law_case_right => k_is)
    (case a_law => k_is)
    (case l_law => k_is)
    (case c_law => k_is)
    (case k_law => k_is)
    (case a_Device_init => k_is)
    (case i_Device_init => k_is)
    (case l_Device_init => k_is)
    (case c_Device_init => k_is)
    (case k_Device_init => k_is)
    (case a_Device_eq => k_is)
    (case i_Device_eq => k_is)
    (case l_Device_eq => k_is)
    (case c_Device_eq => k_is)
    (case k_Device_eq => k_is)
    (case a_BadText_init => k_is)
    (case t_BadText_init => k_is)
    (case l_BadText_init => k_is)
    (case c_BadText_init => k_is)
    (case k_BadText_init => k_is)
    (case pg_Device => k_is)
    (case hd_Device => k_is)
    (case po_Device => k_is)
    (case sa_Device => k_is)
    (case mk_Device => k_is)
    (case kc_Device => k_is)
    (case n_Device_tables => k_is)
    (case n_Device_states => k_is)
    (case n_Device_signals => k_is)
    (case cc_Device => k_is)
    (case mo_Device => k_is)
    (case ne_Device => k_is)
    (case ob_Device => k_is)
    (case sgc => k_is)
    (case tkc => k_is)
    (case x_BadText => k_is)
    (case r_BadText => decide +kernel)
    (case sa_BadText => k_is)
    (case ga_BadText => k_is)
    (case gg_BadText => k_is)
    (case n_BadText_at => k_is)
    (case kc_BadText => k_is)
    (case eb_BadText => k_is)
    (case ty_BadText => k_is)
    (case hd_BadText => k_is)
    (case cc_BadText => k_is)
    (case mo_BadText => k_is)
    (case kit_BadText_BackError => kit_is)
    (case kit_BadText_BadDevice => kit_is)
    (case ss_BadText_BadText => first | rfl | k_is)
    (case z_isinstance => k_is)
    (case z_int => k_is)
    (case z_bool => k_is)
    (case z_list => k_is)
    (case z_tuple => k_is)
    (case z_len => k_is)
    (case z_all => k_is)
    (case z_enumerate => k_is)
    (case z_zip => k_is)
    (case z_str => k_is)
    (case z_max => k_is)
    (case z_min => k_is)
    (case z_abs => k_is)
    (case z_range => k_is)
    (case g_ALL_SIGNALS => k_is)
    (case g_MOST_STATES => k_is)
    (case g_DIGITS => k_is)
