import PyProof.Rows.All
import Wide.All
import OpenK.AllK
import Wide.FinOn
import HandS.ForMost
import HandS.ForExc
import HandS.Walk
import HandS.Evl
import HandS.ExcInit
import HandS.ExcField
import HandS.ExcIs
import HandS.IsInst
import HandS.RaiseMore
import HandS.TupAny
import HandS.TryOnly
import HandS.Defaults
import HandS.Steps
import KE.KExcIs
import HandS.TupMul
import PyProof.ReprRoads
import HandS.Replace
import KE.DataMinMax
import KE.DataCmp
import PyProof.StrBlock2
import HandS.Ends
import HandS.Style
import KE.KDictDisplayH
import PySem.Challenge.RW_anytext_k22_rewriters_in_turn
set_option Elab.async false
set_option linter.all false
set_option maxRecDepth 100000
set_option maxHeartbeats 4000000
/-! own words: readings step by step, operators by several kinds of values -/
namespace AT
open PySem PySem.Spec PyProof.Rows L2
abbrev Ex := Evl.Ex
section
variable {X : Cx} {f : Value → Value → Sem Value} {r r' : R2}
theorem OpR.or (h : OpR X f r) (h' : OpR X f r') : OpR X f (fun x y H Q => r x y H Q ∨ r' x y H Q) := by
  intro pins s σ H x y v u Q I rx ry q
  rcases q with q | q
  · exact h pins s σ H x y v u Q I rx ry q
  · exact h' pins s σ H x y v u Q I rx ry q
theorem CallR.or {f : Value} {r r' : List V → Hp → VK → Prop} (h : CallR X f r) (h' : CallR X f r') : CallR X f (fun x H Q => r x H Q ∨ r' x H Q) := by
  intro pins s σ H x us Q I rx q
  rcases q with q | q
  · exact h pins s σ H x us Q I rx q
  · exact h' pins s σ H x us Q I rx q
end
/-! ### operators -/
/-- + of ints, of texts, of lists -/
def oAdd (K : PySem.W.Frag) : R2 := fun x y H Q => (rI0 (fun i j => .int (i + j)) x y H Q) ∨ (∃ i j : Str, x = .str i ∧ y = .str j ∧ i.length + j.length ≤ sizeLine ∧ Q (.str (i ++ j)) H) ∨ rCat x y H Q ∨ rCatT K x y H Q
theorem op_addP {X : Cx} : OpR X (binaryOp .Add) (oAdd X.K) := OpR.or op_add (OpR.or op_add_str (OpR.or op_cat op_catT))
def oSub : R2 := rI0 fun i j => .int (i - j)
theorem op_subP {X : Cx} : OpR X (binaryOp .Sub) oSub := op_sub
def oMul : R2 := rI CMul fun i j => .int (i * j)
theorem op_mulP {X : Cx} : OpR X (binaryOp .Mult) oMul := op_mul
def oMod : R2 := rI (fun _ j => j ≠ 0) fun i j => .int (i.fmod j)
theorem op_modP {X : Cx} : OpR X (binaryOp .Mod) oMod := op_modN
def oDiv : R2 := rI CDivN fun i j => .int (i.fdiv j)
theorem op_divP {X : Cx} : OpR X (binaryOp .FloorDiv) oDiv := op_fdivN
def oPow : R2 := rI CPow fun i j => .int (i ^ j.toNat)
theorem op_powP {X : Cx} : OpR X (binaryOp .Pow) oPow := op_pow
def oLt : R2 := rI0 fun i j => .bl (decide (i < j))
def oLe : R2 := rI0 fun i j => .bl (decide (i ≤ j))
def oGt : R2 := rI0 fun i j => .bl (decide (j < i))
def oGe : R2 := rI0 fun i j => .bl (decide (j ≤ i))
theorem op_ltP {X : Cx} : OpR X (compareOp .Lt) oLt := op_lt
theorem op_leP {X : Cx} : OpR X (compareOp .LtE) oLe := op_le
theorem op_gtP {X : Cx} : OpR X (compareOp .Gt) oGt := op_gt
theorem op_geP {X : Cx} : OpR X (compareOp .GtE) oGe := op_ge
/-- == of ints, bools, texts; of data -/
def oEq (K : PySem.W.Frag) : R2 := fun x y H Q => rEq x y H Q ∨ rEqD K x y H Q
def oNe (K : PySem.W.Frag) : R2 := fun x y H Q => rNe x y H Q ∨ rNeD K x y H Q
theorem op_eqP {X : Cx} (hu : X.A.units + 64 < cLine) : OpR X (compareOp .Eq) (oEq X.K) := OpR.or op_eq (op_eqD hu)
theorem op_neP {X : Cx} (hu : X.A.units + 64 < cLine) : OpR X (compareOp .NotEq) (oNe X.K) := OpR.or op_ne (op_neD hu)

/-! ### reading, step by step -/
section rd
variable {K : PySem.W.Frag} {σ : L2.St} {H : Hp} {Q : VK} {QB : Bool → Hp → Prop} {QL : List V → Hp → Prop} {D : Ends} {ta tb tc te to : TE} {tt uu : TT} {tl : TA} {t u : TS} {g : TG} {i : Nat} {v w x y : V} {r r' : R2} {QS : L2.St → Hp → Prop}
theorem rd_seq (h : t { D with nx := u D } σ H) : tSeq t u D σ H := h
theorem rd_asg (h : te σ H fun x H1 => g x σ H1 D.nx) : tAsg te g D σ H := h
theorem rd_name (h : QS (σ.set i (some v)) H) : gName i v σ H QS := h
theorem rd_var (e : σ[i]? = some (some v)) (h : Q v H) : tVar i σ H Q := ⟨v, e, h⟩
theorem rd_c (h : Q v H) : tC v σ H Q := h
theorem rd_op (h : ta σ H fun x H1 => tb σ H1 fun y H2 => r x y H2 Q) : tOp r ta tb σ H Q := h
theorem rd_ret (h : te σ H D.rt) : tRet te D σ H := h
theorem rd_retN (h : D.rt .non H) : tRetN D σ H := h
theorem rd_if (h : tt σ H fun b H1 => if b = true then t D σ H1 else u D σ H1) : tIfS tt t u D σ H := h
theorem rd_ife (h : tt σ H fun b H1 => if b = true then ta σ H1 Q else tb σ H1 Q) : tIf tt ta tb σ H Q := h
theorem rd_next (h : D.nx σ H) : tNext D σ H := h
theorem rd_drop (h : te σ H fun _ H1 => D.nx σ H1) : tDrop te D σ H := h
theorem rd_test (h : te σ H fun x H' => ∃ k, x = .bl k ∧ QB k H') : tTest te σ H QB := h
theorem rd_tB (h : te σ H fun x H' => ∃ k, x = .bl k ∧ QB k H') : tB te σ H QB := h
theorem rd_bl {b : Bool} {P : Bool → Prop} (h : P b) : ∃ k, V.bl b = .bl k ∧ P k := ⟨b, rfl, h⟩
theorem rd_not (h : tt σ H fun c H1 => QB (!c) H1) : tNot tt σ H QB := h
theorem rd_and (h : tt σ H fun c H1 => if c = true then uu σ H1 QB else QB false H1) : tAnd tt uu σ H QB := h
theorem rd_or (h : tt σ H fun c H1 => if c = true then QB true H1 else uu σ H1 QB) : tOr tt uu σ H QB := h
theorem rd_nil (h : QL [] H) : tNil σ H QL := h
theorem rd_cons (h : ta σ H fun x H1 => tl σ H1 fun xs H2 => QL (x :: xs) H2) : tCons ta tl σ H QL := h
theorem rd_lst (h : tl σ H fun xs H1 => xs.length ≤ sizeLine ∧ ∀ p, H1 p = none → Q (.ref p) (upd H1 p (.lst xs))) : tLst tl σ H Q := h
theorem rd_tup (h : tl σ H fun xs H1 => xs.length ≤ sizeLine ∧ ∀ p, H1 p = none → Q (.ref p) (upd H1 p (.tup xs))) : tTup tl σ H Q := h
theorem rd_cb {rc : List V → Hp → VK → Prop} (h : tl σ H fun vs H1 => rc vs H1 Q) : tCB rc tl σ H Q := h
theorem rd_chain (h : ta σ H fun x H1 => tb σ H1 fun y H2 => r x y H2 fun z H3 => ∃ k, z = .bl k ∧ if k = true then tc σ H3 fun w H4 => r' y w H4 Q else Q (.bl false) H3) : tChain r r' ta tb tc σ H Q := h
theorem rd_call {sp : Sp} {dvs : List V} {E : XK} (h : tl σ H fun vs H1 => sp (vs ++ dvs) H1 Q E) : tCall sp dvs E tl σ H Q := h
theorem rd_iteT {A B : Prop} (h : A) : if true = true then A else B := iteT h
theorem rd_iteF {A B : Prop} (h : B) : if false = true then A else B := iteF h
theorem rd_itet {A B : Prop} {c : Bool} (e : c = true) (h : A) : if c = true then A else B := by rw [e]; exact iteT h
theorem rd_itef {A B : Prop} {c : Bool} (e : c = false) (h : B) : if c = true then A else B := by rw [e]; exact iteF h
theorem rd_ite {A B : Prop} {c : Bool} (h1 : c = true → A) (h2 : c = false → B) : if c = true then A else B := by
  cases c with
  | true => exact iteT (h1 rfl)
  | false => exact iteF (h2 rfl)
theorem rd_iteD {A B p : Prop} [Decidable p] (h1 : p → A) (h2 : ¬ p → B) : if decide p = true then A else B := rd_ite (fun e => h1 (of_decide_eq_true e)) fun e => h2 (of_decide_eq_false e)
theorem rd_iteN {A B p : Prop} [Decidable p] (h1 : ¬ p → A) (h2 : p → B) : if (!decide p) = true then A else B := rd_ite (fun e => h1 (by simpa using e)) fun e => h2 (by simpa using e)
/-! ints -/
variable {a b : Int}
theorem rd_addI (h : Q (.int (a + b)) H) : oAdd K (.int a) (.int b) H Q := .inl ⟨a, b, rfl, rfl, h⟩
theorem rd_subI (h : Q (.int (a - b)) H) : oSub (.int a) (.int b) H Q := ⟨a, b, rfl, rfl, h⟩
theorem rd_mulI (c : CMul a b) (h : Q (.int (a * b)) H) : oMul (.int a) (.int b) H Q := ⟨a, b, rfl, rfl, c, h⟩
theorem rd_modI (c : b ≠ 0) (h : Q (.int (a.fmod b)) H) : oMod (.int a) (.int b) H Q := ⟨a, b, rfl, rfl, c, h⟩
theorem rd_divI (c : CDivN a b) (h : Q (.int (a.fdiv b)) H) : oDiv (.int a) (.int b) H Q := ⟨a, b, rfl, rfl, c, h⟩
theorem rd_powI (c : CPow a b) (h : Q (.int (a ^ b.toNat)) H) : oPow (.int a) (.int b) H Q := ⟨a, b, rfl, rfl, c, h⟩
theorem rd_lt (h : Q (.bl (decide (a < b))) H) : oLt (.int a) (.int b) H Q := ⟨a, b, rfl, rfl, h⟩
theorem rd_le (h : Q (.bl (decide (a ≤ b))) H) : oLe (.int a) (.int b) H Q := ⟨a, b, rfl, rfl, h⟩
theorem rd_gt (h : Q (.bl (decide (b < a))) H) : oGt (.int a) (.int b) H Q := ⟨a, b, rfl, rfl, h⟩
theorem rd_ge (h : Q (.bl (decide (b ≤ a))) H) : oGe (.int a) (.int b) H Q := ⟨a, b, rfl, rfl, h⟩
theorem rd_eqI (h : Q (.bl (decide (a = b))) H) : oEq K (.int a) (.int b) H Q := .inl ⟨rfl, by
  have e : decide (V.int a = V.int b) = decide (a = b) := decide_eq_decide.mpr ⟨fun z => V.int.inj z, fun z => by rw [z]⟩
  rw [e]; exact h⟩
theorem rd_neI (h : Q (.bl (!decide (a = b))) H) : oNe K (.int a) (.int b) H Q := .inl ⟨rfl, by
  have e : decide (V.int a = V.int b) = decide (a = b) := decide_eq_decide.mpr ⟨fun z => V.int.inj z, fun z => by rw [z]⟩
  rw [e]; exact h⟩
theorem rd_eqS {x y : Str} (h : Q (.bl (decide (x = y))) H) : oEq K (.str x) (.str y) H Q := .inl ⟨rfl, by
  have e : decide (V.str x = V.str y) = decide (x = y) := decide_eq_decide.mpr ⟨fun z => V.str.inj z, fun z => by rw [z]⟩
  rw [e]; exact h⟩
theorem rd_neS {x y : Str} (h : Q (.bl (!decide (x = y))) H) : oNe K (.str x) (.str y) H Q := .inl ⟨rfl, by
  have e : decide (V.str x = V.str y) = decide (x = y) := decide_eq_decide.mpr ⟨fun z => V.str.inj z, fun z => by rw [z]⟩
  rw [e]; exact h⟩
theorem rd_addS {x y : Str} (c : x.length + y.length ≤ sizeLine) (h : Q (.str (x ++ y)) H) : oAdd K (.str x) (.str y) H Q := .inr (.inl ⟨x, y, rfl, rfl, c, h⟩)
theorem rd_cat {l m : Addr} {xs ys : List V} (h1 : H l = some (.lst xs)) (h2 : H m = some (.lst ys)) (c : xs.length + ys.length ≤ sizeLine) (h : ∀ p, H p = none → Q (.ref p) (upd H p (.lst (xs ++ ys)))) : oAdd K (.ref l) (.ref m) H Q := .inr (.inr (.inl ⟨l, m, xs, ys, rfl, rfl, h1, h2, c, h⟩))
/-! calls of built-ins -/
end rd
/-! ### heaps -/
theorem ex_upd {H0 H : Hp} {p : Addr} {o : HO} (e : Ex H0 H) (h : H p = none) : Ex H0 (upd H p o) := fun a u q => by
  rw [upd_ne (ne_of_none (e a u q) h)]
  exact e a u q
theorem sq_upd {K : PySem.W.Frag} {H : Hp} {a p : Addr} {o : HO} {xs : List V} (hp : H p = none) (h : SqL K H a xs) : SqL K (upd H p o) a xs := Evl.ex_l (Evl.Ex.new hp) h
theorem sqt_upd {K : PySem.W.Frag} {H : Hp} {a p : Addr} {o : HO} {xs : List V} (hp : H p = none) (h : SqT K H a xs) : SqT K (upd H p o) a xs := Evl.ex_t (Evl.Ex.new hp) h
theorem at_upd {H : Hp} {a p : Addr} {o u : HO} (hp : H p = none) (h : H a = some u) : upd H p o a = some u := by
  rw [upd_ne (ne_of_none h hp)]; exact h

/-! ### more operators: in, len, slices, what is walked, repr -/
section
variable {X : Cx}
def oIn (K : PySem.W.Frag) : R2 := fun x y H Q => (∃ (c : Nat) (z : Str), x = .str ⟨#[c]⟩ ∧ y = .str z ∧ Q (.bl (decide (c ∈ z.cps.toList))) H) ∨ rIn K false x y H Q
def oNotIn (K : PySem.W.Frag) : R2 := fun x y H Q => (∃ (c : Nat) (z : Str), x = .str ⟨#[c]⟩ ∧ y = .str z ∧ Q (.bl (!decide (c ∈ z.cps.toList))) H) ∨ rIn K true x y H Q
theorem op_inP : OpR X (compareOp .In) (oIn X.K) := OpR.or op_in_sign op_in_seq
theorem op_notInP : OpR X (compareOp .NotIn) (oNotIn X.K) := OpR.or op_notIn_sign op_notIn_seq
def cLen (K : PySem.W.Frag) : List V → Hp → VK → Prop := fun xs H Q => (∃ x n, xs = [x] ∧ LenV K x H n ∧ Q (.int n) H) ∨ ∃ a kvs, xs = [V.ref a] ∧ H a = some (.dK kvs) ∧ Q (.int kvs.length) H
theorem call_lenP : CallR X (.builtin "len") (cLen X.K) := CallR.or call_len call_lenD
def cInt : List V → Hp → VK → Prop := fun xs H Q => (∃ i, xs = [.int i] ∧ Q (.int i) H) ∨ ∃ k, xs = [.bl k] ∧ Q (.int (if k then 1 else 0)) H
theorem call_intP : CallR X (.type "int") cInt := call_int1
def cAbs : List V → Hp → VK → Prop := fun xs H Q => ∃ i, xs = [.int i] ∧ Q (.int (if i < 0 then -i else i)) H
theorem call_absP : CallR X (.builtin "abs") cAbs := call_abs
def oSl (K : PySem.W.Frag) : V → Option Int → Option Int → Hp → VK → Prop := fun x lo hi H Q => rSlL K x lo hi H Q ∨ rSlS x lo hi H Q ∨ rSlA K x lo hi H Q
theorem sl_P : SlR X (oSl X.K) := SlR.or sl_list (SlR.or sl_str sl_tupA)
theorem PI.or {tg iter : Expr} {w w' : TI} (h : PI X tg iter w) (h' : PI X tg iter w') : PI X tg iter (fun σ H R => w σ H R ∨ w' σ H R) :=
  ⟨fun pins s σ H R I q => q.elim (h.run pins s σ H R I) (h'.run pins s σ H R I)⟩
def iAny (K : PySem.W.Frag) (te : TE) : TI := fun σ H R => iList K te σ H R ∨ iTup K te σ H R ∨ iStr te σ H R
theorem pi_any {tg e : Expr} {te : TE} (he : PE X e te) : PI X tg e (iAny X.K te) := PI.or (pi_list he) (PI.or (pi_tup he) (pi_str he))
theorem call_repr_bl : CallR X (.builtin "repr") (fun xs H Q => ∃ b, xs = [.bl b] ∧ Q (.str (if b then "True" else "False")) H) := by
  intro pins s σ H xs us Q I r h
  obtain ⟨b, rfl, q⟩ := h
  obtain ⟨u, rfl, ru⟩ := vals1 r
  cases (show u = Value.bool b from ru)
  exact PySem.P.repr_of_bool ⟨.str _, H, I.tok _, ⟨_, rfl⟩, q⟩
def cRepr : List V → Hp → VK → Prop := fun xs H Q => (∃ i, xs = [.int i] ∧ i.natAbs.log2 < 1920 ∧ Q (.str (toString i)) H) ∨ ∃ b, xs = [.bl b] ∧ Q (.str (if b then "True" else "False")) H
theorem call_reprP : CallR X (.builtin "repr") cRepr := CallR.or SkE.call_repr_int call_repr_bl
end
/-! ### own defs -/
/-- the def named x stands at f; all its parameters are written at a call -/
structure Own (K : PySem.W.Frag) (mg : Str → Option Value) (x : Str) (f : Addr) (fd : FuncData) (ps : List Str) : Prop where
  g : mg x = some (.ref f)
  k : PySem.W.keepIn K (.ref f) = true
  b : Binds K fd ps []
section
variable {X : Cx} {k : Nat} {f : Addr} {fd : FuncData} {ps : List Str} {sp : Sp} {x : Str} {p pos : Pos} {e : Expr} {es : List Expr} {t : TA}
def tCalled (sp : Sp) (t : TA) : TE := fun σ H Q => t σ H fun vs H1 => sp vs H1 Q E0
/-- a call of a def that raises nothing -/
theorem pe_callE (F : FnOk X.prog X.w X.K X.mg X.base CX0 k f fd ps sp) (hr : Room k X.A) (O : Own X.K X.mg x f fd ps) (ha : PA X (e :: es) t) (hg : Gl X x := by rfl)
    (hdb : (x == ("__debug__" : Str)) = false := by decide) (he : starEach (e :: es) X.env = (false, eval e X.env) :: starEach es X.env := by rfl) (hpl : (backTo pos (starEach es X.env)).any (·.1) = false := by rfl) :
    PE X (.Call (.Name x p) (e :: es) [] pos) (tCalled sp t) := pe_callS (E := fun _ => E0) F hr hg O.g O.k O.b (fun _ _ _ _ _ _ _ h => h.elim) ha hdb he hpl
def tCalledR (sp : Sp) (W : WX) (t : TA) : TE := fun σ H Q => t σ H fun vs H1 => sp vs H1 Q fun c d H2 => W c d σ H2
/-- a call of a def that may raise -/
theorem pe_callR {W : WX} (F : FnOk X.prog X.w X.K X.mg X.base (L2.CX X.prog X.w) k f fd ps sp) (hr : Room k X.A) (O : Own X.K X.mg x f fd ps) (tk : Takes X W) (ha : PA X (e :: es) t) (hg : Gl X x := by rfl)
    (hdb : (x == ("__debug__" : Str)) = false := by decide) (he : starEach (e :: es) X.env = (false, eval e X.env) :: starEach es X.env := by rfl) (hpl : (backTo pos (starEach es X.env)).any (·.1) = false := by rfl) :
    PE X (.Call (.Name x p) (e :: es) [] pos) (tCalledR sp W t) := pe_callS (E := WE W) F hr hg O.g O.k O.b (fun σ => passAt tk σ) ha hdb he hpl
end
/-! ### exceptions with the one attribute «what» -/
/-- the __init__ of the family: self.what = what -/
def spInit (K : PySem.W.Frag) : Sp := fun vs H Q _ => ∃ (a C : Addr) (v : V), vs = [.ref a, v] ∧ OexC K C ∧ PySem.W.findIn K (.ref C) "what" = some none ∧ H a = some (exo a C none) ∧
  ∀ dx, H dx = none → dx ≠ a → Q .non (upd (upd H dx (exd dx [("what", v)])) a (exo a C (some dx)))
/-- what the written part says of such a class -/
structure ErrX (K : PySem.W.Frag) (C fI : Addr) : Prop where
  ox : OexC K C
  xf : XfC K C
  nw : PySem.W.findIn K (.ref C) "what" = some none
  ini : PySem.W.findIn K (.ref C) "__init__" = some (some (.ref fI))
  cl : PySem.W.isClsIn K C = true
  cc : PySem.W.findIn K (.ref C) "__class__" = some (some (.builtin "object.__class__"))
  mo : PySem.W.mroIn K C (.type "object") = some true
  se : PySem.W.subIn K (.ref C) (.ref C) = some true
/-- of the builtin that tells an object's class -/
structure ClsB (K : PySem.W.Frag) : Prop where
  sp : PySem.W.specialIn K (.builtin "object.__class__") "__get__" = some (some (.builtin "getset_descriptor.__get__"))
  tk : PySem.W.takesIn K (.builtin "object.__class__") = some true
theorem mk_what {K : PySem.W.Frag} {C fI : Addr} {v : V} {H1 : Hp} {Q : XK} {vs : List V} (T : ErrX K C fI) (ev : vs = [v]) (h : ∀ d, H1 d = none → Q (.ref C) (some d) (upd H1 d (.xd [("what", v)]))) :
    vs.length ≤ 1000 ∧ ∀ a, H1 a = none → spInit K (.ref a :: (vs ++ [])) (upd H1 a (exo a C none))
      (fun u H2 => u = .non ∧ ∃ (d : Addr) (fs : List (Str × V)), H2 a = some (exo a C (some d)) ∧ H2 d = some (exd d fs) ∧ H1 d = none ∧ Q (.ref C) (some d) (upd (del H2 a) d (.xd fs))) (fun _ _ _ => False) := by
  subst ev
  refine ⟨by show 1 ≤ 1000; decide, fun a ha => ⟨a, C, v, rfl, T.ox, T.nw, upd_same, fun dx hdx ne => ⟨rfl, dx, [("what", v)], upd_same, ?_, ?_, ?_⟩⟩⟩
  · rw [upd_ne ne, upd_same]
  · rw [upd_ne ne] at hdx
    exact hdx
  · rw [upd_ne ne] at hdx
    have e : upd (del (upd (upd (upd H1 a (exo a C none)) dx (exd dx [("what", v)])) a (exo a C (some dx))) a) dx (.xd [("what", v)]) = upd H1 dx (.xd [("what", v)]) := by
      funext b
      by_cases h1 : b = dx
      · rw [h1, upd_same, upd_same]
      · rw [upd_ne h1, upd_ne h1]
        by_cases h2 : b = a
        · rw [h2, del_same, ha]
        · rw [del_ne h2, upd_ne h2, upd_ne h1, upd_ne h2]
    rw [e]
    exact h dx hdx
/-- raise C(e) -/
def tRaised (C : Addr) (W : WX) (ta : TA) : TS := fun _ σ H => ta σ H fun vs H1 => ∃ v, vs = [v] ∧ ∀ d, H1 d = none → W (.ref C) (some d) σ (upd H1 d (.xd [("what", v)]))
section
variable {X : Cx} {C fI : Addr} {fd : FuncData} {x : Str} {p pos pos2 : Pos} {e : Expr} {ta : TA} {W : WX}
theorem PA.imp {es : List Expr} {t t' : TA} (h : PA X es t) (hi : ∀ σ H Q, t' σ H Q → t σ H Q) : PA X es t' := ⟨fun pos pins s σ H Q I q => h.run pos pins s σ H Q I (hi σ H Q q)⟩
theorem PS.imp {st : Stmt} {t t' : TS} (h : PS X st t) (hi : ∀ D σ H, t' D σ H → t D σ H) : PS X st t' := ⟨fun pins s σ H D I q => h.run pins s σ H D I (hi D σ H q)⟩
/-- a reading is monotone in its wish -/
def MonoA (t : TA) : Prop := ∀ σ H (Q Q' : List V → Hp → Prop), (∀ vs H1, Q vs H1 → Q' vs H1) → t σ H Q → t σ H Q'
theorem ps_raiseW (hc : X.calm = true) (T : ErrX X.K C fI) (G : FnOk X.prog X.w X.K X.mg X.base CX0 1 fI fd ["self", "what"] (spInit X.K)) (tI : PySem.W.typeIn X.K (.ref fI) = some (.type "function")) (bI : Binds X.K fd ["self", "what"] []) (hr : Room 2 X.A) (hm : X.mg x = some (.ref C))
    (tk : Takes X W) (ha : PA X (e :: []) ta) (mo : MonoA ta) (hg : Gl X x := by rfl) (hdb : (x == ("__debug__" : Str)) = false := by decide)
    (he : starEach (e :: []) X.env = (false, eval e X.env) :: starEach [] X.env := by rfl) (hpl : (backTo pos (starEach [] X.env)).any (·.1) = false := by rfl) :
    PS X (.Raise (some (.Call (.Name x p) (e :: []) [] pos)) none pos2) (tRaised C W ta) := by
  refine PS.imp (ps_raise hc tk (pmk_oex (pos := pos) T.ox T.ini tI G hr bI .nil pass0 hg hm ha hdb he hpl)) fun D σ H q => ?_
  refine mo σ H _ _ (fun vs H1 q => ?_) q
  obtain ⟨v, ev, h⟩ := q
  exact mk_what (Q := fun c d H' => W c d σ H') T ev h
theorem MonoA.nil : MonoA tNil := fun _ _ _ _ h q => h _ _ q
theorem MonoA.one {te : TE} (m : ∀ σ H (Q Q' : VK), (∀ v H1, Q v H1 → Q' v H1) → te σ H Q → te σ H Q') : MonoA (tCons te tNil) := fun σ H Q Q' h q => m σ H _ _ (fun v H1 z => h _ _ z) q
theorem mono_var {i : Nat} : ∀ σ H (Q Q' : VK), (∀ v H1, Q v H1 → Q' v H1) → tVar i σ H Q → tVar i σ H Q' := fun _ _ _ _ h ⟨v, e, q⟩ => ⟨v, e, h _ _ q⟩
theorem mono_c {v : V} : ∀ σ H (Q Q' : VK), (∀ v H1, Q v H1 → Q' v H1) → tC v σ H Q → tC v σ H Q' := fun _ _ _ _ h q => h _ _ q
end
/-- isinstance(e, c), isinstance(e, (c, ..)): e the exception that the suite holds -/
def cIsE (K : PySem.W.Frag) (D a dd : Addr) : List V → Hp → VK → Prop := fun xs H Q => ∃ (fs : List (Str × V)) (b : Bool), H dd = some (.xd fs) ∧
  ((∃ (c : V) (cv : Value), xs = [.ref a, c] ∧ ClsV c cv ∧ PySem.W.kitOne K (.ref D) cv = some b) ∨ ∃ (tp : Addr) (cs : List V) (us : List Value), xs = [.ref a, .ref tp] ∧ H tp = some (.tup cs) ∧ Paired ClsV cs us ∧ PySem.W.kitAny K (.ref D) us = some b) ∧ Q (.bl b) H
theorem call_isX {X : Cx} {a D dd fI : Addr} {oe : Obj} {pn : List (Addr × Obj)} (T : ErrX X.K D fI) (B : ClsB X.K) (hz : Zc (.ref D) (some dd) oe) (hf : ∃ vs, oe.data = .fields vs) : CallR (X.suite a ((a, oe) :: pn)) (.builtin "isinstance") (cIsE X.K D a dd) := by
  intro pins s σ H xs us Q I r h
  obtain ⟨fs, b, hdd, hc, q⟩ := h
  obtain ⟨mA, hns, _⟩ := (show ObjOk X.prog X.w H s.heap dd (.xd fs) from I.hok dd _ hdd)
  obtain ⟨od, ho, _⟩ := lookIn_ns hns
  obtain ⟨hget, _⟩ := I.pin (a, oe) (List.mem_append.mpr (.inl List.mem_cons_self))
  obtain ⟨vs, hv⟩ := hf
  have J : PySem.W.InstAt s.heap a oe D (some od) := ⟨hget, hz.1, by unfold PySem.W.notCls; rw [hv] <;> rfl, by rw [hz.2]; exact ho⟩
  have Z : PySem.W.KitX X.K (.ref a) (.ref D) (fun h => PySem.W.InstAt h a oe D (some od)) := PySem.W.kitx_exc T.cl T.xf.ga T.xf.gg T.xf.exC T.cc B.sp B.tk T.mo
  rcases hc with ⟨c, cv, rfl, hcv, e⟩ | ⟨tp, cs, ws, rfl, hT, hcs, e⟩
  · obtain ⟨u1, u2, rfl, r1, r2⟩ := vals2 r
    cases (show u1 = Value.ref a from r1)
    have e2 := hcv.eq r2
    subst e2
    exact PySem.W.kia_one Z I.kIn J e (fun z => nomatch z) fun tk => ⟨.bl b, H, I.tok tk, rfl, q⟩
  · obtain ⟨u1, u2, rfl, r1, r2⟩ := vals2 r
    cases (show u1 = Value.ref a from r1)
    cases (show u2 = Value.ref tp from r2)
    obtain ⟨_, its, rv, o, h1, h2, n, h3⟩ := (show ObjOk X.prog X.w H s.heap tp (.tup cs) from I.hok tp _ hT)
    have e3 := ClsV.all hcs rv
    subst e3
    obtain ⟨oc, od', dt, sl⟩ := o
    simp only at h2 h3
    subst h2 h3
    exact PySem.W.kia_tup Z I.kIn J h1 e (fun z => nomatch z) fun tk => ⟨.bl b, H, I.tok tk, rfl, q⟩
/-- an own class or a class of Python's beside it: what isinstance says -/
theorem kit_ref {K : PySem.W.Frag} {D C fI : Addr} {b : Bool} (T : ErrX K D fI) (cl : PySem.W.isClsIn K C = true) (ty : PySem.W.typeIn K (.ref C) = some (.type "type")) (s : PySem.W.subIn K (.ref D) (.ref C) = some b) : PySem.W.kitOne K (.ref D) (.ref C) = some b := by
  by_cases e : D = C
  · subst e
    rw [T.se] at s
    obtain rfl : true = b := Option.some.inj s
    unfold PySem.W.kitOne
    rw [if_pos (by simp)]
  · unfold PySem.W.kitOne
    rw [if_neg (by simp [e])]
    show (if ((PySem.W.clsIn K C).isSome && PySem.W.typeIn K (.ref C) == some (.type "type")) = true then PySem.W.subIn K (.ref D) (.ref C) else none) = some b
    have e1 : (PySem.W.clsIn K C).isSome = true := cl
    rw [e1, ty, s]
    rfl
theorem kit_bt {K : PySem.W.Frag} {D : Addr} {n : String} {b : Bool} (m : PySem.W.kitMeta n = true) (s : PySem.W.subIn K (.ref D) (.type n) = some b) : PySem.W.kitOne K (.ref D) (.type n) = some b := by
  unfold PySem.W.kitOne
  rw [if_neg (by simp)]
  show (if PySem.W.kitMeta n = true then PySem.W.subIn K (.ref D) (.type n) else none) = some b
  rw [if_pos m, s]

theorem PSs.exi {ι : Type} {X : Cx} {st : List Stmt} {P : ι → Prop} {t : ι → TS} (h : ∀ i, P i → PSs X st (t i)) : PSs X st (fun D σ H => ∃ i, P i ∧ t i D σ H) :=
  ⟨fun pins s σ H D I ⟨i, p, q⟩ => (h i p).run pins s σ H D I q⟩
/-- what a suite knows of its exception: its class, its dict, where the family's __init__ stands -/
structure Caught (K : PySem.W.Frag) (cls : Value) (d : Option Addr) (i : Addr × Addr × Addr) : Prop where
  c : cls = .ref i.1
  e : d = some i.2.1
  x : ErrX K i.1 i.2.2
theorem Caught.z {K : PySem.W.Frag} {cls : Value} {d : Option Addr} {i : Addr × Addr × Addr} {oe : Obj} (h : Caught K cls d i) (hz : Zc cls d oe) : Zc (.ref i.1) (some i.2.1) oe := ⟨hz.1.trans h.c, hz.2.trans h.e⟩
/-! ### reading of calls -/
section
variable {K : PySem.W.Frag} {σ : L2.St} {H : Hp} {Q : VK} {D : Ends} {tl : TA} {te ta tb : TE} {a : Int} {v x : V} {n : Nat} {W : WX} {C : Addr}
theorem rd_called {sp : Sp} (h : tl σ H fun vs H1 => sp vs H1 Q E0) : tCalled sp tl σ H Q := h
theorem rd_calledR {sp : Sp} (h : tl σ H fun vs H1 => sp vs H1 Q fun c d H2 => W c d σ H2) : tCalledR sp W tl σ H Q := h
theorem rd_raised (h : tl σ H fun vs H1 => ∃ v, vs = [v] ∧ ∀ d, H1 d = none → W (.ref C) (some d) σ (upd H1 d (.xd [("what", v)]))) : tRaised C W tl D σ H := h
theorem rd_raised1 {P : V → Prop} (h : P v) : ∃ v', [v] = [v'] ∧ P v' := ⟨v, rfl, h⟩
theorem rd_int (h : Q (.int a) H) : cInt [.int a] H Q := .inl ⟨a, rfl, h⟩
theorem rd_abs (h : Q (.int (if a < 0 then -a else a)) H) : cAbs [.int a] H Q := ⟨a, rfl, h⟩
theorem rd_lenL {p : Addr} {xs : List V} (e : SqL K H p xs) (h : Q (.int (xs.length : Nat)) H) : cLen K [.ref p] H Q := .inl ⟨_, _, rfl, .inl ⟨xs, e, rfl⟩, h⟩
theorem rd_lenT {p : Addr} {xs : List V} (e : SqT K H p xs) (h : Q (.int (xs.length : Nat)) H) : cLen K [.ref p] H Q := .inl ⟨_, _, rfl, .inr ⟨xs, e, rfl⟩, h⟩
theorem rd_lenS {z : Str} (e : z.length ≤ sizeLine) (h : Q (.int (z.length : Nat)) H) : cLen K [.str z] H Q := .inl ⟨_, _, rfl, ⟨e, rfl⟩, h⟩
theorem rd_ixL {p : Addr} {xs : List V} (e : SqL K H p xs) (ha : atI xs a = some v) (h : Q v H) : rIx K (.ref p) (.int a) H Q := .inl ⟨p, xs, a, v, rfl, rfl, e, ha, h⟩
theorem rd_ixT {p : Addr} {xs : List V} (e : SqT K H p xs) (ha : atI xs a = some v) (h : Q v H) : rIx K (.ref p) (.int a) H Q := .inr (.inl ⟨p, xs, a, v, rfl, rfl, e, ha, h⟩)
theorem rd_ixS {z : Str} {c : Nat} (e : z.length ≤ sizeLine) (ha : atI z.cps.toList a = some c) (h : Q (.str ⟨#[c]⟩) H) : rIx K (.str z) (.int a) H Q := .inr (.inr ⟨z, a, c, rfl, rfl, e, ha, h⟩)
theorem rd_inS {c : Nat} {z : Str} (h : Q (.bl (decide (c ∈ z.cps.toList))) H) : oIn K (.str ⟨#[c]⟩) (.str z) H Q := .inl ⟨c, z, rfl, rfl, h⟩
theorem rd_niS {c : Nat} {z : Str} (h : Q (.bl (!decide (c ∈ z.cps.toList))) H) : oNotIn K (.str ⟨#[c]⟩) (.str z) H Q := .inl ⟨c, z, rfl, rfl, h⟩
theorem rd_rng1 {ta : TA} {R : It → Hp → Prop} (h : ta σ H fun vs H1 => ∃ j : Int, vs = [.int j] ∧ -(2 ^ 62) ≤ j ∧ j < 2 ^ 62 ∧ R (Itr 0 j.toNat) H1) : iRng1 ta σ H R := h
theorem rd_rng2 {ta : TA} {R : It → Hp → Prop} (h : ta σ H fun vs H1 => ∃ i j : Int, vs = [.int i, .int j] ∧ (-(2 ^ 62) ≤ i ∧ i < 2 ^ 62 ∧ -(2 ^ 62) ≤ j ∧ j < 2 ^ 62) ∧ R (Itr i (j - i).toNat) H1) : iRng2 ta σ H R := h
theorem rd_bm {T : String} {r : V → List V → Hp → VK → Prop} {to : TE} {t : TA} (h : to σ H fun x H1 => tyV K T x H1 ∧ t σ H1 fun xs H2 => r x xs H2 Q) : tBM K T r to t σ H Q := h
theorem rd_andV (h : ta σ H fun x H1 => ∃ c, x = .bl c ∧ if c = true then tb σ H1 Q else Q (.bl false) H1) : tAndV ta tb σ H Q := h
theorem rd_orV (h : ta σ H fun x H1 => ∃ c, x = .bl c ∧ if c = true then Q (.bl true) H1 else tb σ H1 Q) : tOrV ta tb σ H Q := h
theorem rd_sl {r : V → Option Int → Option Int → Hp → VK → Prop} {tl th : TO} (h : te σ H fun x H1 => tl σ H1 fun l H2 => th σ H2 fun u H3 => r x l u H3 Q) : tSl r te tl th σ H Q := h
theorem rd_noPart {Q : Option Int → Hp → Prop} (h : Q none H) : tNoPart σ H Q := h
theorem rd_part {Q : Option Int → Hp → Prop} (h : te σ H fun x H1 => ∃ i, x = .int i ∧ Q (some i) H1) : tPart te σ H Q := h
theorem rd_intv {P : Int → Prop} (h : P a) : ∃ i, V.int a = .int i ∧ P i := ⟨a, rfl, h⟩
theorem rd_slS {z : Str} {lo hi : Option Int} (e : z.length ≤ sizeLine) (h : Q (.str (cutS z lo hi)) H) : oSl K (.str z) lo hi H Q := .inr (.inl ⟨z, rfl, e, h⟩)
end

section
variable {CX : CXT} {P : Program} {w : World} {K : PySem.W.Frag} {mg : Str → Option Value} {base : Heap} {N : List Str} {q : Str} {sc : Scope} {f : Addr} {cdv : Value} {A : Around} {outer : List Env} {s : Shared} {H : Hp} {E : XK}
theorem cxK : (cxOf CX P w K mg base N q sc f cdv A outer s H E).nox.K = K := rfl
theorem cxK' : (cxOf CX P w K mg base N q sc f cdv A outer s H E).K = K := rfl
end

/-! ### loops and comprehensions -/
def forB (g : TG) (tb : TS) (D : Ends) (σ : L2.St) (J : It) (H : Hp) : Prop := tFor (fun _ H R => R J H) g tb D σ H
def lcB (g : TG) (tt : TT) (te : TE) (vs : List Nat) (σ : L2.St) (Q : VK) (J : It) (H : Hp) : Prop := tLc (fun _ H R => R J H) g tt te vs σ H Q
section
variable {K : PySem.W.Frag} {σ : L2.St} {H : Hp} {Q : VK} {D : Ends} {wi : TI} {g : TG} {tb : TS} {tt : TT} {te : TE} {vs : List Nat} {J : It} {n : Nat} {G : Hp → Prop} {Y : Nat → Hp → V → Hp → Prop} {R : It → Hp → Prop}
theorem rd_for (h : wi σ H (forB g tb D σ)) : tFor wi g tb D σ H := h
theorem rd_lc (h : wi σ H (lcB g tt te vs σ Q)) : tLc wi g tt te vs σ H Q := h
theorem fo_range {n : Nat} (Pv : Nat → L2.St → Hp → Prop) (h0 : Pv 0 σ H) (hs : ∀ (i : Nat) σ H, i < n → Pv i σ H → g (.int (i : Int)) σ H fun σ2 H2 => tb { D with nx := Pv (i + 1), ct := Pv (i + 1), bk := D.nx } σ2 H2) (hd : ∀ σ H, Pv n σ H → D.nx σ H) : forB g tb D σ (Itr 0 n) H :=
  for_range (lo := 0) Pv h0 (fun i σ H hi p => by rw [Int.zero_add]; exact hs i σ H hi p) hd
theorem fo_range2 {lo : Int} {n : Nat} (Pv : Nat → L2.St → Hp → Prop) (h0 : Pv 0 σ H) (hs : ∀ (i : Nat) σ H, i < n → Pv i σ H → g (.int (lo + (i : Int))) σ H fun σ2 H2 => tb { D with nx := Pv (i + 1), ct := Pv (i + 1), bk := D.nx } σ2 H2) (hd : ∀ σ H, Pv n σ H → D.nx σ H) : forB g tb D σ (Itr lo n) H :=
  for_range (lo := lo) Pv h0 hs hd
theorem fo_it (w : Walk J n G Y) (Pv : Nat → L2.St → Hp → Prop) (h0 : Pv 0 σ H) (hG : ∀ i σ H, i ≤ n → Pv i σ H → G H)
    (hs : ∀ i x σ H H', i < n → Pv i σ H → Y i H x H' → g x σ H' fun σ2 H2 => tb { D with nx := Pv (i + 1), ct := Pv (i + 1), bk := D.nx } σ2 H2) (hd : ∀ σ H, Pv n σ H → D.nx σ H) : forB g tb D σ J H := for_it w Pv h0 hG hs hd
/-- over a text -/
theorem fo_str {z : Str} (Pv : Nat → L2.St → Hp → Prop) (h0 : Pv 0 σ H) (hs : ∀ (i : Nat) c σ H, z.cps.toList[i]? = some c → Pv i σ H → g (.str ⟨#[c]⟩) σ H fun σ2 H2 => tb { D with nx := Pv (i + 1), ct := Pv (i + 1), bk := D.nx } σ2 H2) (hd : ∀ σ H, Pv z.length σ H → D.nx σ H) : forB g tb D σ (Its z) H :=
  fo_it walk_str Pv h0 (fun _ _ _ _ _ => True.intro) (fun i x σ H H' hi p y => by
    obtain ⟨rfl, c, e, rfl⟩ := y
    exact hs i c σ _ (by rw [Array.getElem?_toList]; exact e) p) hd
theorem fo_list {a : Addr} {xs : List V} (Pv : Nat → L2.St → Hp → Prop) (h0 : Pv 0 σ H) (hl : ∀ i σ H, i ≤ xs.length → Pv i σ H → SqL K H a xs) (hs : ∀ (i : Nat) x σ H, xs[i]? = some x → Pv i σ H → g x σ H fun σ2 H2 => tb { D with nx := Pv (i + 1), ct := Pv (i + 1), bk := D.nx } σ2 H2)
    (hd : ∀ σ H, Pv xs.length σ H → D.nx σ H) : forB g tb D σ (Itl K a) H := for_list Pv h0 hl hs hd
theorem fo_tup {a : Addr} {xs : List V} (Pv : Nat → L2.St → Hp → Prop) (h0 : Pv 0 σ H) (hl : ∀ i σ H, i ≤ xs.length → Pv i σ H → SqT K H a xs) (hs : ∀ (i : Nat) x σ H, xs[i]? = some x → Pv i σ H → g x σ H fun σ2 H2 => tb { D with nx := Pv (i + 1), ct := Pv (i + 1), bk := D.nx } σ2 H2)
    (hd : ∀ σ H, Pv xs.length σ H → D.nx σ H) : forB g tb D σ (Itt K a) H := for_tup Pv h0 hl hs hd
/-- what is walked -/
theorem rd_anyL {a : Addr} {xs : List V} {te : TE} (he : ∀ Q : VK, Q (.ref a) H → te σ H Q) (hs : SqL K H a xs) (h : R (Itl K a) H) : iAny K te σ H R := .inl (he _ ⟨a, rfl, ⟨xs, hs⟩, h⟩)
theorem rd_anyT {a : Addr} {xs : List V} {te : TE} (he : ∀ Q : VK, Q (.ref a) H → te σ H Q) (hs : SqT K H a xs) (h : R (Itt K a) H) : iAny K te σ H R := .inr (.inl (he _ ⟨a, rfl, ⟨xs, hs⟩, h⟩))
theorem rd_anyS {z : Str} {te : TE} (he : ∀ Q : VK, Q (.str z) H → te σ H Q) (h : R (Its z) H) : iAny K te σ H R := .inr (.inr (he _ ⟨z, rfl, h⟩))
/-- a comprehension whose parts leave the heap -/
theorem lc_pure {j : Nat} {xs : Nat → V} {f : Nat → Bool} {v : Nat → V} (w : Walk J n G Y) (hY : ∀ i H x H', i < n → Y i H x H' → H' = H ∧ x = xs i) (hG : ∀ Hc, Ex H Hc → G Hc) (hn : n < 100000)
    (ht : ∀ i Hc, i < n → Ex H Hc → Ans tt ((wipe σ [j]).set j (some (xs i))) Hc (f i)) (he : ∀ i Hc, i < n → Ex H Hc → f i = true → Val te ((wipe σ [j]).set j (some (xs i))) Hc (v i))
    (h : ∀ L, H L = none → Q (.ref L) (upd H L (.lst (Evl.given n f v)))) : lcB (gName j) tt te [j] σ Q J H := by
  intro L hL
  have hz : ∀ m, m ≤ n → (Evl.given m f v).length < sizeLine := fun m hm => Nat.lt_of_le_of_lt (Evl.given_len m f v) (Nat.lt_of_le_of_lt hm (Nat.lt_trans hn (by decide)))
  refine lc_it w (fun i Hc => i ≤ n ∧ Hc = upd H L (.lst (Evl.given i f v))) ⟨Nat.zero_le _, rfl⟩ (fun i Hc _ p => ?_) (fun i x Hc H' hi p y => ?_) fun Hc p => ?_
  · obtain ⟨_, rfl⟩ := p
    exact hG _ (Evl.Ex.new hL)
  · obtain ⟨hi1, rfl⟩ := p
    obtain ⟨rfl, rfl⟩ := hY _ _ _ _ hi y
    have e0 := Evl.Ex.new (o := .lst (Evl.given i f v)) hL
    refine ⟨by simp [wipe], ?_⟩
    refine ht i _ hi e0 _ ?_
    cases hf : f i with
    | true =>
      refine rd_iteT ?_
      refine he i _ hi e0 hf _ ?_
      refine ⟨_, upd_same, hz i (Nat.le_of_lt hi), hi, ?_⟩
      rw [upd_upd, Evl.given_yes hf]
    | false =>
      refine rd_iteF ⟨hi, ?_⟩
      rw [Evl.given_no hf]
  · obtain ⟨_, rfl⟩ := p
    exact h L hL
theorem rd_yes {QB : Bool → Hp → Prop} (h : QB true H) : tYes σ H QB := h
theorem ans_yes : Ans tYes σ H true := fun _ q => q
end
/-- the list that is given -/
theorem given_eq {α : Type} (l : List α) (p : α → Bool) (f : α → V) (q : Nat → Bool) (v : Nat → V) (hq : ∀ i x, l[i]? = some x → q i = p x) (hv : ∀ i x, l[i]? = some x → v i = f x) : ∀ n, n ≤ l.length → Evl.given n q v = ((l.take n).filter p).map f
  | 0, _ => rfl
  | n + 1, h => by
    have hx : l[n]? = some (l[n]'h) := List.getElem?_eq_getElem h
    have ih := given_eq l p f q v hq hv n (Nat.le_of_lt h)
    rw [List.take_succ, hx]
    cases e : p (l[n]'h) with
    | true =>
      rw [Evl.given_yes ((hq _ _ hx).trans e), ih, List.filter_append, List.map_append, hv _ _ hx]
      simp [e]
    | false =>
      rw [Evl.given_no ((hq _ _ hx).trans e), ih, List.filter_append, List.map_append]
      simp [e]

theorem rd_gsub {to ti : TE} {t : TSet} {v : V} {σ : L2.St} {H : Hp} {Q : L2.St → Hp → Prop} (h : to σ H fun o H1 => ti σ H1 fun i H2 => t o i v H2 fun H3 => Q σ H3) : gSub to ti t v σ H Q := h
theorem rd_while {tt : TT} {tb : TS} {D : Ends} {σ : L2.St} {H : Hp} (Pv : L2.St → Hp → Prop) (μ : L2.St → Hp → Nat) (h0 : Pv σ H)
    (hs : ∀ σ H, Pv σ H → tt σ H fun b H1 => if b = true then tb { D with nx := fun σ' H' => Pv σ' H' ∧ μ σ' H' < μ σ H, ct := fun σ' H' => Pv σ' H' ∧ μ σ' H' < μ σ H, bk := D.nx } σ H1 else D.nx σ H1)
    (mono : ∀ σ H Q Q', (∀ b H1, Q b H1 → Q' b H1) → tt σ H Q → tt σ H Q') : tWhile tt tb D σ H := while_by Pv μ h0 hs mono

/-! ### the same, the written part named -/
section
variable {X : Cx} (K : PySem.W.Frag) (hK : X.K = K := by rfl)
include hK
theorem kAdd : OpR X (binaryOp .Add) (oAdd K) := hK ▸ op_addP
theorem kEq (hu : X.A.units + 64 < cLine) : OpR X (compareOp .Eq) (oEq K) := hK ▸ op_eqP hu
theorem kNe (hu : X.A.units + 64 < cLine) : OpR X (compareOp .NotEq) (oNe K) := hK ▸ op_neP hu
theorem kIn : OpR X (compareOp .In) (oIn K) := hK ▸ op_inP
theorem kNotIn : OpR X (compareOp .NotIn) (oNotIn K) := hK ▸ op_notInP
theorem kLen : CallR X (.builtin "len") (cLen K) := hK ▸ call_lenP
theorem kSl : SlR X (oSl K) := hK ▸ sl_P
theorem kIx : IxR X (rIx K) := hK ▸ ix_seq
theorem kAny {tg e : Expr} {te : TE} (he : PE X e te) : PI X tg e (iAny K te) := hK ▸ pi_any he
theorem kAll (hc : X.calm = true := by rfl) : CallR X (.builtin "all") (rAll K) := hK ▸ cr_all hc
theorem kAnyOf (hc : X.calm = true := by rfl) : CallR X (.builtin "any") (rAny K) := hK ▸ cr_any hc
theorem kSum (hc : X.calm = true := by rfl) : CallR X (.builtin "sum") (rSum K) := hK ▸ cr_sum hc
end
section
variable {X : Cx} {x : Str} {pos : Pos}
theorem pe_globS {s : Str} {t : Tok} (hg : Gl X x) (hm : X.mg x = some (.str s t)) (hd : (x == ("__debug__" : Str)) = false := by decide) : PE X (.Name x pos) (tC (.str s)) := pe_glob hg hm ⟨t, rfl⟩ hd
theorem pe_globI {i : Int} {t : Tok} (hg : Gl X x) (hm : X.mg x = some (.int i t)) (hd : (x == ("__debug__" : Str)) = false := by decide) : PE X (.Name x pos) (tC (.int i)) := pe_glob hg hm ⟨t, rfl⟩ hd
theorem pe_globR {a : Addr} (hg : Gl X x) (hm : X.mg x = some (.ref a)) (hd : (x == ("__debug__" : Str)) = false := by decide) : PE X (.Name x pos) (tC (.ref a)) := pe_glob (v := .ref a) hg hm rfl hd
end

theorem rd_iteNF {A B : Prop} (h : A) : if (!false) = true then A else B := iteT h
theorem rd_iteNT {A B : Prop} (h : B) : if (!true) = true then A else B := iteF h

section
variable {X : Cx} {x : Str} {pos : Pos}
theorem pe_blT {n : String} (hg : Gl X x) (hm : X.mg x = none) (hv : bootBuiltins x = some (.type n)) (hn : x ≠ "__name__" := by decide) (hd : (x == ("__debug__" : Str)) = false := by decide) : PE X (.Name x pos) (tC (.ty n)) := pe_bltn (v := .ty n) hg hm hv rfl hn hd
end
/-! ### lists of flat values compared -/
def okS (z : Str) : Prop := PyData.strOk z = true
theorem okS_iff {z : Str} : okS z ↔ ∀ c ∈ z.cps.toList, c < 0x110000 := by
  unfold okS PyData.strOk
  rw [← Array.all_toList, List.all_eq_true]
  exact ⟨fun h c hc => by simpa using h c hc, fun h c hc => by simpa using h c hc⟩
theorem okS_app {x y : Str} (hx : okS x) (hy : okS y) : okS (x ++ y) := okS_iff.mpr fun c hc => by
  have e : (x ++ y).cps.toList = x.cps.toList ++ y.cps.toList := TL.tl_append x y
  rw [e] at hc
  exact (List.mem_append.mp hc).elim (okS_iff.mp hx c) (okS_iff.mp hy c)
theorem okS_one {z : Str} {c : Nat} (hz : okS z) (hc : c ∈ z.cps.toList) : okS ⟨#[c]⟩ := okS_iff.mpr fun d hd => by
  have e : d = c := by simpa using hd
  rw [e]
  exact okS_iff.mp hz c hc
theorem okS_sub {x y : Str} (hy : okS y) (h : ∀ c ∈ x.cps.toList, c ∈ y.cps.toList) : okS x := okS_iff.mpr fun c hc => okS_iff.mp hy c (h c hc)
def dOf : V → PyData
  | .bl b => .bool b
  | .int i => .int i
  | .str x => .str x
  | _ => .none
def flat1 : V → Bool
  | .non => true
  | .bl _ => true
  | .int _ => true
  | .str x => PyData.strOk x
  | _ => false
theorem dp_flat {K : PySem.W.Frag} {H : Hp} {v : V} (h : flat1 v = true) : Dp K H v (dOf v) := by
  cases v with
  | non => exact .non
  | bl b => exact .bl b
  | int i => exact .int i
  | str x => exact .str x
  | byt _ => exact absurd h Bool.false_ne_true
  | flt _ => exact absurd h Bool.false_ne_true
  | ref _ => exact absurd h Bool.false_ne_true
  | ty _ => exact absurd h Bool.false_ne_true
theorem lay_flat {v : V} (h : flat1 v = true) : (dOf v).canLay0 = true ∧ (dOf v).depth = 0 := by
  cases v with
  | str x => exact ⟨h, rfl⟩
  | _ => exact ⟨rfl, rfl⟩
theorem dpAll_flat {K : PySem.W.Frag} {H : Hp} : ∀ {xs : List V}, xs.all flat1 = true → DpAll K H xs (xs.map dOf)
  | [], _ => .nil
  | v :: xs, h => by
    rw [List.all_cons, Bool.and_eq_true] at h
    exact .cons (dp_flat h.1) (dpAll_flat h.2)
theorem lay_all : ∀ {xs : List V}, xs.all flat1 = true → PyData.canLayAll0 (xs.map dOf) = true ∧ PyData.depthAll (xs.map dOf) = 0
  | [], _ => ⟨rfl, rfl⟩
  | v :: xs, h => by
    rw [List.all_cons, Bool.and_eq_true] at h
    obtain ⟨h1, h2⟩ := lay_flat h.1
    obtain ⟨h3, h4⟩ := lay_all h.2
    refine ⟨?_, ?_⟩
    · show ((dOf v).canLay0 && PyData.canLayAll0 (xs.map dOf)) = true
      rw [h1, h3]
      rfl
    · show max (dOf v).depth (PyData.depthAll (xs.map dOf)) = 0
      rw [h2, h4]
      rfl
theorem shaped_list {xs : List V} (h : xs.all flat1 = true) : SeqAt.shaped (.list (xs.map dOf)) = true := by
  obtain ⟨h1, h2⟩ := lay_all h
  refine Bool.and_eq_true_iff.mpr ⟨h1, decide_eq_true ?_⟩
  show PyData.depthAll (xs.map dOf) + 1 ≤ 64
  rw [h2]
  decide
theorem refl_list {xs : List V} (h : xs.all flat1 = true) : PyData.eqv (.list (xs.map dOf)) (.list (xs.map dOf)) = true := SeqAt.eqv_refl _ (lay_all h).1
section
variable {K : PySem.W.Frag} {p q : Addr} {xs : List V} {H : Hp} {Q : VK}
theorem rd_neL (hp : SqL K H p xs) (hq : SqL K H q xs) (hf : xs.all flat1 = true) (h : Q (.bl false) H) : oNe K (.ref p) (.ref q) H Q :=
  .inr ⟨_, _, .lst hp (dpAll_flat hf), .lst hq (dpAll_flat hf), shaped_list hf, shaped_list hf, by rw [refl_list hf]; exact h⟩
theorem rd_eqL (hp : SqL K H p xs) (hq : SqL K H q xs) (hf : xs.all flat1 = true) (h : Q (.bl true) H) : oEq K (.ref p) (.ref q) H Q :=
  .inr ⟨_, _, .lst hp (dpAll_flat hf), .lst hq (dpAll_flat hf), shaped_list hf, shaped_list hf, by rw [refl_list hf]; exact h⟩
theorem rd_eqNil (hp : SqL K H p xs) (hq : SqL K H q []) (hf : xs.all flat1 = true) (h : Q (.bl xs.isEmpty) H) : oEq K (.ref p) (.ref q) H Q :=
  .inr ⟨_, .list [], .lst hp (dpAll_flat hf), .lst hq .nil, shaped_list hf, rfl, by
    cases xs with
    | nil => exact h
    | cons a r => exact h⟩
end
theorem rd_reprB {b : Bool} {H : Hp} {Q : VK} (h : Q (.str (if b then "True" else "False")) H) : cRepr [.bl b] H Q := .inr ⟨b, rfl, h⟩

section
variable {σ : L2.St} {H : Hp} {Q : VK} {D : Ends} {t u : TS} {te ta tb : TE} {g : TG} {a b : Bool}
theorem rd_seqA (h : tAsg te g { D with nx := u D } σ H) : tSeq (tAsg te g) u D σ H := h
theorem rd_seqD (h : tDrop te { D with nx := u D } σ H) : tSeq (tDrop te) u D σ H := h
/-- a statement, then the rest: R is what holds between -/
theorem rd_cut (R : L2.St → Hp → Prop) (h1 : ∀ N : L2.St → Hp → Prop, (∀ σ H, R σ H → N σ H) → t { D with nx := N } σ H) (h2 : ∀ σ H, R σ H → u D σ H) : tSeq t u D σ H := h1 (u D) h2
theorem val_andV (h1 : Val ta σ H (.bl a)) (h2 : a = true → Val tb σ H (.bl b)) : Val (tAndV ta tb) σ H (.bl (a && b)) := fun Q q => h1 _ ⟨a, rfl, by
  cases a with
  | true => exact iteT (h2 rfl _ q)
  | false => exact iteF q⟩
theorem val_orV (h1 : Val ta σ H (.bl a)) (h2 : a = false → Val tb σ H (.bl b)) : Val (tOrV ta tb) σ H (.bl (a || b)) := fun Q q => h1 _ ⟨a, rfl, by
  cases a with
  | true => exact iteT q
  | false => exact iteF (h2 rfl _ q)⟩
theorem val_is {v w : V} (h : Val te σ H v) (e : v = w) : Val te σ H w := e ▸ h
theorem rd_val {v : V} (h : Val te σ H v) (q : Q v H) : te σ H Q := h Q q
end

theorem rd_idS {t u : TS} {D : Ends} {σ : L2.St} {H : Hp} (h : tSeq t u D σ H) : tSeq t u D σ H := h
theorem rd_idI {c : TT} {t u : TS} {D : Ends} {σ : L2.St} {H : Hp} (h : tIfS c t u D σ H) : tIfS c t u D σ H := h
end AT

set_option Elab.async false
set_option linter.all false
set_option maxRecDepth 100000
set_option maxHeartbeats 4000000
/-! own words, second part: objects that are made and asked where something may be raised; data; tuples -/
namespace AT
open PySem PySem.Spec L2
section
variable {X : Cx} {Cx1 : CXT} {n : Nat} {fa Ca : Addr} {fn : FuncData} {pr : List Str} {pm : Sp} {W : WX} {nm mt : Str} {q1 q2 q3 : Pos} {o a0 : Expr} {as : List Expr} {to : TE} {ta : TA}
/-- C(..) whose __init__ may raise -/
def tMakeR (C : Addr) (sp : Sp) (W : WX) (t : TA) : TE := fun σ H Q => t σ H fun vs H1 => ∀ x dx, H1 x = none → H1 dx = none → dx ≠ x → sp (.ref x :: vs) (upd (upd H1 dx (.own x)) x (.ins C dx [])) (fun v H2 => v = .non ∧ Q (.ref x) H2) fun c d H2 => W c d σ H2
theorem pe_makeR (M : Mk X.K Ca fa) (G : FnOk X.prog X.w X.K X.mg X.base (L2.CX X.prog X.w) n fa fn pr pm) (hr : Room (n + 1) X.A) (hm : X.mg nm = some (.ref Ca)) (hb : Binds X.K fn pr []) (tk : Takes X W) (ha : PA X (a0 :: as) ta) (hg : Gl X nm := by rfl)
    (hdb : (nm == ("__debug__" : Str)) = false := by decide) (he : starEach (a0 :: as) X.env = (false, eval a0 X.env) :: starEach as X.env := by rfl) (hpl : (backTo q2 (starEach as X.env)).any (·.1) = false := by rfl) :
    PE X (.Call (.Name nm q1) (a0 :: as) [] q2) (tMakeR Ca pm W ta) := by
  refine ⟨fun P s σ H Q I h => wpAny_Call_Name_kw (ld_glob I hg hm ?_ hdb)⟩
  refine PySem.W.callWith_K (h₀ := X.base) I.ok.mod.kin M.kp (thn (ha.run q2 P s σ H _ I h) fun us t ⟨vs, H1, J, rv, q⟩ => ⟨J.kIn, ?_⟩) he hpl
  have fresh1 := J.hok.fresh (Nat.le_succ t.heap.objs.size)
  have fresh0 := J.hok.fresh (Nat.le_refl t.heap.objs.size)
  have asked := q _ _ fresh1 fresh0 (Nat.ne_of_lt (Nat.lt_succ_self _))
  have J2 := Inv.made (C := Ca) J
  have rel : Vals (V.ref (t.heap.objs.size + 1) :: vs) (Value.ref (t.heap.objs.size + 1) :: us) := .cons rfl rv
  have len : (Value.ref (t.heap.objs.size + 1) :: us ++ []).length = pr.length := by
    rw [List.append_nil, ← rel.length]
    exact G.len _ _ _ _ asked
  have bind := hb _ (Value.ref (t.heap.objs.size + 1) :: us) J2.kIn len
  rw [List.append_nil] at bind
  have ran := G.run _ X.stack _ _ ⟨Value.ref (t.heap.objs.size + 1) :: us, []⟩ _ _ _ (fun c d H2 => W c d σ H2) (hr.make Ca us []) (J2.env0.make Ca us []) bind rel asked
  refine wpAny_call (make_map (f := fa) J.kIn M.makes M.init (beq_iff_eq.mp M.fn) (codeAny_mono ran fun res z hz => ?_))
  cases res with
  | error er => exact passAt tk σ _ _ _ _ _ J2 hz
  | ok fl =>
    cases fl with
    | ret u =>
      have back := J2.after hz
      obtain ⟨v, H3, J3, r3, e3, q3⟩ := back
      subst e3
      exact ⟨r3, .ref (t.heap.objs.size + 1), H3, J3, rfl, q3⟩
    | next => exact hz.elim
    | brk => exact hz.elim
    | cont => exact hz.elim
/-- o.m(..) whose m may raise -/
def tMethR (C : Addr) (m : Str) (sp : Sp) (W : WX) (to : TE) (t : TA) : TE := fun σ H Q => to σ H fun x H1 => ∃ a dx fs, x = .ref a ∧ H1 a = some (.ins C dx fs) ∧ fs.lookup m = none ∧ t σ H1 fun vs H2 => sp (x :: vs) H2 Q fun c d H3 => W c d σ H3
theorem pe_methRs {pl : Sem Bool} (hmt : Meth X.K Ca mt fa) (cl : Cls X.K Ca) (ho : PE X o to) (G : FnOk X.prog X.w X.K X.mg X.base (L2.CX X.prog X.w) n fa fn pr pm) (hr : Room n X.A) (hb : Binds X.K fn pr []) (tk : Takes X W) (ha : PA X (a0 :: as) ta)
    (hst : starEach (a0 :: as) X.env = (false, eval a0 X.env) :: starEach as X.env := by rfl) (hpl : (backTo q2 (starEach as X.env)).any (·.1) = false := by rfl)
    (ht : eval (.Call (.Attribute o mt q3) (a0 :: as) [] q2) X.env = (do
      let r ← eval o X.env
      standAt q3.atName
      let (g, more) ← holding [r] (getMethod r mt pl)
      callWith q2 g more (backTo q2 (starEach (a0 :: as) X.env)) (backToKw q2 (keywordEach [] X.env))) := by rfl) : PE X (.Call (.Attribute o mt q3) (a0 :: as) [] q2) (tMethR Ca mt pm W to ta) := by
  refine ⟨fun P s σ H Q I h => PySem.W.methodCall_KW (pl := pl) (thn (ho.run P s σ H _ I h) fun u t ⟨x, H1, J, rx, a, dx, fs, ex, ea, nl, q⟩ => ?_) ht⟩
  subst ex
  obtain rfl : u = Value.ref a := rx
  refine getmeth_ok J ea cl hmt nl (PySem.W.callWith_K (first := [.ref a]) (h₀ := X.base) J.ok.mod.kin hmt.kp (thn (ha.run q2 P t σ H1 _ J q) fun us t2 ⟨vs, H2, J2, rv, z⟩ => ⟨J2.kIn, ?_⟩) hst hpl)
  exact run_fnS (us := .ref a :: us) (vs := .ref a :: vs) (E := WE W) G hr hb (passAt tk σ) J2 (.cons rfl rv) z
theorem pe_methR0 {pl : Sem Bool} (hmt : Meth X.K Ca mt fa) (cl : Cls X.K Ca) (ho : PE X o to) (G : FnOk X.prog X.w X.K X.mg X.base (L2.CX X.prog X.w) n fa fn pr pm) (hr : Room n X.A) (hb : Binds X.K fn pr []) (tk : Takes X W)
    (ht : eval (.Call (.Attribute o mt q3) [] [] q2) X.env = (do
      let r ← eval o X.env
      standAt q3.atName
      let (g, more) ← holding [r] (getMethod r mt pl)
      callWith q2 g more (backTo q2 (starEach [] X.env)) (backToKw q2 (keywordEach [] X.env))) := by rfl) : PE X (.Call (.Attribute o mt q3) [] [] q2) (tMethR Ca mt pm W to tNil) := by
  refine ⟨fun P s σ H Q I h => PySem.W.methodCall_KW (pl := pl) (thn (ho.run P s σ H _ I h) fun u t ⟨x, H1, J, rx, a, dx, fs, ex, ea, nl, q⟩ => ?_) ht⟩
  subst ex
  obtain rfl : u = Value.ref a := rx
  refine getmeth_ok J ea cl hmt nl ?_
  exact PySem.W.callWith_K0 (first := [.ref a]) J.kIn hmt.kp (run_fnS (us := [.ref a]) (vs := [.ref a]) (E := WE W) G hr hb (passAt tk σ) J (.cons rfl .nil) q)
end

/-! ### the place of a sign in a text -/
section
open PySem.Builtin.Str PySem.StrLaws
theorem first_sign (x : Str) (c : Nat) (h : c ∈ x.cps.toList) : ∃ rest, occurrences x ⟨#[c]⟩ 0 x.length 1 = x.cps.toList.idxOf c :: rest := by
  have key := occ_first x ⟨#[c]⟩ x.length 1 (Nat.le_refl 1) (List.range' 0 (x.length + 1 - 0)) 0 fun _ _ => Nat.zero_le _
  rw [occ_eq]
  have sub := fun k => subAt_one x c k
  rcases key with ⟨_, hn⟩ | ⟨pre, i, post, e, h0, hi, hn⟩
  · obtain ⟨j, hj⟩ := List.getElem?_of_mem h
    have hlt : j < x.length := (List.getElem?_eq_some_iff.mp hj).1
    exact absurd ((sub j).mpr hj) (hn j (List.mem_range'.mpr ⟨j, by omega, by omega⟩))
  · have hx := (sub i).mp hi
    have before : ∀ k, k < i → x.cps.toList[k]? ≠ some c := fun k hk q => hn k (range'_split e k hk) ((sub k).mpr q)
    obtain ⟨hl, hv⟩ := List.getElem?_eq_some_iff.mp hx
    have e2 : x.cps.toList.idxOf c = i := by
      have hlt : x.cps.toList.idxOf c < x.cps.toList.length := List.idxOf_lt_length_iff.mpr h
      have hget : x.cps.toList[x.cps.toList.idxOf c] = c := List.getElem_idxOf hlt
      rcases Nat.lt_trichotomy (x.cps.toList.idxOf c) i with z | z | z
      · exact absurd (List.getElem?_eq_some_iff.mpr ⟨hlt, hget⟩) (before _ z)
      · exact z
      · exact absurd hv (by
          have := List.not_of_lt_findIdx (p := (· == c)) (xs := x.cps.toList) z
          simpa using this)
    rw [e2]
    generalize hg : (forIn (List.range' 0 (x.length + 1 - 0)) ((#[] : Array Nat), 0) (occBody x ⟨#[c]⟩ x.length 1)).run.fst = arr at h0
    cases hl : arr.toList with
    | nil =>
      rw [← Array.getElem?_toList, hl] at h0
      cases h0
    | cons a r =>
      rw [← Array.getElem?_toList, hl] at h0
      exact ⟨r, by rw [Option.some.inj (show some a = some i from h0)]⟩
end
def mIdx : V → List V → Hp → VK → Prop := fun x xs H Q => ∃ (a : Str) (c : Nat), x = .str a ∧ xs = [.str ⟨#[c]⟩] ∧ c ∈ a.cps.toList ∧ Q (.int (a.cps.toList.idxOf c : Nat)) H
section
variable {X : Cx}
theorem mt_strIdx : MtR X "str.index" mIdx := by
  intro P s σ H x xs v us Q I rx rs h
  obtain ⟨a, c, ex, es, hc, q⟩ := h
  obtain ⟨rest, e⟩ := first_sign a c hc
  exact mt_sindex P s σ H x xs v us Q I rx rs ⟨a, _, _, rest, ex, es, e, q⟩
/-! ### the least and the greatest of a tuple of ints -/
theorem reads_ints {hp : Heap} : ∀ {ns : List Int} {us : List Value}, Vals (ns.map V.int) us → ReadsAll hp us (ns.map PyData.int) []
  | [], _, r => by cases r; exact .nil
  | n :: ns, _, r => by
    cases r with
    | cons r1 r2 =>
      obtain ⟨t, rfl⟩ := r1
      exact ReadsAll.cons (as := []) (bs := []) (.int n t) (reads_ints r2)
theorem alike_ints (ns : List Int) : PySem.W.AlikeAll (ns.map PyData.int) := ⟨fun x hx y hy => by
  obtain ⟨a, _, rfl⟩ := List.mem_map.mp hx
  obtain ⟨b, _, rfl⟩ := List.mem_map.mp hy
  rfl, fun x hx => by
  obtain ⟨a, _, rfl⟩ := List.mem_map.mp hx
  exact fun z => by cases z⟩
theorem depth_ints : ∀ ns : List Int, PyData.depthAll (ns.map PyData.int) = 0
  | [] => rfl
  | n :: ns => by
    show max 0 (PyData.depthAll (ns.map PyData.int)) = 0
    rw [depth_ints ns]
    rfl
/-- min(t), max(t): t a tuple of ints, not empty -/
def cMinT (K : PySem.W.Frag) : List V → Hp → VK → Prop := fun vs H Q => ∃ (a : Addr) (n : Int) (ns : List Int), vs = [.ref a] ∧ SqT K H a ((n :: ns).map V.int) ∧ Q (.int (ns.foldl min n)) H
def cMaxT (K : PySem.W.Frag) : List V → Hp → VK → Prop := fun vs H Q => ∃ (a : Addr) (n : Int) (ns : List Int), vs = [.ref a] ∧ SqT K H a ((n :: ns).map V.int) ∧ Q (.int (ns.foldl max n)) H
theorem call_minT (hc : X.calm = true) (hu : X.A.units + 64 < cLine) : CallR X (.builtin "min") (cMinT X.K) := by
  intro P s σ H vs us Q I r h
  obtain ⟨a, n, ns, rfl, ht, q⟩ := h
  obtain ⟨u, rfl, ru⟩ := vals1 r
  cases (show u = Value.ref a from ru)
  obtain ⟨its, rv, pl, _⟩ := I.tuple ht
  refine PySem.W.min_tuple_data (x := .int n) (xs := ns.map .int) (I.ok.hd hc) pl (reads_ints (ns := n :: ns) rv) (alike_ints (n :: ns)) (by
    have e := depth_ints (n :: ns)
    rw [List.map_cons] at e
    rw [e]
    omega) fun i v h' tk bs hv hr hk => ?_
  rw [PySem.W.minD_ints] at hr
  cases hr with
  | int _ t => exact ⟨.int _, H, I.kept hk, ⟨t, rfl⟩, q⟩
theorem call_maxT (hc : X.calm = true) (hu : X.A.units + 64 < cLine) : CallR X (.builtin "max") (cMaxT X.K) := by
  intro P s σ H vs us Q I r h
  obtain ⟨a, n, ns, rfl, ht, q⟩ := h
  obtain ⟨u, rfl, ru⟩ := vals1 r
  cases (show u = Value.ref a from ru)
  obtain ⟨its, rv, pl, _⟩ := I.tuple ht
  refine PySem.W.max_tuple_data (x := .int n) (xs := ns.map .int) (I.ok.hd hc) pl (reads_ints (ns := n :: ns) rv) (alike_ints (n :: ns)) (by
    have e := depth_ints (n :: ns)
    rw [List.map_cons] at e
    rw [e]
    omega) fun i v h' tk bs hv hr hk => ?_
  rw [PySem.W.maxD_ints] at hr
  cases hr with
  | int _ t => exact ⟨.int _, H, I.kept hk, ⟨t, rfl⟩, q⟩
end

section
variable {X : Cx} (K : PySem.W.Frag) (hK : X.K = K := by rfl)
include hK
theorem kMin (hu : X.A.units + 64 < cLine) (hc : X.calm = true := by rfl) : CallR X (.builtin "min") (cMinT K) := hK ▸ call_minT hc hu
theorem kMax (hu : X.A.units + 64 < cLine) (hc : X.calm = true := by rfl) : CallR X (.builtin "max") (cMaxT K) := hK ▸ call_maxT hc hu
theorem kFld {o : Expr} {f : Str} {p : Pos} {te : TE} (h : PE X (.Attribute o f p) (tFld X.K te f)) : PE X (.Attribute o f p) (tFld K te f) := hK ▸ h
theorem kBm {e : Expr} {T : String} {r : V → List V → Hp → VK → Prop} {to : TE} {t : TA} (h : PE X e (tBM X.K T r to t)) : PE X e (tBM K T r to t) := hK ▸ h
theorem kBm0 {e : Expr} {T : String} {r : V → List V → Hp → VK → Prop} {to : TE} (h : PE X e (tBM0 X.K T r to)) : PE X e (tBM0 K T r to) := hK ▸ h
def cTupOf (K : PySem.W.Frag) : List V → Hp → VK → Prop := fun xs H Q => ∃ p ys, xs = [.ref p] ∧ ((SqL K H p ys ∧ ∀ l, H l = none → Q (.ref l) (upd H l (.tup ys))) ∨ (SqT K H p ys ∧ Q (.ref p) H))
def cLstOf (K : PySem.W.Frag) : List V → Hp → VK → Prop := fun xs H Q => ∃ p ys, xs = [.ref p] ∧ (SqL K H p ys ∨ SqT K H p ys) ∧ ∀ l, H l = none → Q (.ref l) (upd H l (.lst ys))
def mJoin (K : PySem.W.Frag) : V → List V → Hp → VK → Prop := fun x xs H Q => ∃ a p, ∃ ys : List Str, x = .str a ∧ xs = [.ref p] ∧ (SqL K H p (ys.map V.str) ∨ SqT K H p (ys.map V.str)) ∧ (ys.map (·.length)).sum + ys.length * a.length ≤ 16777216 ∧ Q (.str (Txt.join a ys)) H
theorem kTupOf : CallR X (.type "tuple") (cTupOf K) := hK ▸ call_tuple_of
theorem kLstOf : CallR X (.type "list") (cLstOf K) := hK ▸ call_list_of
theorem kJoin : MtR X "str.join" (mJoin K) := hK ▸ mt_join
end
/-! ### a text, several times -/
def oMulP : R2 := fun x y H Q => oMul x y H Q ∨ ∃ (z : Str) (n : Int), x = .str z ∧ y = .int n ∧ MulOk z n ∧ Q (.str (Txt.mul z n)) H
theorem op_mulS {X : Cx} : OpR X (binaryOp .Mult) (fun x y H Q => ∃ (z : Str) (n : Int), x = .str z ∧ y = .int n ∧ MulOk z n ∧ Q (.str (Txt.mul z n)) H) := by
  intro P s σ H x y v u Q I rx ry h
  obtain ⟨z, n, rfl, rfl, ok, q⟩ := h
  obtain ⟨t, rfl⟩ := rx
  obtain ⟨t2, rfl⟩ := ry
  exact PySem.SB.mul ok fun t' k => ⟨.str _, H, I.tok _, ⟨t', rfl⟩, q⟩
theorem op_mulPP {X : Cx} : OpR X (binaryOp .Mult) oMulP := OpR.or op_mulP op_mulS
section
variable {K : PySem.W.Frag} {σ : L2.St} {H : Hp} {Q : VK} {D : Ends} {te tv : TE} {f : Str} {a C dx : Addr} {fs : List (Str × V)} {v : V} {t : TA} {sp : Sp} {W : WX}
theorem rd_fld (h : te σ H fun x H1 => ∃ a C dx fs v, x = .ref a ∧ H1 a = some (.ins C dx fs) ∧ Cls K C ∧ NoAttr K C f ∧ fs.lookup f = some v ∧ Q v H1) : tFld K te f σ H Q := h
theorem rd_fldv {P : Addr → Prop} : True := True.intro
theorem rd_mulN {x y : Int} (c : CMul x y) (h : Q (.int (x * y)) H) : oMulP (.int x) (.int y) H Q := .inl ⟨x, y, rfl, rfl, c, h⟩
theorem rd_mulT {z : Str} {n : Int} (c : MulOk z n) (h : Q (.str (Txt.mul z n)) H) : oMulP (.str z) (.int n) H Q := .inr ⟨z, n, rfl, rfl, c, h⟩
theorem rd_tupL {p : Addr} {ys : List V} (e : SqL K H p ys) (h : ∀ l, H l = none → Q (.ref l) (upd H l (.tup ys))) : cTupOf K [.ref p] H Q := ⟨p, ys, rfl, .inl ⟨e, h⟩⟩
theorem rd_tupT {p : Addr} {ys : List V} (e : SqT K H p ys) (h : Q (.ref p) H) : cTupOf K [.ref p] H Q := ⟨p, ys, rfl, .inr ⟨e, h⟩⟩
theorem rd_lstL {p : Addr} {ys : List V} (e : SqL K H p ys ∨ SqT K H p ys) (h : ∀ l, H l = none → Q (.ref l) (upd H l (.lst ys))) : cLstOf K [.ref p] H Q := ⟨p, ys, rfl, e, h⟩
theorem rd_idx {z : Str} {c : Nat} (hc : c ∈ z.cps.toList) (h : Q (.int (z.cps.toList.idxOf c : Nat)) H) : mIdx (.str z) [.str ⟨#[c]⟩] H Q := ⟨z, c, rfl, rfl, hc, h⟩
end

/-! ### comprehensions whose parts change the heap: P of the new list's place, the turn, what is in it, the heap -/
theorem lc_gen {J : It} {n j : Nat} {G : Hp → Prop} {Y : Nat → Hp → V → Hp → Prop} {xs : Nat → V} {σ : L2.St} {H : Hp} {Q : VK} {te : TE} (P : Addr → Nat → List V → Hp → Prop) (w : Walk J n G Y) (hY : ∀ i H x H', i < n → Y i H x H' → H' = H ∧ x = xs i) (hn : n < 100000)
    (h0 : ∀ L, H L = none → P L 0 [] (upd H L (.lst []))) (hG : ∀ L i vs Hc, H L = none → P L i vs Hc → G Hc)
    (he : ∀ L i vs Hc, i < n → H L = none → Hc L = some (.lst vs) → vs.length = i → P L i vs Hc → ∀ N : VK, (∀ v H2, H2 L = some (.lst vs) → P L (i + 1) (vs ++ [v]) (upd H2 L (.lst (vs ++ [v]))) → N v H2) → te ((wipe σ [j]).set j (some (xs i))) Hc N)
    (h : ∀ L vs Hc, H L = none → Hc L = some (.lst vs) → vs.length = n → P L n vs Hc → Q (.ref L) Hc) : lcB (gName j) tYes te [j] σ Q J H := by
  intro L hL
  refine lc_it w (fun i Hc => ∃ vs, Hc L = some (.lst vs) ∧ vs.length = i ∧ P L i vs Hc) ⟨[], upd_same, rfl, h0 L hL⟩ (fun i Hc _ p => ?_) (fun i x Hc H' hi p y => ?_) fun Hc p => ?_
  · obtain ⟨vs, _, _, p⟩ := p
    exact hG L i vs Hc hL p
  · obtain ⟨vs, h1, h2, p⟩ := p
    obtain ⟨rfl, rfl⟩ := hY _ _ _ _ hi y
    refine ⟨by simp [wipe], rd_yes ?_⟩
    refine rd_iteT ?_
    refine he L i vs _ hi hL h1 h2 p _ fun v H2 z1 z2 => ?_
    exact ⟨vs, z1, Nat.lt_of_lt_of_le (by rw [h2]; omega : vs.length < 100000) (by decide), vs ++ [v], upd_same, by rw [List.length_append, h2]; rfl, z2⟩
  · obtain ⟨vs, h1, h2, p⟩ := p
    exact h L vs Hc hL h1 h2 p
/-- the heap but for one place -/
def hide (L : Addr) (H : Hp) : Hp := fun b => if b = L then none else H b
theorem hide_ne {L b : Addr} {H : Hp} (h : b ≠ L) : hide L H b = H b := if_neg h
theorem hide_ex {L : Addr} {H : Hp} : Ex (hide L H) H := fun b o e => by
  by_cases h : b = L
  · rw [h] at e
    have z : hide L H L = none := if_pos rfl
    rw [z] at e
    cases e
  · rw [hide_ne h] at e
    exact e
theorem hide_mono {L : Addr} {H H' : Hp} (k : ∀ b o, b ≠ L → H b = some o → H' b = some o) : Ex (hide L H) (hide L H') := fun b o e => by
  by_cases h : b = L
  · rw [h] at e
    have z : hide L H L = none := if_pos rfl
    rw [z] at e
    cases e
  · rw [hide_ne h] at e ⊢
    exact k b o h e
theorem ex_hide {L : Addr} {H H' : Hp} (hL : H L = none) (e : Ex H H') : Ex H (hide L H') := fun b o q => by
  rw [hide_ne (ne_of_none q hL)]
  exact e b o q
/-- each value is new or stood before: R of the turn, the value and the heap without the new list -/
theorem lc_new {J : It} {n j : Nat} {G : Hp → Prop} {Y : Nat → Hp → V → Hp → Prop} {xs : Nat → V} {σ : L2.St} {H : Hp} {Q : VK} {te : TE} (R : Nat → V → Hp → Prop) (w : Walk J n G Y) (hY : ∀ i H x H', i < n → Y i H x H' → H' = H ∧ x = xs i) (hn : n < 100000)
    (hG : ∀ Hc, Ex H Hc → G Hc) (mR : ∀ i v H1 H2, Ex H1 H2 → R i v H1 → R i v H2)
    (he : ∀ L i Hc, i < n → H L = none → (∃ vs, Hc L = some (.lst vs)) → Ex H Hc → ∀ N : VK, (∀ v H2, Ex Hc H2 → R i v (hide L H2) → N v H2) → te ((wipe σ [j]).set j (some (xs i))) Hc N)
    (h : ∀ L vs Hc, H L = none → Ex H Hc → Hc L = some (.lst vs) → vs.length = n → (∀ i v, vs[i]? = some v → R i v (hide L Hc)) → Q (.ref L) Hc) : lcB (gName j) tYes te [j] σ Q J H := by
  refine lc_gen (fun L i vs Hc => Ex H Hc ∧ ∀ i v, vs[i]? = some v → R i v (hide L Hc)) w hY hn (fun L hL => ⟨Evl.Ex.new hL, fun i v z => by cases z⟩) (fun L i vs Hc _ p => hG Hc p.1) (fun L i vs Hc hi hL h1 h2 p N hN => ?_) (fun L vs Hc hL h1 h2 p => h L vs Hc hL p.1 h1 h2 p.2)
  refine he L i Hc hi hL ⟨vs, h1⟩ p.1 N fun v H2 e2 r2 => hN v H2 (e2 L _ h1) ?_
  have kp : Ex (hide L H2) (hide L (upd H2 L (.lst (vs ++ [v])))) := hide_mono fun b o hb q => by rw [upd_ne hb]; exact q
  have kp0 : Ex (hide L Hc) (hide L H2) := hide_mono fun b o _ q => e2 b o q
  refine ⟨Evl.Ex.mut (p.1.trans e2) hL, fun i' v' hv => ?_⟩
  by_cases hlt : i' < vs.length
  · rw [List.getElem?_append_left hlt] at hv
    exact mR _ _ _ _ (kp0.trans kp) (p.2 i' v' hv)
  · rw [List.getElem?_append_right (by omega)] at hv
    have e0 : i' - vs.length = 0 := by
      rcases Nat.eq_zero_or_pos (i' - vs.length) with z | z
      · exact z
      · rw [List.getElem?_eq_none (by simp; omega)] at hv
        cases hv
    rw [e0] at hv
    obtain rfl : v = v' := Option.some.inj hv
    have e3 : i' = i := by omega
    rw [e3]
    exact mR _ _ _ _ kp r2

theorem rd_sfld {K : PySem.W.Frag} {ta tv : TE} {f : Str} {D : Ends} {σ : L2.St} {H : Hp} (h : tv σ H fun y H1 => ta σ H1 fun x H2 => ∃ a C dx fs, x = .ref a ∧ H2 a = some (.ins C dx fs) ∧ Cls K C ∧ NoAttr K C f ∧ fs.length < 1000 ∧ D.nx σ (upd H2 a (.ins C dx (putF f y fs)))) : sFld K ta tv f D σ H := h
theorem kSf {X : Cx} (K : PySem.W.Frag) (hK : X.K = K := by rfl) {st : Stmt} {ta tv : TE} {f : Str} (h : PS X st (sFld X.K ta tv f)) : PS X st (sFld K ta tv f) := hK ▸ h

section
variable {K : PySem.W.Frag} {σ : L2.St} {H : Hp} {Q : VK} {te to : TE} {t : TA} {C : Addr} {m f : Str} {sp : Sp} {W : WX} {dvs : List V} {E : XK}
theorem rd_makeR (h : t σ H fun vs H1 => ∀ x dx, H1 x = none → H1 dx = none → dx ≠ x → sp (.ref x :: vs) (upd (upd H1 dx (.own x)) x (.ins C dx [])) (fun v H2 => v = .non ∧ Q (.ref x) H2) fun c d H2 => W c d σ H2) : tMakeR C sp W t σ H Q := h
theorem rd_methR (h : to σ H fun x H1 => ∃ a dx fs, x = .ref a ∧ H1 a = some (.ins C dx fs) ∧ fs.lookup m = none ∧ t σ H1 fun vs H2 => sp (x :: vs) H2 Q fun c d H3 => W c d σ H3) : tMethR C m sp W to t σ H Q := h
theorem rd_meth (h : to σ H fun x H1 => ∃ a dx fs, x = .ref a ∧ H1 a = some (.ins C dx fs) ∧ fs.lookup m = none ∧ t σ H1 fun vs H2 => sp (x :: (vs ++ dvs)) H2 Q E) : tMeth C m sp dvs E to t σ H Q := h
theorem rd_notV (h : te σ H fun x H1 => ∃ c, x = .bl c ∧ Q (.bl (!c)) H1) : tNotV te σ H Q := h
theorem rd_xf {a : Addr} {cls : Value} {d : Option Addr} {C : Addr} {f : Str} (h : te σ H fun x H1 => x = .ref a ∧ cls = .ref C ∧ ∃ (dd : Addr) (fs : List (Str × V)) (v : V), d = some dd ∧ H1 dd = some (.xd fs) ∧ fs.lookup f = some v ∧ Q v H1) : tXf a cls d C f te σ H Q := h
end
/-! ### more on comprehensions, numbers, texts -/
theorem look_map {f : NameKind → Bool} : ∀ (l : List (Str × NameKind)) (y : Str), (l.lookup y = some .cell ∨ l.lookup y = some .free) → ∀ g : Str × NameKind → Str × NameKind, (∀ n k, g (n, k) = (n, k) ∨ (k = .free ∧ g (n, k) = (n, .cell))) → ((l.map g).lookup y = some .cell ∨ (l.map g).lookup y = some .free)
  | [], _, h, _, _ => by rcases h with h | h <;> cases h
  | (n, k) :: l, y, h, g, hg => by
    rw [List.map_cons]
    rw [List.lookup_cons] at h
    cases e : y == n with
    | true =>
      rw [e] at h
      rcases hg n k with z | ⟨z1, z2⟩
      · rw [z, List.lookup_cons, e]; exact h
      · rw [z2, List.lookup_cons, e]; exact .inl rfl
    | false =>
      rw [e] at h
      have ih := look_map (f := f) l y h g hg
      rcases hg n k with z | ⟨z1, z2⟩
      · rw [z, List.lookup_cons, e]; exact ih
      · rw [z2, List.lookup_cons, e]; exact ih
theorem blkOk_in {X : Cx} {N : List Str} (hN : X.N = N) {s : Shared} {H : Hp} {sc0 scope : Scope} {C : Addr} {cl : List (Str × Addr)} {fp : List Addr} {own : List (Str × Nat)} (h : blkC N sc0 scope own = true) :
    BlkOk (X.blk s H sc0 (compEnvC sc0 cl C X.env) fp).N (X.blk s H sc0 (compEnvC sc0 cl C X.env) fp).env.scope scope own := by
  subst hN
  have b := blkOk_by h
  refine ⟨b.kind, b.uniq, b.ix, fun y hy hf => ?_, b.own⟩
  refine look_map (f := fun _ => true) _ _ (b.free y hy hf) _ fun n k => ?_
  by_cases c : (k == NameKind.free && X.env.scope.kind == ScopeKind.function && X.env.kindOf n == some NameKind.cell) = true
  · right
    refine ⟨?_, if_pos c⟩
    have c1 : (k == NameKind.free) = true := by
      rw [Bool.and_eq_true, Bool.and_eq_true] at c
      exact c.1.1
    cases k <;> first | rfl | cases c1
  · left
    exact if_neg c
theorem given_range (v : Nat → V) : ∀ n, Evl.given n (fun _ => true) v = (List.range n).map v
  | 0 => rfl
  | n + 1 => by rw [Evl.given_yes rfl, given_range v n, List.range_succ, List.map_append]; rfl
/-- a comprehension whose parts leave the heap, without a test -/
theorem lc_map {J : It} {n j : Nat} {G : Hp → Prop} {Y : Nat → Hp → V → Hp → Prop} {xs v : Nat → V} {σ : L2.St} {H : Hp} {Q : VK} {te : TE} (w : Walk J n G Y) (hY : ∀ i H x H', i < n → Y i H x H' → H' = H ∧ x = xs i) (hG : ∀ Hc, Ex H Hc → G Hc) (hn : n < 100000)
    (he : ∀ i Hc, i < n → Ex H Hc → Val te ((wipe σ [j]).set j (some (xs i))) Hc (v i))
    (h : ∀ L, H L = none → Q (.ref L) (upd H L (.lst ((List.range n).map v)))) : lcB (gName j) tYes te [j] σ Q J H := by
  refine lc_pure (f := fun _ => true) w hY hG hn (fun _ _ _ _ => ans_yes) (fun i Hc hi e _ => he i Hc hi e) fun L hL => ?_
  rw [given_range]
  exact h L hL
theorem walk_range0 {n : Nat} : Walk (Itr 0 n) n (fun _ => True) fun i H x H' => H' = H ∧ x = V.int (i : Nat) := by
  obtain ⟨a, b, c⟩ := walk_range (lo := 0) (n := n)
  refine ⟨a, b, fun i H x H' hi g y => ?_⟩
  have := c i H x H' hi g y
  refine ⟨this.1, ?_⟩
  rw [this.2]
  show V.int (0 + (i : Int)) = _
  rw [Int.zero_add]
theorem fmod_nat (a m : Nat) : Int.fmod (a : Int) (m : Int) = ((a % m : Nat) : Int) := by
  rw [Int.fmod_eq_emod_of_nonneg _ (Int.natCast_nonneg m)]
  rfl
theorem fold_app (c : Nat) : ∀ (k : Nat) (a : Array Nat), (List.foldl (fun x y => x ++ y) a (List.replicate k #[c])).toList = a.toList ++ List.replicate k c
  | 0, a => by simp
  | k + 1, a => by
    rw [List.replicate_succ, List.foldl_cons, fold_app c k, List.replicate_succ]
    simp
theorem mul_sign (c : Nat) (n : Int) (h : 0 < n) : (Txt.mul ⟨#[c]⟩ n).cps.toList = List.replicate n.toNat c := by
  unfold Txt.mul
  rw [if_neg (by omega)]
  by_cases e : n = 1
  · subst e; rfl
  · have hb : (n == 1 || (⟨#[c]⟩ : Str).length == 0) = false := by
      have : (⟨#[c]⟩ : Str).length = 1 := rfl
      simp [e, this]
    rw [if_neg (by rw [hb]; decide)]
    show (List.foldl (fun x y => x ++ y) #[] (List.replicate n.toNat #[c])).toList = _
    rw [fold_app]
    rfl
theorem ixN_nat {n j : Nat} (h : j < n) : ixN n (j : Int) = some j := by
  unfold ixN
  rw [if_pos (Int.natCast_nonneg j), if_pos (by omega), Int.toNat_natCast]
theorem seqIndex_nat {n j : Nat} (h : j < n) : seqIndex? (j : Int) n = some j := by
  unfold seqIndex?
  have h0 : ¬ (j : Int) < 0 := by omega
  simp only [h0, if_false]
  rw [if_pos (by simp; omega), Int.toNat_natCast]
theorem erase_map {α β : Type} (f : α → β) : ∀ (l : List α) (j : Nat), (l.map f).eraseIdx j = (l.eraseIdx j).map f
  | [], _ => rfl
  | _ :: _, 0 => rfl
  | a :: l, j + 1 => by
    show f a :: (l.map f).eraseIdx j = f a :: (l.eraseIdx j).map f
    rw [erase_map f l j]
theorem mulOk_sign (c : Nat) {n : Int} (h0 : 0 < n) (h1 : n < 100000) : MulOk ⟨#[c]⟩ n := by
  have e : (⟨#[c]⟩ : Str).length = 1 := rfl
  refine ⟨by simp; omega, fun _ _ => ?_, fun _ _ => ?_⟩
  · rw [e]
    intro hh
    have : ((2:Int) ^ 63 - 1) / n ≥ 1 := by
      refine Int.le_ediv_of_mul_le h0 ?_
      omega
    omega
  · rw [e]
    unfold Builtin.Str.tooLong
    have : sizeLine ≥ 100000 := by decide
    exact decide_eq_false (by omega)
theorem first_at {l : List Nat} {c : Nat} {r : List Nat} (h : l = c :: r) : l.idxOf c = 0 := by
  rw [h]
  exact List.idxOf_cons_self
theorem atI_last {α : Type} {l : List α} (h : 0 < l.length) : atI l (-1) = some (l[l.length - 1]'(by omega)) := by
  have e : ixN l.length (-1) = some (l.length - 1) := by
    unfold ixN
    rw [if_neg (by decide), if_pos (by omega)]
    congr 1
    omega
  show (ixN l.length (-1)).bind (fun j => l[j]?) = _
  rw [e]
  exact List.getElem?_eq_getElem _
end AT

set_option Elab.async false
set_option linter.all false
set_option maxRecDepth 100000
set_option maxHeartbeats 4000000
/-! own words, third part: a law's own def, run where nothing is being shown; the repr of data -/
namespace AT
open PySem PySem.Spec L2
/-- as FnOk, but only where no repr is under way -/
structure FnG (P : Program) (w : World) (K : PySem.W.Frag) (mg : Str → Option Value) (base : Heap) (CX : CXT) (k : Nat) (f : Addr) (fd : FuncData) (ps : List Str) (sp : Sp) : Prop where
  len : ∀ vs H Q E, sp vs H Q E → vs.length = ps.length
  run : ∀ (A : Around) (outer : List Env) (s : Shared) (H : Hp) (args : Args) (us : List Value) (vs : List V) (Q : VK) (E : XK), A.guards = some [] → Room k A → Env0 P w K mg base A outer s H → BindsTo s fd args (ps.zip us) → Vals vs us → sp vs H Q E →
    codeAny (model P w) A (.call (.ref f) args) (CR CX outer P w H s Q E) s
theorem fn_ofG {CX : CXT} {P : Program} {w : World} {K : PySem.W.Frag} {mg : Str → Option Value} {base : Heap} {k : Nat} {f : Addr} {name qual : Str} {params : Arguments} {body : List Stmt} {scope : Scope} {dV kV doc pm cdv ct oc : Value} {an od : Option Addr} {osl : Array (Option Value)} {N ps : List Str} {sp : Sp}
    (lk : List.lookup f K = some { cls := oc, dict := od, data := Data.func (PySem.W.fnOf name qual params body scope dV kV doc pm an cdv ct), slots := osl }) (hcd : PySem.W.codeIn K cdv qual = true) (S : FnScope N ps scope)
    (len : ∀ vs H Q E, sp vs H Q E → vs.length = ps.length)
    (hb : ∀ (A : Around) (outer : List Env) (s : Shared) (H : Hp) (vs : List V) (Q : VK) (E : XK), A.guards = some [] → Room k (A.deeper (PyProof.Rows.envOfC qual scope s.heap.objs.size f cdv)) → sp vs H Q E →
      ∃ t, PSs (cxOf CX P w K mg base N qual scope f cdv A outer s H E) body t ∧ t { nx := fun _ H' => Q .non H', rt := Q } (L2.start N vs) H) :
    FnG P w K mg base CX (k + 1) f (PySem.W.fnOf name qual params body scope dV kV doc pm an cdv ct) ps sp := by
  refine ⟨len, fun A outer s H args us vs Q E hg hr e0 bd rv hsp => ?_⟩
  have hl := len vs H Q E hsp
  have KX : K.In s.heap := e0.mod.kin.keeps fun b o e => (e0.bs b o e).1
  have lim : s.heap.NoLimit := e0.mod.nolimit.keeps fun b o e => (e0.bs b o e).1
  refine codeAny_call_function hr.depth (KX f _ lk) rfl S.co S.gen rfl (PySem.W.codeRec_of KX hcd) (bd _ _ _ _ ?_)
  refine wpAny_newFunctionEnv_cells S.kind (fun x hx => ?_) fun env he s1 x => ?_
  · obtain ⟨n, v⟩ := x
    rcases S.par n (List.of_mem_zip hx).1 with q | q
    · exact .inl q
    · exact .inr ⟨q, PySem.W.cellsFrom_some scope.names (s.heap.objs.size + 1) [] (.inl q)⟩
  · subst he
    refine ⟨lim.keeps x.toInCall.keep, codeAny_func ?_⟩
    obtain ⟨t, ht, hq⟩ := hb A outer s H vs Q E hg (hr.deeper _) hsp
    have I := inv_start (CX := CX) (E := E) S hr.hd e0 hl rv x
    refine wpAny_mono (ht.run [] s1 (L2.start N vs) H _ I hq) (fun fl s' hs => ?_) fun e s' hs => hs
    cases fl with
    | next =>
      obtain ⟨σ', H', J, q⟩ := hs
      exact ⟨.non, H', J.os, J.bare, J.base, J.hok, rfl, q⟩
    | brk =>
      obtain ⟨_, _, _, q⟩ := hs
      exact q.elim
    | cont =>
      obtain ⟨_, _, _, q⟩ := hs
      exact q.elim
    | ret u =>
      obtain ⟨v, σ', H', J, rv, q⟩ := hs
      exact ⟨v, H', J.os, J.bare, J.base, J.hok, rv, q⟩
theorem _root_.L2.Fun.okG {P : Program} {w : World} {K : PySem.W.Frag} {mg : Str → Option Value} {base : Heap} {x qual : Str} {st : Stmt} {f : Addr} {fd : FuncData} {N ps : List Str} {k : Nat} {sp : Sp} (F : Fun K x qual st f fd) (S : FnScope N ps (defScope st)) (len : ∀ vs H Q E, sp vs H Q E → vs.length = ps.length)
    (hb : ∀ (cdv : Value) (A : Around) (outer : List Env) (s : Shared) (H : Hp) (vs : List V) (Q : VK) (E : XK), A.guards = some [] → Room k (A.deeper (PyProof.Rows.envOfC qual (defScope st) s.heap.objs.size f cdv)) → sp vs H Q E →
      ∃ t, PSs (cxOf CX0 P w K mg base N qual (defScope st) f cdv A outer s H E).nox (defBody st) t ∧ t { nx := fun _ H' => Q .non H', rt := Q } (L2.start N vs) H) : FnG P w K mg base CX0 (k + 1) f fd ps sp := by
  obtain ⟨oc, od, kV, doc, pm, an, cdv, ct, osl, rfl, lk, hcd⟩ := F.ex
  refine fn_ofG lk hcd S len fun A outer s H vs Q E hg hr hsp => ?_
  obtain ⟨t, h, q⟩ := hb cdv A outer s H vs Q E hg hr hsp
  exact ⟨t, PSs.nox h, q⟩
theorem law_callG {P : Program} {w : World} {K : PySem.W.Frag} {mg mb : Str → Option Value} {k : Nat} {fa a : Addr} {fd : FuncData} {x : Str} {sp : Sp} {s₁ : Shared} {vs : List Value} {ns : List Int}
    (KX : K.In s₁.heap) (hns : s₁.heap.Ns mainGlobals mg) (hb : s₁.heap.Ns builtinsNs mb) (hbb : ∀ x : Str, x ≠ "__name__" → mb x = bootBuiltins x) (hlim : s₁.heap.NoLimit) (hg : s₁.gens = #[]) (ha : s₁.heap.get? a = some { cls := .type "list", data := .seq vs.toArray })
    (hi : PyProof.Rows.IntsAre vs ns) (hl : ns.length ≤ sizeLine) (hr : Room k callerA) (F : ∀ base : Heap, K.In base → base.Ns mainGlobals mg → FnG P w K mg base CX0 k fa fd [x] sp) (hbind : ∀ (s : Shared) (u : Value), BindsTo s fd { pos := [u] } [(x, u)])
    (hsp : ∀ H : Hp, Only H → SqL K H a (ns.map V.int) → sp [.ref a] H (fun v _ => v = .bl true) E0) :
    codeAny (model P w) callerA (.call (.ref fa) { pos := [.ref a] }) (fun r s' => r = .ok (.ret (.bool true)) ∧ OldK s₁.heap s'.heap ∧ s'.os = s₁.os ∧ PyProof.Rows.AllBare s'.gens) s₁ := by
  have core : ∀ H : Hp, Only H → SqL K H a (ns.map V.int) → HOk P w H s₁.heap → (∀ b, H b ≠ none → b = a) → (H a ≠ none → K.lookup a = none) →
      codeAny (model P w) callerA (.call (.ref fa) { pos := [.ref a] }) (fun r s' => r = .ok (.ret (.bool true)) ∧ OldK s₁.heap s'.heap ∧ s'.os = s₁.os ∧ PyProof.Rows.AllBare s'.gens) s₁ := by
    intro H hO hS hok hA hK
    have nd : ∀ {b : Addr} {o : Obj} {es ep}, s₁.heap.get? b = some o → o.data = .dict es ep → H b = none := by
      intro b o es ep e d
      cases q : H b with
      | none => rfl
      | some u =>
        obtain rfl := hA b (by rw [q]; exact fun z => by cases z)
        rw [ha] at e
        obtain rfl := Option.some.inj e
        cases d
    have nsK : ∀ {b : Addr} {m : Str → Option Value}, s₁.heap.Ns b m → (hidT s₁.heap H).Ns b m := by
      rintro b m ⟨o, es, ep, e, d, r⟩
      exact ⟨o, es, ep, hidT_get e (nd e d), d, r⟩
    have hKb : K.In (hidT s₁.heap H) := fun b o e => hidT_get (KX b o e) (by
      cases q : H b with
      | none => rfl
      | some u =>
        have nb : H b ≠ none := by rw [q]; exact fun z => by cases z
        obtain rfl := hA b nb
        have z := hK nb
        rw [e] at z
        cases z)
    have hM : L2.Mod K mg (hidT s₁.heap H) := ⟨hKb, nsK hns, ⟨mb, nsK hb, hbb⟩, by
      obtain ⟨mc, h1, h2⟩ := hlim
      exact ⟨mc, nsK h1, h2⟩⟩
    have e0 : Env0 P w K mg (hidT s₁.heap H) callerA [] s₁ H := ⟨rfl, hM, fun b o e => of_hidT e, Nat.le_of_eq (hidT_size s₁.heap H), trivial, (fun b z => by cases z), hok, PyProof.Rows.AllBare.of_eq hg⟩
    refine codeAny_mono ((F (hidT s₁.heap H) hKb (nsK hns)).run callerA [] s₁ H { pos := [.ref a] } [.ref a] [.ref a] _ E0 rfl hr e0 (hbind s₁ (.ref a)) (.cons rfl .nil) (hsp H hO hS)) fun r s' z => ?_
    cases r with
    | error e => exact absurd z fun z => by cases z
    | ok fl =>
      cases fl with
      | next => exact z.elim
      | brk => exact z.elim
      | cont => exact z.elim
      | ret u =>
        obtain ⟨v, H', os, bare, un, hok', rv, rfl⟩ := z
        obtain rfl : u = .bool true := rv
        refine ⟨rfl, OldK.of_keep fun b o e => ?_, os, bare⟩
        cases q : H b with
        | none => exact un.keep b o e q (fun z => by cases z) (fun z => by cases z)
        | some u =>
          rcases hO b with z | ⟨ob, xs, z⟩
          · rw [z] at q; cases q
          · have z2 := un.frzs b ob (.lst xs) z
            have e1 := (hok b _ z).1
            have e2 := (hok' b _ z2).1
            rw [e] at e1
            rw [e2, e1]
  cases hk : K.lookup a with
  | none =>
    refine core (fun b => if b = a then some (.frz { cls := .type "list", data := .seq vs.toArray } (.lst (ns.map V.int))) else none) (fun b => ?_) (.inl (.inr ⟨_, if_pos rfl⟩)) (fun b u z => ?_) (fun b z => ?_) fun _ => hk
    · by_cases e : b = a
      · exact .inr ⟨_, _, if_pos e⟩
      · exact .inl (if_neg e)
    · by_cases e : b = a
      · subst e
        have z' := (if_pos rfl).symm.trans z
        obtain rfl := Option.some.inj z'
        exact ⟨ha, by rw [List.length_map]; exact hl, vs, _, vals_ints hi, ha⟩
      · have z' := (if_neg e).symm.trans z
        cases z'
    · by_cases e : b = a
      · exact e
      · exact absurd (if_neg e) z
  | some o =>
    refine core (fun _ => none) (fun _ => .inl rfl) ?_ (fun b u z => by cases z) (fun b z => absurd rfl z) fun z => absurd rfl z
    have e := KX a o hk
    rw [ha] at e
    obtain rfl := Option.some.inj e
    refine .inr ⟨_, vs.toArray, _, hk, rfl, rfl, rfl, ?_, vals_ints hi⟩
    have := PyProof.Rows.IntsAre.length hi
    rw [List.size_toArray]
    omega
theorem walk_ofG {l : PySem.W.OpenLaw} {n k : Nat} {q : Program} {loose : List Str} {XP : (Str → Option Value) → Heap → Prop} {YP : World → Heap → Prop} {d : DefRec} {K : Params → PySem.W.Frag} {sp : PySem.W.Frag → Sp} {x : Str}
    (hn : l.most = some n) (hn2 : n ≤ sizeLine) (hdf : d.params.defaults = []) (hr : Room k callerA) (hY : ∀ (w : World) (h : Heap), YP w h → (K w.params).In h)
    (F : ∀ (w : World) (mg : Str → Option Value) (fa : Addr) (h : Heap), (K w.params).In h → h.Ns mainGlobals mg → mg d.name = some (.ref fa) → ∃ fd, (∀ (s : Shared) (u : Value), BindsTo s fd { pos := [u] } [(x, u)]) ∧ ∀ base : Heap, (K w.params).In base → base.Ns mainGlobals mg → FnG l.prog w (K w.params) mg base CX0 k fa fd [x] (sp (K w.params)))
    (hsp : ∀ (K : PySem.W.Frag) (H : Hp) (a : Addr) (ns : List Int), ns.length ≤ n → Only H → SqL K H a (ns.map V.int) → sp K [.ref a] H (fun v _ => v = .bl true) E0) : PySem.W.WalkO q loose XP YP l.row.toRowW d [] fun f vs => PySem.call f vs :=
  Att.attach_call hn hdf fun w s₀ s₁ mg mb fa o pm cd doc a vs ns G Y ho hd hcd hmg hobj hints hlen hg => by
    obtain ⟨fd, hb, hF⟩ := F w mg fa s₁.heap (hY w s₁.heap Y) G.T.g hmg
    exact law_callG (hY w s₁.heap Y) G.T.g G.T.b G.T.builtins G.T.nolimit hg hobj hints (Nat.le_trans hlen hn2) hr hF hb fun H hO hS => hsp _ H a ns hlen hO hS
/-- repr(v): v lists and tuples of plain values -/
def cReprD (K : PySem.W.Frag) : List V → Hp → VK → Prop := fun xs H Q => cRepr xs H Q ∨ ∃ (a : Addr) (d : PyData), xs = [.ref a] ∧ Dp K H (.ref a) d ∧ d.showable = true ∧ d.hasDict = false ∧ d.depth ≤ 60 ∧ d.shown.length ≤ sizeLine ∧ Q (.str d.shown) H
theorem call_reprD {X : Cx} (hg : X.A.guards = some []) (hu : X.A.units + 64 < cLine) : CallR X (.builtin "repr") (cReprD X.K) := by
  refine CallR.or call_reprP ?_
  intro P s σ H vs us Q I r h
  obtain ⟨a, d, rfl, hd, sh, nd, dl, sl, q⟩ := h
  obtain ⟨u, rfl, ru⟩ := vals1 r
  cases (show u = Value.ref a from ru)
  obtain ⟨as, rd⟩ := Dp.reads I d _ _ hd ru
  refine repr_of_reads' rd sh (fun z => by rw [nd] at z; cases z) hg (by omega) (fun b o e => e) (fun h' u tk hk => ?_) sl
  exact ⟨.str d.shown, H, I.kept hk, ⟨u, rfl⟩, q⟩
/-! ### how long what is shown may be -/
theorem join_len (sep : Str) (B : Nat) : ∀ ss : List Str, (∀ s ∈ ss, s.length ≤ B) → (Str.join sep ss).length ≤ ss.length * (B + sep.length)
  | [], _ => by unfold Str.join; exact Nat.zero_le _
  | [x], h => by
    unfold Str.join
    have := h x List.mem_cons_self
    simp
    omega
  | x :: y :: r, h => by
    have ih := join_len sep B (y :: r) fun s hs => h s (List.mem_cons_of_mem _ hs)
    have hx := h x List.mem_cons_self
    unfold Str.join
    rw [TL.len_tl, TL.tl_append, TL.tl_append, List.length_append, List.length_append, ← TL.len_tl, ← TL.len_tl, ← TL.len_tl]
    rw [List.length_cons, Nat.succ_mul]
    omega
theorem tuple_len {B : Nat} {ss : List Str} (h : ∀ s ∈ ss, s.length ≤ B) : (tupleText ss).length ≤ ss.length * (B + 2) + 3 := by
  have j := join_len (Str.ofString ", ") B ss h
  have e2 : (Str.ofString ", ").length = 2 := by decide +kernel
  rw [e2] at j
  unfold tupleText
  rw [TL.len_tl, TL.tl_append, TL.tl_append, List.length_append, List.length_append, ← TL.len_tl, ← TL.len_tl, ← TL.len_tl]
  have e1 : (Str.ofString "(").length = 1 := by decide +kernel
  have e3 : (Str.ofString (if (ss.length == 1) = true then ",)" else ")")).length ≤ 2 := by
    cases (ss.length == 1) <;> decide +kernel
  omega
theorem foldl_len {f : Nat → Array Nat} {B : Nat} : ∀ (l : List Nat) (a : Array Nat), (∀ c ∈ l, (f c).size ≤ B) → (l.foldl (fun out c => out ++ f c) a).size ≤ a.size + l.length * B
  | [], a, _ => by simp
  | c :: l, a, h => by
    have ih := foldl_len (f := f) (B := B) l (a ++ f c) fun d hd => h d (List.mem_cons_of_mem _ hd)
    have hc := h c List.mem_cons_self
    rw [List.foldl_cons, List.length_cons, Nat.succ_mul]
    rw [Array.size_append] at ih
    omega
theorem repr_len {z : Str} {B : Nat} (h : ∀ c ∈ z.cps.toList, (Builtin.Str.reprChar (reprQuote z) c).length ≤ B) : (reprText z).length ≤ 2 + z.length * B := by
  show ((Array.foldl (fun out c => out ++ (Builtin.Str.reprChar (reprQuote z) c).toArray) #[reprQuote z] z.cps).push (reprQuote z)).size ≤ _
  rw [Array.size_push, ← Array.foldl_toList]
  have := foldl_len (f := fun c => (Builtin.Str.reprChar (reprQuote z) c).toArray) (B := B) z.cps.toList #[reprQuote z] (fun c hc => by rw [List.size_toArray]; exact h c hc)
  have e : z.cps.toList.length = z.length := rfl
  rw [e] at this
  have e1 : (#[reprQuote z] : Array Nat).size = 1 := rfl
  omega
theorem quote_or (z : Str) : reprQuote z = 34 ∨ reprQuote z = 39 := by
  unfold reprQuote
  split
  · exact .inl rfl
  · exact .inr rfl
theorem repr_pl : ∀ c ∈ ("abcdefghijklmnopqrstuvwxyzABCDEFGHIJKLMNOPQRSTUVWXYZ0123456789<>=:_@#" : Str).cps.toList, (Builtin.Str.reprChar 34 c).length ≤ 10 ∧ (Builtin.Str.reprChar 39 c).length ≤ 10 := by decide +kernel
theorem small_text : ∀ n : Nat, n < 100 → (Str.ofString (toString (n : Int))).length ≤ 4 ∧ (n : Int).natAbs.log2 < 1920 := by decide +kernel
/-- data that may be shown: at most so long, so deep -/
structure Okd (d : PyData) (L D : Nat) : Prop where
  sh : d.showable = true
  nd : d.hasDict = false
  dp : d.depth ≤ D
  ln : d.shown.length ≤ L
theorem Okd.mono {d : PyData} {L D L' D' : Nat} (h : Okd d L D) (h1 : L ≤ L') (h2 : D ≤ D') : Okd d L' D' := ⟨h.sh, h.nd, Nat.le_trans h.dp h2, Nat.le_trans h.ln h1⟩
theorem Okd.bool (b : Bool) : Okd (.bool b) 5 0 := ⟨rfl, rfl, Nat.le_refl 0, by cases b <;> decide +kernel⟩
theorem Okd.int {n : Nat} (h : n < 100) : Okd (.int (n : Int)) 4 0 := ⟨decide_eq_true (small_text n h).2, rfl, Nat.le_refl 0, (small_text n h).1⟩
theorem Okd.str {z : Str} (h : ∀ c ∈ z.cps.toList, c ∈ ("abcdefghijklmnopqrstuvwxyzABCDEFGHIJKLMNOPQRSTUVWXYZ0123456789<>=:_@#" : Str).cps.toList) : Okd (.str z) (2 + z.length * 10) 0 := ⟨rfl, rfl, Nat.le_refl 0, repr_len fun c hc => by
  rcases quote_or z with e | e <;> rw [e]
  · exact (repr_pl c (h c hc)).1
  · exact (repr_pl c (h c hc)).2⟩
theorem all_okd {L D : Nat} : ∀ xs : List PyData, (∀ x ∈ xs, Okd x L D) → PyData.showableAll xs = true ∧ PyData.hasDictAll xs = false ∧ PyData.depthAll xs ≤ D ∧ (∀ s ∈ PyData.shownAll xs, s.length ≤ L) ∧ (PyData.shownAll xs).length = xs.length
  | [], _ => ⟨rfl, rfl, Nat.zero_le _, (fun s hs => by cases hs), rfl⟩
  | x :: xs, h => by
    obtain ⟨a, b, c, d, e⟩ := all_okd xs fun y hy => h y (List.mem_cons_of_mem _ hy)
    have hx := h x List.mem_cons_self
    refine ⟨?_, ?_, ?_, fun s hs => ?_, ?_⟩
    · show (x.showable && PyData.showableAll xs) = true
      rw [hx.sh, a]; rfl
    · show (x.hasDict || PyData.hasDictAll xs) = false
      rw [hx.nd, b]; rfl
    · show max x.depth (PyData.depthAll xs) ≤ D
      exact Nat.max_le.mpr ⟨hx.dp, c⟩
    · have hs' : s ∈ x.shown :: PyData.shownAll xs := hs
      rcases List.mem_cons.mp hs' with z | z
      · rw [z]; exact hx.ln
      · exact d s z
    · show (x.shown :: PyData.shownAll xs).length = _
      rw [List.length_cons, e]
      rfl
theorem Okd.tuple {L D : Nat} {xs : List PyData} (h : ∀ x ∈ xs, Okd x L D) : Okd (.tuple xs) (xs.length * (L + 2) + 3) (D + 1) := by
  obtain ⟨a, b, c, d, e⟩ := all_okd xs h
  refine ⟨a, b, Nat.succ_le_succ c, ?_⟩
  have := tuple_len d
  rw [e] at this
  exact this
section
variable {X : Cx} (K : PySem.W.Frag)
theorem kReprD (hg : X.A.guards = some []) (hu : X.A.units + 64 < cLine) (hK : X.K = K := by rfl) : CallR X (.builtin "repr") (cReprD K) := hK ▸ call_reprD hg hu
end
theorem rd_reprBD {K : PySem.W.Frag} {b : Bool} {H : Hp} {Q : VK} (h : Q (.str (if b then "True" else "False")) H) : cReprD K [.bl b] H Q := .inl (rd_reprB h)
theorem rd_reprD {K : PySem.W.Frag} {a : Addr} {d : PyData} {L D : Nat} {H : Hp} {Q : VK} (h1 : Dp K H (.ref a) d) (h2 : Okd d L D) (hL : L ≤ sizeLine) (hD : D ≤ 60) (h : Q (.str d.shown) H) : cReprD K [.ref a] H Q := .inr ⟨a, d, rfl, h1, h2.sh, h2.nd, Nat.le_trans h2.dp hD, Nat.le_trans h2.ln hL, h⟩
/-! ### signs, joined -/
theorem fold_signs : ∀ (cs : List Nat) (a : Array Nat), (List.foldl (fun acc (p : Str) => acc ++ (Str.ofString "").cps ++ p.cps) a (cs.map fun c => (⟨#[c]⟩ : Str))).toList = a.toList ++ cs
  | [], a => by simp
  | c :: cs, a => by
    rw [List.map_cons, List.foldl_cons, fold_signs cs]
    have e : (Str.ofString "").cps = #[] := by decide +kernel
    rw [e]
    simp
theorem join_signs (cs : List Nat) : (Txt.join "" (cs.map fun c => (⟨#[c]⟩ : Str))).cps.toList = cs := by
  cases cs with
  | nil => rfl
  | cons c cs =>
    show (List.foldl (fun acc (p : Str) => acc ++ (Str.ofString "").cps ++ p.cps) #[c] (cs.map fun c => (⟨#[c]⟩ : Str))).toList = _
    rw [fold_signs cs #[c]]
    rfl
theorem sum_signs : ∀ cs : List Nat, ((cs.map fun c => (⟨#[c]⟩ : Str)).map (·.length)).sum = cs.length
  | [] => rfl
  | c :: cs => by
    rw [List.map_cons, List.map_cons, List.sum_cons, sum_signs cs, List.length_cons]
    show 1 + cs.length = cs.length + 1
    omega
end AT

set_option Elab.async false
set_option linter.all false
set_option maxRecDepth 100000
set_option maxHeartbeats 4000000
/-! own words, fourth part: values as data, a heap with a hidden part that changes -/
namespace AT
open PySem PySem.Spec L2
section
variable {K : PySem.W.Frag}
mutual
theorem Dp.ex' {H H' : Hp} (e : Ex H H') : ∀ (d : PyData) {v : V}, Dp K H v d → Dp K H' v d
  | .none, _, h => by cases h; exact .non
  | .bool b, _, h => by cases h; exact .bl b
  | .int i, _, h => by cases h; exact .int i
  | .str x, _, h => by cases h; exact .str x
  | .list ds, _, h => by
    cases h with
    | lst hs ha => exact .lst (Evl.ex_l e hs) (DpAll.ex' e ds ha)
  | .tuple ds, _, h => by
    cases h with
    | tup hs ha => exact .tup (Evl.ex_t e hs) (DpAll.ex' e ds ha)
  | .dict _, _, h => by cases h
theorem DpAll.ex' {H H' : Hp} (e : Ex H H') : ∀ (ds : List PyData) {vs : List V}, DpAll K H vs ds → DpAll K H' vs ds
  | [], _, h => by cases h; exact .nil
  | d :: ds, _, h => by
    cases h with
    | cons h1 h2 => exact .cons (Dp.ex' e d h1) (DpAll.ex' e ds h2)
end
theorem _root_.L2.Dp.ex {H H' : Hp} {v : V} {d : PyData} (h : Dp K H v d) (e : Ex H H') : Dp K H' v d := Dp.ex' e d h
theorem _root_.L2.DpAll.ex {H H' : Hp} {vs : List V} {ds : List PyData} (h : DpAll K H vs ds) (e : Ex H H') : DpAll K H' vs ds := DpAll.ex' e ds h
theorem _root_.L2.DpAll.len {H : Hp} : ∀ {vs : List V} {ds : List PyData}, DpAll K H vs ds → vs.length = ds.length
  | _, _, .nil => rfl
  | _, _, .cons _ t => by rw [List.length_cons, List.length_cons, t.len]
theorem _root_.L2.DpAll.get {H : Hp} : ∀ {vs : List V} {ds : List PyData} {i : Nat} {d : PyData}, DpAll K H vs ds → ds[i]? = some d → ∃ v, vs[i]? = some v ∧ Dp K H v d
  | _, _, i, d, .nil, e => by simp at e
  | _, _, 0, d, .cons (v := v) h _, e => by
    simp at e
    subst e
    exact ⟨v, rfl, h⟩
  | _, _, i + 1, d, .cons _ t, e => by
    obtain ⟨v, h1, h2⟩ := t.get (i := i) (d := d) (by simpa using e)
    exact ⟨v, by simpa using h1, h2⟩
theorem _root_.L2.DpAll.got {H : Hp} {vs : List V} {ds : List PyData} {i : Nat} {v : V} (h : DpAll K H vs ds) (e : vs[i]? = some v) : ∃ d, ds[i]? = some d ∧ Dp K H v d := by
  have hl : i < vs.length := (List.getElem?_eq_some_iff.mp e).1
  have hd : i < ds.length := by rw [← h.len]; exact hl
  obtain ⟨v', h1, h2⟩ := h.get (List.getElem?_eq_getElem hd)
  rw [h1] at e
  obtain rfl := Option.some.inj e
  exact ⟨_, List.getElem?_eq_getElem hd, h2⟩
theorem _root_.L2.DpAll.app {H : Hp} : ∀ {vs : List V} {ds : List PyData} {us : List V} {es : List PyData}, DpAll K H vs ds → DpAll K H us es → DpAll K H (vs ++ us) (ds ++ es)
  | _, _, _, _, .nil, h => h
  | _, _, _, _, .cons h t, q => .cons h (t.app q)
theorem _root_.L2.DpAll.snoc {H : Hp} {vs : List V} {ds : List PyData} {v : V} {d : PyData} (h : DpAll K H vs ds) (q : Dp K H v d) : DpAll K H (vs ++ [v]) (ds ++ [d]) := h.app (.cons q .nil)
theorem DpAll.of {H : Hp} : ∀ {vs : List V} {ds : List PyData}, vs.length = ds.length → (∀ (i : Nat) v d, vs[i]? = some v → ds[i]? = some d → Dp K H v d) → DpAll K H vs ds
  | [], [], _, _ => .nil
  | [], _ :: _, h, _ => by cases h
  | _ :: _, [], h, _ => by cases h
  | v :: vs, d :: ds, h, g => .cons (g 0 v d rfl rfl) (DpAll.of (Nat.succ.inj h) fun i v d h1 h2 => g (i + 1) v d (by simpa using h1) (by simpa using h2))
theorem _root_.L2.DpAll.erase {H : Hp} : ∀ {vs : List V} {ds : List PyData} (i : Nat), DpAll K H vs ds → DpAll K H (vs.eraseIdx i) (ds.eraseIdx i)
  | _, _, _, .nil => .nil
  | _, _, 0, .cons _ t => t
  | _, _, i + 1, .cons h t => .cons h (t.erase i)
theorem _root_.L2.DpAll.set {H : Hp} {v : V} {d : PyData} (q : Dp K H v d) : ∀ {vs : List V} {ds : List PyData} (i : Nat), DpAll K H vs ds → DpAll K H (vs.set i v) (ds.set i d)
  | _, _, _, .nil => .nil
  | _, _, 0, .cons _ t => .cons q t
  | _, _, i + 1, .cons h t => .cons h (t.set q i)
theorem DpAll.mapV {α : Type} {H : Hp} (f : α → V) (g : α → PyData) (l : List α) (h : ∀ x ∈ l, Dp K H (f x) (g x)) : DpAll K H (l.map f) (l.map g) := by
  induction l with
  | nil => exact .nil
  | cons x l ih => exact .cons (h x List.mem_cons_self) (ih fun y hy => h y (List.mem_cons_of_mem _ hy))
/-! the shapes of values -/
theorem Dp.non_iff {H : Hp} {v : V} (h : Dp K H v .none) : v = .non := by cases h; rfl
theorem Dp.int_iff {H : Hp} {v : V} {i : Int} (h : Dp K H v (.int i)) : v = .int i := by cases h; rfl
theorem Dp.str_iff {H : Hp} {v : V} {i : Str} (h : Dp K H v (.str i)) : v = .str i := by cases h; rfl
theorem Dp.bl_iff {H : Hp} {v : V} {i : Bool} (h : Dp K H v (.bool i)) : v = .bl i := by cases h; rfl
theorem Dp.lstv {H : Hp} {v : V} {ds : List PyData} (h : Dp K H v (.list ds)) : ∃ a vs, v = .ref a ∧ SqL K H a vs ∧ DpAll K H vs ds := by
  cases h with
  | lst hs ha => exact ⟨_, _, rfl, hs, ha⟩
theorem Dp.tupv {H : Hp} {v : V} {ds : List PyData} (h : Dp K H v (.tuple ds)) : ∃ a vs, v = .ref a ∧ SqT K H a vs ∧ DpAll K H vs ds := by
  cases h with
  | tup hs ha => exact ⟨_, _, rfl, hs, ha⟩
/-! ### the hidden part -/
def hid (S : List Addr) (H : Hp) : Hp := fun b => if b ∈ S then none else H b
theorem hid_at {S : List Addr} {H : Hp} {b : Addr} (h : b ∉ S) : hid S H b = H b := if_neg h
theorem hid_in {S : List Addr} {H : Hp} {b : Addr} (h : b ∈ S) : hid S H b = none := if_pos h
theorem hid_nil {H : Hp} : hid [] H = H := by
  funext b
  exact if_neg List.not_mem_nil
theorem hid_some {S : List Addr} {H : Hp} {b : Addr} {o : HO} (h : hid S H b = some o) : b ∉ S ∧ H b = some o := by
  by_cases z : b ∈ S
  · rw [hid_in z] at h; cases h
  · exact ⟨z, by rw [hid_at z] at h; exact h⟩
theorem hid_ex {S : List Addr} {H : Hp} : Ex (hid S H) H := fun b o h => (hid_some h).2
theorem hid_sub {S S' : List Addr} {H : Hp} (h : ∀ b ∈ S', b ∈ S) : Ex (hid S H) (hid S' H) := fun b o q => by
  obtain ⟨h1, h2⟩ := hid_some q
  rw [hid_at fun z => h1 (h b z)]
  exact h2
theorem hid_tail {q : Addr} {S : List Addr} {H : Hp} : Ex (hid (q :: S) H) (hid S H) := hid_sub fun _ hb => List.mem_cons_of_mem _ hb
/-- all but S stands -/
def Kp (S : List Addr) (H H' : Hp) : Prop := ∀ b o, b ∉ S → H b = some o → H' b = some o
theorem Kp.refl {S : List Addr} {H : Hp} : Kp S H H := fun _ _ _ h => h
theorem Kp.trans {S : List Addr} {H H1 H2 : Hp} (a : Kp S H H1) (b : Kp S H1 H2) : Kp S H H2 := fun x o hx h => b x o hx (a x o hx h)
theorem Kp.of_ex {S : List Addr} {H H' : Hp} (e : Ex H H') : Kp S H H' := fun b o _ h => e b o h
theorem Kp.ex {S : List Addr} {H H' : Hp} (k : Kp S H H') : Ex (hid S H) (hid S H') := fun b o q => by
  obtain ⟨h1, h2⟩ := hid_some q
  rw [hid_at h1]
  exact k b o h1 h2
theorem Kp.sub {S S' : List Addr} {H H' : Hp} (k : Kp S H H') (h : ∀ b ∈ S, b ∈ S') : Kp S' H H' := fun b o hb q => k b o (fun z => hb (h b z)) q
theorem Kp.put {S : List Addr} {H : Hp} {q : Addr} {o : HO} (h : q ∈ S) : Kp S H (upd H q o) := fun b u hb z => by
  rw [upd_ne (show b ≠ q from fun e => hb (by rw [e]; exact h))]
  exact z
theorem Kp.new {S : List Addr} {H : Hp} {q : Addr} {o : HO} (h : H q = none) : Kp S H (upd H q o) := Kp.of_ex (Evl.Ex.new h)
/-- from what stands in the one hidden part to the other -/
theorem Kp.up {M S : List Addr} {H0 H : Hp} (k : Kp M H0 H) (fr : ∀ q ∈ S, q ∉ M → H0 q = none) : Ex (hid M H0) (hid S H) := fun b o z => by
  obtain ⟨h1, h2⟩ := hid_some z
  rw [hid_at fun hb => ?_]
  · exact k b o h1 h2
  · have := fr b hb h1
    rw [h2] at this
    cases this
theorem Ex.hid {S : List Addr} {H H' : Hp} (e : Ex H H') : Ex (AT.hid S H) (AT.hid S H') := (Kp.of_ex (S := S) e).ex
/-- a list that was changed is let be -/
theorem Dp.frz {S : List Addr} {H : Hp} {q : Addr} {vs : List V} {ds : List PyData} (hq : H q = some (.lst vs)) (hn : q ∉ S) (h : DpAll K (hid (q :: S) H) vs ds) : Dp K (hid S H) (.ref q) (.list ds) :=
  .lst (SqL.of (by rw [hid_at hn]; exact hq)) (h.ex hid_tail)
theorem Dp.frz' {S : List Addr} {H : Hp} {q : Addr} {vs : List V} {ds : List PyData} (hq : H q = some (.lst vs)) (hn : q ∉ S) (h : DpAll K (hid S H) vs ds) : Dp K (hid S H) (.ref q) (.list ds) :=
  .lst (SqL.of (by rw [hid_at hn]; exact hq)) h
/-- a new list, a new tuple -/
theorem notin_of {S : List Addr} {H : Hp} {q : Addr} (hs : ∀ b ∈ S, ∃ o, H b = some o) (hq : H q = none) : q ∉ S := fun z => by
  obtain ⟨o, ho⟩ := hs q z
  rw [hq] at ho
  cases ho
theorem Dp.newT {S : List Addr} {H : Hp} {q : Addr} {vs : List V} {ds : List PyData} (hq : H q = none) (hn : q ∉ S) (h : DpAll K (hid S H) vs ds) : Dp K (hid S (upd H q (.tup vs))) (.ref q) (.tuple ds) :=
  .tup (Evl.st_of (by rw [hid_at hn, upd_same])) (h.ex (Ex.hid (Evl.Ex.new hq)))
theorem Dp.newL {S : List Addr} {H : Hp} {q : Addr} {vs : List V} {ds : List PyData} (hq : H q = none) (hn : q ∉ S) (h : DpAll K (hid S H) vs ds) : Dp K (hid S (upd H q (.lst vs))) (.ref q) (.list ds) :=
  .lst (SqL.of (by rw [hid_at hn, upd_same])) (h.ex (Ex.hid (Evl.Ex.new hq)))
/-! ### reading -/
section
variable {σ : L2.St} {H H0 : Hp} {Q : VK} {x : V} {ds : List PyData} {d : PyData} {i : Nat}
theorem rd_ixDT (e : Ex H0 H) (h : Dp K H0 x (.tuple ds)) (hi : ds[i]? = some d) (q : ∀ v, Dp K H0 v d → Q v H) : rIx K x (.int (i : Int)) H Q := by
  obtain ⟨a, vs, rfl, h1, h2⟩ := Dp.tupv h
  obtain ⟨v, hv, hd⟩ := h2.get hi
  exact rd_ixT (Evl.ex_t e h1) (atI_nat hv) (q v hd)
theorem rd_ixDL (e : Ex H0 H) (h : Dp K H0 x (.list ds)) (hi : ds[i]? = some d) (q : ∀ v, Dp K H0 v d → Q v H) : rIx K x (.int (i : Int)) H Q := by
  obtain ⟨a, vs, rfl, h1, h2⟩ := Dp.lstv h
  obtain ⟨v, hv, hd⟩ := h2.get hi
  exact rd_ixL (Evl.ex_l e h1) (atI_nat hv) (q v hd)
theorem rd_lenDT (e : Ex H0 H) (h : Dp K H0 x (.tuple ds)) (q : Q (.int (ds.length : Int)) H) : cLen K [x] H Q := by
  obtain ⟨a, vs, rfl, h1, h2⟩ := Dp.tupv h
  exact rd_lenT (Evl.ex_t e h1) (by rw [h2.len]; exact q)
theorem rd_lenDL (e : Ex H0 H) (h : Dp K H0 x (.list ds)) (q : Q (.int (ds.length : Int)) H) : cLen K [x] H Q := by
  obtain ⟨a, vs, rfl, h1, h2⟩ := Dp.lstv h
  exact rd_lenL (Evl.ex_l e h1) (by rw [h2.len]; exact q)
def oIs : R2 := fun x y H Q => y = .non ∧ Q (.bl (decide (x = .non))) H
theorem rd_is {P : Prop} (h : P) : V.non = V.non ∧ P := ⟨rfl, h⟩
/-- == of the same data -/
def Lay (d : PyData) : Prop := d.canLay0 = true ∧ d.depth ≤ 64
theorem Lay.sh {d : PyData} (h : Lay d) : SeqAt.shaped d = true := Bool.and_eq_true_iff.mpr ⟨h.1, decide_eq_true h.2⟩
theorem rd_eqD {y : V} {H1 : Hp} (e0 : Ex H0 H) (e1 : Ex H1 H) (hx : Dp K H0 x d) (hy : Dp K H1 y d) (hl : Lay d) (q : Q (.bl true) H) : oEq K x y H Q :=
  .inr ⟨d, d, hx.ex e0, hy.ex e1, hl.sh, hl.sh, by rw [SeqAt.eqv_refl d hl.1]; exact q⟩
theorem rd_neD {y : V} {H1 : Hp} (e0 : Ex H0 H) (e1 : Ex H1 H) (hx : Dp K H0 x d) (hy : Dp K H1 y d) (hl : Lay d) (q : Q (.bl false) H) : oNe K x y H Q :=
  .inr ⟨d, d, hx.ex e0, hy.ex e1, hl.sh, hl.sh, by rw [SeqAt.eqv_refl d hl.1]; exact q⟩
end
/-- data that may be compared: at most so deep -/
structure Ly (d : PyData) (n : Nat) : Prop where
  c : d.canLay0 = true
  p : d.depth ≤ n
theorem Ly.lay {d : PyData} {n : Nat} (h : Ly d n) (hn : n ≤ 64) : Lay d := ⟨h.c, Nat.le_trans h.p hn⟩
theorem Ly.mono {d : PyData} {n m : Nat} (h : Ly d n) (hn : n ≤ m) : Ly d m := ⟨h.c, Nat.le_trans h.p hn⟩
theorem Ly.none : Ly .none 0 := ⟨rfl, Nat.le_refl 0⟩
theorem Ly.bool {b : Bool} : Ly (.bool b) 0 := ⟨rfl, Nat.le_refl 0⟩
theorem Ly.int {i : Int} : Ly (.int i) 0 := ⟨rfl, Nat.le_refl 0⟩
theorem Ly.str {x : Str} (h : okS x) : Ly (.str x) 0 := ⟨h, Nat.le_refl 0⟩
theorem ly_all {n : Nat} : ∀ {ds : List PyData}, (∀ d ∈ ds, Ly d n) → PyData.canLayAll0 ds = true ∧ PyData.depthAll ds ≤ n
  | [], _ => ⟨rfl, Nat.zero_le _⟩
  | d :: ds, h => by
    obtain ⟨a, b⟩ := ly_all (ds := ds) fun y hy => h y (List.mem_cons_of_mem _ hy)
    have hx := h d List.mem_cons_self
    refine ⟨?_, Nat.max_le.mpr ⟨hx.p, b⟩⟩
    show (d.canLay0 && PyData.canLayAll0 ds) = true
    rw [hx.c, a]; rfl
theorem Ly.tuple {n : Nat} {ds : List PyData} (h : ∀ d ∈ ds, Ly d n) : Ly (.tuple ds) (n + 1) := ⟨(ly_all h).1, Nat.succ_le_succ (ly_all h).2⟩
theorem Ly.list {n : Nat} {ds : List PyData} (h : ∀ d ∈ ds, Ly d n) : Ly (.list ds) (n + 1) := ⟨(ly_all h).1, Nat.succ_le_succ (ly_all h).2⟩
/-! ### walks over data -/
def YD (K : PySem.W.Frag) (ds : List PyData) (H0 : Hp) : Nat → Hp → V → Hp → Prop := fun i H v H' => H' = H ∧ ∃ d, ds[i]? = some d ∧ Dp K H0 v d
abbrev Wd (K : PySem.W.Frag) (J : It) (ds : List PyData) (H0 : Hp) : Prop := Walk J ds.length (fun H => Ex H0 H) (YD K ds H0)
theorem wd_list {H0 : Hp} {a : Addr} {vs : List V} {ds : List PyData} (h : SqL K H0 a vs) (hd : DpAll K H0 vs ds) : Wd K (Itl K a) ds H0 := by
  rw [Wd, ← hd.len]
  exact walk_list.mono (fun H e => Evl.ex_l e h) fun i H x H' _ _ y => ⟨y.1, hd.got y.2⟩
theorem wd_tup {H0 : Hp} {a : Addr} {vs : List V} {ds : List PyData} (h : SqT K H0 a vs) (hd : DpAll K H0 vs ds) : Wd K (Itt K a) ds H0 := by
  rw [Wd, ← hd.len]
  exact walk_tup.mono (fun H e => Evl.ex_t e h) fun i H x H' _ _ y => ⟨y.1, hd.got y.2⟩
section
variable {σ : L2.St} {H H0 : Hp} {Q : VK} {te : TE} {R : It → Hp → Prop} {D : Ends} {g : TG} {tb : TS} {tt : TT} {J : It} {ds : List PyData} {x : V} {vs : List Nat}
theorem rd_anyL' (h : te σ H fun x H1 => ∃ a, x = .ref a ∧ (∃ xs, SqL K H1 a xs) ∧ R (Itl K a) H1) : iAny K te σ H R := .inl h
theorem rd_anyT' (h : te σ H fun x H1 => ∃ a, x = .ref a ∧ (∃ xs, SqT K H1 a xs) ∧ R (Itt K a) H1) : iAny K te σ H R := .inr (.inl h)
theorem rd_anyS' (h : te σ H fun v H1 => ∃ x, v = .str x ∧ R (Its x) H1) : iAny K te σ H R := .inr (.inr h)
theorem rd_itDL (e : Ex H0 H) (h : Dp K H0 x (.list ds)) (q : ∀ J, Wd K J ds H0 → R J H) : ∃ a, x = .ref a ∧ (∃ xs, SqL K H a xs) ∧ R (Itl K a) H := by
  obtain ⟨a, vs, rfl, h1, h2⟩ := Dp.lstv h
  exact ⟨a, rfl, ⟨vs, Evl.ex_l e h1⟩, q _ (wd_list h1 h2)⟩
theorem rd_itDT (e : Ex H0 H) (h : Dp K H0 x (.tuple ds)) (q : ∀ J, Wd K J ds H0 → R J H) : ∃ a, x = .ref a ∧ (∃ xs, SqT K H a xs) ∧ R (Itt K a) H := by
  obtain ⟨a, vs, rfl, h1, h2⟩ := Dp.tupv h
  exact ⟨a, rfl, ⟨vs, Evl.ex_t e h1⟩, q _ (wd_tup h1 h2)⟩
theorem rd_itS {z : Str} (q : R (Its z) H) : ∃ x, V.str z = .str x ∧ R (Its x) H := ⟨z, rfl, q⟩
theorem fo_D (w : Wd K J ds H0) (Pv : Nat → L2.St → Hp → Prop) (h0 : Pv 0 σ H) (hG : ∀ i σ H, i ≤ ds.length → Pv i σ H → Ex H0 H)
    (hs : ∀ (i : Nat) d v σ H, ds[i]? = some d → Dp K H0 v d → Pv i σ H → g v σ H fun σ2 H2 => tb { D with nx := Pv (i + 1), ct := Pv (i + 1), bk := D.nx } σ2 H2) (hd : ∀ σ H, Pv ds.length σ H → D.nx σ H) : forB g tb D σ J H :=
  fo_it w Pv h0 hG (fun i v σ H H' hi p y => by
    obtain ⟨rfl, d, h1, h2⟩ := y
    exact hs i d v σ _ h1 h2 p) hd
/-- how the heap goes on from H: S may change, the rest stands -/
structure Tr (S : List Addr) (H : Hp) (T : Hp → Hp → Prop) : Prop where
  rfl' : T H H
  here : ∀ {a}, T H a → T a a
  st : ∀ {a b c}, T a b → (∃ o, a c = some o) → ∃ o : HO, b c = some o
  trans : ∀ {a b c}, T a b → T b c → T a c
  put : ∀ {L Hc o}, H L = none → T H Hc → T H (upd Hc L o)
  kp : ∀ {a b}, T a b → Kp S a b
theorem tr_ex {S : List Addr} {H : Hp} : Tr S H Ex := ⟨Evl.Ex.refl H, fun {a} _ => Evl.Ex.refl a, fun e h => h.elim fun o z => ⟨o, e _ _ z⟩, fun a b => a.trans b, fun h e => Evl.Ex.mut e h, fun e => Kp.of_ex e⟩
/-- a comprehension with a test, each value told by its turn -/
theorem lc_F {S : List Addr} {T : Hp → Hp → Prop} {n : Nat} {G : Hp → Prop} {Y : Nat → Hp → V → Hp → Prop} {P : Nat → V → Prop} {P2 : Nat → L2.St → Prop} (t : Tr S H T) (hS : ∀ b ∈ S, ∃ o, H b = some o) (w : Walk J n G Y) (hY : ∀ i H x H', i < n → Y i H x H' → H' = H ∧ P i x) (hn : n < 100000)
    (hG : ∀ Hc, T H Hc → G Hc) (p : Nat → Bool) (f : Nat → PyData)
    (hg : ∀ i x Hc (N : L2.St → Hp → Prop), i < n → P i x → T H Hc → (∀ σ2, wipe σ2 vs = wipe σ vs → P2 i σ2 → N σ2 Hc) → g x (wipe σ vs) Hc N)
    (ht : ∀ L i σ2 Hc, i < n → P2 i σ2 → H L = none → L ∉ S → T H Hc → (∀ b ∈ L :: S, ∃ o, Hc b = some o) → Ex (hid S H) (hid (L :: S) Hc) → ∀ N : Bool → Hp → Prop, (∀ H2, T Hc H2 → N (p i) H2) → tt σ2 Hc N)
    (he : ∀ L i σ2 Hc, i < n → P2 i σ2 → p i = true → H L = none → L ∉ S → T H Hc → (∀ b ∈ L :: S, ∃ o, Hc b = some o) → Ex (hid S H) (hid (L :: S) Hc) → ∀ N : VK, (∀ v H2, T Hc H2 → Dp K (hid (L :: S) H2) v (f i) → N v H2) → te σ2 Hc N)
    (h : ∀ L us Hc, T H Hc → H L = none → L ∉ S → Hc L = some (.lst us) → DpAll K (hid (L :: S) Hc) us (((List.range n).filter p).map f) → Q (.ref L) Hc) : lcB g tt te vs σ Q J H := by
  intro L hL
  have nL : L ∉ S := notin_of hS hL
  have up : ∀ {Hc}, T H Hc → Ex (hid S H) (hid (L :: S) Hc) := fun q => (t.kp q).up fun b hb hn => by
    rcases List.mem_cons.mp hb with z | z
    · rw [z]; exact hL
    · exact absurd z hn
  have kL : ∀ {a b : Hp} {o}, T a b → a L = some o → b L = some o := fun q z => t.kp q L _ nL z
  have hz : ∀ m, m ≤ n → (((List.range m).filter p).map f).length < sizeLine := fun m hm => by
    rw [List.length_map]
    have := List.length_filter_le p (List.range m)
    rw [List.length_range] at this
    exact Nat.lt_of_le_of_lt (Nat.le_trans this hm) (Nat.lt_trans hn (by decide))
  refine lc_it w (fun i Hc => i ≤ n ∧ T H Hc ∧ ∃ us, Hc L = some (.lst us) ∧ DpAll K (hid (L :: S) Hc) us (((List.range i).filter p).map f)) ⟨Nat.zero_le _, t.put hL t.rfl', [], upd_same, .nil⟩ (fun i Hc _ q => hG Hc q.2.1) (fun i x Hc H' hi q y => ?_) fun Hc q => ?_
  · obtain ⟨hi1, t1, us, h1, h2⟩ := q
    obtain ⟨rfl, px⟩ := hY _ _ _ _ hi y
    refine hg i x _ _ hi px t1 fun σ2 hw p2 => ⟨hw, ?_⟩
    have hs1 : ∀ b ∈ L :: S, ∃ o, H' b = some o := fun b hb => by
      rcases List.mem_cons.mp hb with z | z
      · rw [z]; exact ⟨_, h1⟩
      · exact t.st t1 (hS b z)
    refine ht L i σ2 _ hi p2 hL nL t1 hs1 (up t1) _ fun H2 t2 => ?_
    cases hp : p i with
    | true =>
      refine rd_iteT ?_
      refine he L i σ2 H2 hi p2 hp hL nL (t.trans t1 t2) (fun b hb => t.st t2 (hs1 b hb)) (up (t.trans t1 t2)) _ fun v H3 t3 dv => ?_
      have k23 := (t.kp (t.trans t2 t3)).sub (S' := L :: S) fun b hb => List.mem_cons_of_mem _ hb
      refine ⟨us, kL t3 (kL t2 h1), by rw [h2.len]; exact hz i hi1, hi, t.put hL (t.trans (t.trans t1 t2) t3), us ++ [v], upd_same, ?_⟩
      rw [List.range_succ, List.filter_append, List.map_append]
      have e : ((List.filter p [i]).map f) = [f i] := by
        rw [List.filter_cons, if_pos hp]
        rfl
      rw [e]
      exact ((h2.ex k23.ex).snoc dv).ex (Kp.put List.mem_cons_self).ex
    | false =>
      refine rd_iteF ?_
      have k12 := (t.kp t2).sub (S' := L :: S) fun b hb => List.mem_cons_of_mem _ hb
      refine ⟨hi, t.trans t1 t2, us, kL t2 h1, ?_⟩
      rw [List.range_succ, List.filter_append, List.map_append]
      have e : ((List.filter p [i]).map f) = [] := by
        rw [List.filter_cons, if_neg (by rw [hp]; exact Bool.false_ne_true)]
        rfl
      rw [e, List.append_nil]
      exact h2.ex k12.ex
  · obtain ⟨_, t1, us, h1, h2⟩ := q
    exact h L us Hc t1 hL nL h1 h2
/-- a comprehension without a test, each value told by a relation -/
theorem lc_R {S : List Addr} {T : Hp → Hp → Prop} {n : Nat} {G : Hp → Prop} {Y : Nat → Hp → V → Hp → Prop} {P : Nat → V → Prop} {P2 : Nat → L2.St → Prop} (t : Tr S H T) (hS : ∀ b ∈ S, ∃ o, H b = some o) (w : Walk J n G Y) (hY : ∀ i H x H', i < n → Y i H x H' → H' = H ∧ P i x) (hn : n < 100000)
    (hG : ∀ Hc, T H Hc → G Hc) (R : Nat → PyData → Prop)
    (hg : ∀ i x Hc (N : L2.St → Hp → Prop), i < n → P i x → T H Hc → (∀ σ2, wipe σ2 vs = wipe σ vs → P2 i σ2 → N σ2 Hc) → g x (wipe σ vs) Hc N)
    (he : ∀ L i σ2 Hc, i < n → P2 i σ2 → H L = none → L ∉ S → T H Hc → (∀ b ∈ L :: S, ∃ o, Hc b = some o) → Ex (hid S H) (hid (L :: S) Hc) → ∀ N : VK, (∀ v d H2, T Hc H2 → Dp K (hid (L :: S) H2) v d → R i d → N v H2) → te σ2 Hc N)
    (h : ∀ L us Hc ds, T H Hc → H L = none → L ∉ S → Hc L = some (.lst us) → DpAll K (hid (L :: S) Hc) us ds → ds.length = n → (∀ i d, ds[i]? = some d → R i d) → Q (.ref L) Hc) : lcB g tYes te vs σ Q J H := by
  intro L hL
  have nL : L ∉ S := notin_of hS hL
  have up : ∀ {Hc}, T H Hc → Ex (hid S H) (hid (L :: S) Hc) := fun q => (t.kp q).up fun b hb hn => by
    rcases List.mem_cons.mp hb with z | z
    · rw [z]; exact hL
    · exact absurd z hn
  have kL : ∀ {a b : Hp} {o}, T a b → a L = some o → b L = some o := fun q z => t.kp q L _ nL z
  refine lc_it w (fun i Hc => i ≤ n ∧ T H Hc ∧ ∃ us ds, Hc L = some (.lst us) ∧ DpAll K (hid (L :: S) Hc) us ds ∧ ds.length = i ∧ ∀ i d, ds[i]? = some d → R i d) ⟨Nat.zero_le _, t.put hL t.rfl', [], [], upd_same, .nil, rfl, fun i d z => by simp at z⟩ (fun i Hc _ q => hG Hc q.2.1) (fun i x Hc H' hi q y => ?_) fun Hc q => ?_
  · obtain ⟨hi1, t1, us, ds, h1, h2, h3, h4⟩ := q
    obtain ⟨rfl, px⟩ := hY _ _ _ _ hi y
    refine hg i x _ _ hi px t1 fun σ2 hw p2 => ⟨hw, rd_yes ?_⟩
    refine rd_iteT ?_
    have hs1 : ∀ b ∈ L :: S, ∃ o, H' b = some o := fun b hb => by
      rcases List.mem_cons.mp hb with z | z
      · rw [z]; exact ⟨_, h1⟩
      · exact t.st t1 (hS b z)
    refine he L i σ2 _ hi p2 hL nL t1 hs1 (up t1) _ fun v d H3 t3 dv rv => ?_
    have k23 := (t.kp t3).sub (S' := L :: S) fun b hb => List.mem_cons_of_mem _ hb
    refine ⟨us, kL t3 h1, by rw [h2.len, h3]; exact Nat.lt_of_lt_of_le (Nat.lt_trans hi hn) (by decide), hi, t.put hL (t.trans t1 t3), us ++ [v], ds ++ [d], upd_same, ((h2.ex k23.ex).snoc dv).ex (Kp.put List.mem_cons_self).ex, by rw [List.length_append, h3]; rfl, fun i' d' hd' => ?_⟩
    by_cases hlt : i' < ds.length
    · rw [List.getElem?_append_left hlt] at hd'
      exact h4 i' d' hd'
    · rw [List.getElem?_append_right (by omega)] at hd'
      have e0 : i' - ds.length = 0 := by
        rcases Nat.eq_zero_or_pos (i' - ds.length) with z | z
        · exact z
        · rw [List.getElem?_eq_none (by simp; omega)] at hd'
          cases hd'
      rw [e0] at hd'
      obtain rfl : d = d' := Option.some.inj hd'
      have e3 : i' = i := by omega
      rw [e3]
      exact rv
  · obtain ⟨_, t1, us, ds, h1, h2, h3, h4⟩ := q
    exact h L us Hc ds t1 hL nL h1 h2 h3 h4
/-- one name as the target -/
theorem hg_name {T : Hp → Hp → Prop} {n j : Nat} {P : Nat → V → Prop} {H : Hp} (hw : ∀ v : V, wipe ((wipe σ [j]).set j (some v)) [j] = wipe σ [j]) : ∀ i x Hc (N : L2.St → Hp → Prop), i < n → P i x → T H Hc → (∀ σ2, wipe σ2 [j] = wipe σ [j] → (∃ v, P i v ∧ σ2 = (wipe σ [j]).set j (some v)) → N σ2 Hc) → gName j x (wipe σ [j]) Hc N :=
  fun i x Hc N _ p _ h => h _ (hw x) ⟨x, p, rfl⟩
theorem wd_Y {n : Nat} : ∀ (i : Nat) (H : Hp) (x : V) (H' : Hp), i < n → YD K ds H0 i H x H' → H' = H ∧ ∃ d, ds[i]? = some d ∧ Dp K H0 x d := fun _ _ _ _ _ y => y
theorem str_Y {z : Str} : ∀ (i : Nat) (H : Hp) (x : V) (H' : Hp), i < z.cps.size → (H' = H ∧ ∃ c, z.cps[i]? = some c ∧ x = .str ⟨#[c]⟩) → H' = H ∧ ∃ c, z.cps.toList[i]? = some c ∧ x = V.str ⟨#[c]⟩ := fun i H x H' _ y => ⟨y.1, by
  obtain ⟨c, h1, h2⟩ := y.2
  exact ⟨c, by rw [Array.getElem?_toList]; exact h1, h2⟩⟩
/-! over data, one name as the target -/
theorem getD_range {α β : Type} (l : List α) (a : α) (q : α → Bool) (f : α → β) : ((List.range l.length).filter (fun i => q (l.getD i a))).map (fun i => f (l.getD i a)) = (l.filter q).map f := by
  have e : (List.range l.length).map (fun i => l.getD i a) = l := by
    refine List.ext_getElem (by simp) fun i h1 h2 => ?_
    rw [List.getElem_map, List.getElem_range, List.getD_eq_getElem?_getD, List.getElem?_eq_getElem h2]
    rfl
  have h : ((List.range l.length).map (fun i => l.getD i a)).filter q = ((List.range l.length).filter (fun i => q (l.getD i a))).map (fun i => l.getD i a) := List.filter_map ..
  rw [e] at h
  rw [h, List.map_map]
  rfl
theorem lc_FD {S : List Addr} {T : Hp → Hp → Prop} {j : Nat} (t : Tr S H T) (hS : ∀ b ∈ S, ∃ o, H b = some o) (w : Wd K J ds H0) (e0 : Ex H0 (hid S H)) (hn : ds.length < 100000) (hw : ∀ v : V, wipe ((wipe σ [j]).set j (some v)) [j] = wipe σ [j])
    (q : PyData → Bool) (F : PyData → PyData)
    (ht : ∀ L d v Hc, d ∈ ds → Dp K (hid (L :: S) Hc) v d → H L = none → L ∉ S → T H Hc → (∀ b ∈ L :: S, ∃ o, Hc b = some o) → Ex (hid S H) (hid (L :: S) Hc) → ∀ N : Bool → Hp → Prop, (∀ H2, T Hc H2 → N (q d) H2) → tt ((wipe σ [j]).set j (some v)) Hc N)
    (he : ∀ L d v Hc, d ∈ ds → Dp K (hid (L :: S) Hc) v d → q d = true → H L = none → L ∉ S → T H Hc → (∀ b ∈ L :: S, ∃ o, Hc b = some o) → Ex (hid S H) (hid (L :: S) Hc) → ∀ N : VK, (∀ v H2, T Hc H2 → Dp K (hid (L :: S) H2) v (F d) → N v H2) → te ((wipe σ [j]).set j (some v)) Hc N)
    (h : ∀ L us Hc, T H Hc → H L = none → L ∉ S → Hc L = some (.lst us) → DpAll K (hid (L :: S) Hc) us ((ds.filter q).map F) → Q (.ref L) Hc) : lcB (gName j) tt te [j] σ Q J H := by
  have hd : ∀ {i : Nat} {d : PyData}, ds[i]? = some d → ds.getD i .none = d := fun z => by rw [List.getD_eq_getElem?_getD, z]; rfl
  refine lc_F (K := K) (P := fun i x => ∃ d, ds[i]? = some d ∧ Dp K H0 x d) t hS w wd_Y hn (fun Hc z => (e0.trans (t.kp z).ex).trans hid_ex) (fun i => q (ds.getD i .none)) (fun i => F (ds.getD i .none)) (hg_name hw) (fun L i σ2 Hc hi p2 hL nL t1 hs up N hN => ?_) (fun L i σ2 Hc hi p2 hp hL nL t1 hs up N hN => ?_) fun L us Hc t1 hL nL h1 h2 => ?_
  · obtain ⟨v, ⟨d, h1, h2⟩, rfl⟩ := p2
    exact ht L d v Hc (List.mem_of_getElem? h1) (h2.ex (e0.trans up)) hL nL t1 hs up N fun H2 t2 => by have := hN H2 t2; rw [hd h1] at this; exact this
  · obtain ⟨v, ⟨d, h1, h2⟩, rfl⟩ := p2
    rw [hd h1] at hp
    exact he L d v Hc (List.mem_of_getElem? h1) (h2.ex (e0.trans up)) hp hL nL t1 hs up N fun v2 H2 t2 d2 => hN v2 H2 t2 (by rw [hd h1]; exact d2)
  · rw [getD_range] at h2
    exact h L us Hc t1 hL nL h1 h2
theorem lc_MD {S : List Addr} {T : Hp → Hp → Prop} {j : Nat} (t : Tr S H T) (hS : ∀ b ∈ S, ∃ o, H b = some o) (w : Wd K J ds H0) (e0 : Ex H0 (hid S H)) (hn : ds.length < 100000) (hw : ∀ v : V, wipe ((wipe σ [j]).set j (some v)) [j] = wipe σ [j])
    (F : PyData → PyData)
    (he : ∀ L d v Hc, d ∈ ds → Dp K (hid (L :: S) Hc) v d → H L = none → L ∉ S → T H Hc → (∀ b ∈ L :: S, ∃ o, Hc b = some o) → Ex (hid S H) (hid (L :: S) Hc) → ∀ N : VK, (∀ v H2, T Hc H2 → Dp K (hid (L :: S) H2) v (F d) → N v H2) → te ((wipe σ [j]).set j (some v)) Hc N)
    (h : ∀ L us Hc, T H Hc → H L = none → L ∉ S → Hc L = some (.lst us) → DpAll K (hid (L :: S) Hc) us (ds.map F) → Q (.ref L) Hc) : lcB (gName j) tYes te [j] σ Q J H := by
  refine lc_FD (K := K) t hS w e0 hn hw (fun _ => true) F (fun L d v Hc _ _ _ _ t1 _ _ N hN => rd_yes (hN Hc (t.here t1))) (fun L d v Hc hm hd _ hL nL t1 hs up N hN => he L d v Hc hm hd hL nL t1 hs up N hN) fun L us Hc t1 hL nL h1 h2 => ?_
  rw [List.filter_eq_self.mpr fun _ _ => rfl] at h2
  exact h L us Hc t1 hL nL h1 h2
theorem ex_up1 {H H' : Hp} {q : Addr} (e : Ex H H') (hq : H q = none) : Ex H (hid [q] H') := fun b o z => by
  rw [hid_at (fun m => by rw [List.mem_singleton.mp m, hq] at z; cases z)]
  exact e b o z
theorem st1 {H : Hp} {q : Addr} {o : HO} (h : H q = some o) : ∀ b ∈ [q], ∃ o, H b = some o := fun b hb => by
  cases List.mem_singleton.mp hb
  exact ⟨o, h⟩
theorem sts_ex {S : List Addr} {H H' : Hp} (h : ∀ b ∈ S, ∃ o, H b = some o) (e : Ex H H') : ∀ b ∈ S, ∃ o, H' b = some o := fun b hb => by
  obtain ⟨o, z⟩ := h b hb
  exact ⟨o, e b o z⟩
theorem ex_nil {H H' : Hp} (e : Ex H H') : Ex H (hid [] H') := by rw [hid_nil]; exact e
def isN : PyData → Bool
  | .none => true
  | _ => false
theorem isN_dp {H : Hp} {v : V} {d : PyData} (h : Dp K H v d) : decide (v = .non) = isN d := by
  cases h <;> rfl
/-- the values of plain data -/
theorem dp_strs {H : Hp} : ∀ {vs : List V} {ss : List Str}, DpAll K H vs (ss.map PyData.str) → vs = ss.map V.str
  | _, [], h => by cases h; rfl
  | _, s :: ss, h => by
    cases h with
    | cons h1 h2 => rw [Dp.str_iff h1, dp_strs h2]; rfl
theorem dp_ints' {H : Hp} : ∀ {vs : List V} {ss : List Int}, DpAll K H vs (ss.map PyData.int) → vs = ss.map V.int
  | _, [], h => by cases h; rfl
  | _, s :: ss, h => by
    cases h with
    | cons h1 h2 => rw [Dp.int_iff h1, dp_ints' h2]; rfl
theorem dp_bls {H : Hp} : ∀ {vs : List V} {ss : List Bool}, DpAll K H vs (ss.map PyData.bool) → vs = ss.map V.bl
  | _, [], h => by cases h; rfl
  | _, s :: ss, h => by
    cases h with
    | cons h1 h2 => rw [Dp.bl_iff h1, dp_bls h2]; rfl
theorem dps_str {H : Hp} (ss : List Str) : DpAll K H (ss.map V.str) (ss.map PyData.str) := DpAll.mapV _ _ _ fun x _ => .str x
theorem dps_int {H : Hp} (ss : List Int) : DpAll K H (ss.map V.int) (ss.map PyData.int) := DpAll.mapV _ _ _ fun x _ => .int x
theorem dps_bl {H : Hp} (ss : List Bool) : DpAll K H (ss.map V.bl) (ss.map PyData.bool) := DpAll.mapV _ _ _ fun x _ => .bl x
end
end
section
variable {X : Cx} (K : PySem.W.Frag) (hK : X.K = K := by rfl)
include hK
theorem kGt {e : Expr} {n : Nat} {t : TGs} (h : PG X e (gTup X.K n t)) : PG X e (gTup K n t) := hK ▸ h
end
section
variable {K : PySem.W.Frag} {σ : L2.St} {H H0 : Hp} {v : V} {Q : L2.St → Hp → Prop} {t : TGs} {ds : List PyData}
/-- a, b = a tuple of data -/
theorem rd_gtD {n : Nat} (e : Ex H0 H) (h : Dp K H0 v (.tuple ds)) (hn : ds.length = n) (q : ∀ xs, DpAll K H0 xs ds → t xs σ H Q) : gTup K n t v σ H Q := by
  obtain ⟨a, vs, rfl, h1, h2⟩ := Dp.tupv h
  exact ⟨a, vs, rfl, Evl.ex_t e h1, by rw [h2.len, hn], q vs h2⟩
theorem dp2 {a b : PyData} {xs : List V} (h : DpAll K H0 xs [a, b]) : ∃ x y, xs = [x, y] ∧ Dp K H0 x a ∧ Dp K H0 y b := by
  cases h with
  | cons h1 h =>
    cases h with
    | cons h2 h =>
      cases h
      exact ⟨_, _, rfl, h1, h2⟩
theorem rd_gN {i : Nat} {tg : TGs} {x : V} {xs : List V} (h : tg xs (σ.set i (some x)) H Q) : gCons (gName i) tg (x :: xs) σ H Q := ⟨_, _, rfl, h⟩
theorem rd_gE (h : Q σ H) : gNil [] σ H Q := ⟨rfl, h⟩
end
/-! ### hiding what data can't reach -/
mutual
def noList : PyData → Bool
  | .list _ => false
  | .tuple ds => noListAll ds
  | _ => true
def noListAll : List PyData → Bool
  | [] => true
  | d :: ds => noList d && noListAll ds
end
section
variable {K : PySem.W.Frag} {S : List Addr} {H : Hp}
theorem sqt_hid (h : ∀ b ∈ S, (∃ C dx fs, H b = some (.ins C dx fs)) ∨ ∃ xs, H b = some (.lst xs)) {a : Addr} {vs : List V} (q : SqT K H a vs) : SqT K (hid S H) a vs := by
  rcases q with (q | ⟨o, q⟩) | q
  · refine .inl (.inl ?_)
    rw [hid_at fun hb => ?_]
    · exact q
    · rcases h a hb with ⟨_, _, _, z⟩ | ⟨_, z⟩ <;> rw [z] at q <;> cases q
  · refine .inl (.inr ⟨o, ?_⟩)
    rw [hid_at fun hb => ?_]
    · exact q
    · rcases h a hb with ⟨_, _, _, z⟩ | ⟨_, z⟩ <;> rw [z] at q <;> cases q
  · exact .inr q
theorem sql_hid (h : ∀ b ∈ S, ∃ C dx fs, H b = some (.ins C dx fs)) {a : Addr} {vs : List V} (q : SqL K H a vs) : SqL K (hid S H) a vs := by
  rcases q with (q | ⟨o, q⟩) | q
  · refine .inl (.inl ?_)
    rw [hid_at fun hb => ?_]
    · exact q
    · obtain ⟨_, _, _, z⟩ := h a hb
      rw [z] at q; cases q
  · refine .inl (.inr ⟨o, ?_⟩)
    rw [hid_at fun hb => ?_]
    · exact q
    · obtain ⟨_, _, _, z⟩ := h a hb
      rw [z] at q; cases q
  · exact .inr q
mutual
theorem Dp.hidI (h : ∀ b ∈ S, ∃ C dx fs, H b = some (.ins C dx fs)) : ∀ (d : PyData) {v : V}, Dp K H v d → Dp K (hid S H) v d
  | .none, _, q => by cases q; exact .non
  | .bool b, _, q => by cases q; exact .bl b
  | .int i, _, q => by cases q; exact .int i
  | .str x, _, q => by cases q; exact .str x
  | .list ds, _, q => by
    cases q with
    | lst hs ha => exact .lst (sql_hid h hs) (DpAll.hidI h ds ha)
  | .tuple ds, _, q => by
    cases q with
    | tup hs ha => exact .tup (sqt_hid (fun b hb => .inl (h b hb)) hs) (DpAll.hidI h ds ha)
  | .dict _, _, q => by cases q
theorem DpAll.hidI (h : ∀ b ∈ S, ∃ C dx fs, H b = some (.ins C dx fs)) : ∀ (ds : List PyData) {vs : List V}, DpAll K H vs ds → DpAll K (hid S H) vs ds
  | [], _, q => by cases q; exact .nil
  | d :: ds, _, q => by
    cases q with
    | cons h1 h2 => exact .cons (Dp.hidI h d h1) (DpAll.hidI h ds h2)
end
mutual
theorem Dp.hidT (h : ∀ b ∈ S, (∃ C dx fs, H b = some (.ins C dx fs)) ∨ ∃ xs, H b = some (.lst xs)) : ∀ (d : PyData) {v : V}, noList d = true → Dp K H v d → Dp K (hid S H) v d
  | .none, _, _, q => by cases q; exact .non
  | .bool b, _, _, q => by cases q; exact .bl b
  | .int i, _, _, q => by cases q; exact .int i
  | .str x, _, _, q => by cases q; exact .str x
  | .list ds, _, n, q => by cases n
  | .tuple ds, _, n, q => by
    cases q with
    | tup hs ha => exact .tup (sqt_hid h hs) (DpAll.hidT h ds n ha)
  | .dict _, _, _, q => by cases q
theorem DpAll.hidT (h : ∀ b ∈ S, (∃ C dx fs, H b = some (.ins C dx fs)) ∨ ∃ xs, H b = some (.lst xs)) : ∀ (ds : List PyData) {vs : List V}, noListAll ds = true → DpAll K H vs ds → DpAll K (hid S H) vs ds
  | [], _, _, q => by cases q; exact .nil
  | d :: ds, _, n, q => by
    obtain ⟨n1, n2⟩ := Bool.and_eq_true_iff.mp n
    cases q with
    | cons h1 h2 => exact .cons (Dp.hidT h d n1 h1) (DpAll.hidT h ds n2 h2)
end
theorem noList_all {ds : List PyData} (h : ∀ d ∈ ds, noList d = true) : noListAll ds = true := by
  induction ds with
  | nil => rfl
  | cons d ds ih =>
    show (noList d && noListAll ds) = true
    rw [h d List.mem_cons_self, ih fun e he => h e (List.mem_cons_of_mem _ he)]
    rfl
/-- a list or a tuple of data -/
def SqD (K : PySem.W.Frag) (H : Hp) (x : V) (ds : List PyData) : Prop := Dp K H x (.list ds) ∨ Dp K H x (.tuple ds)
theorem SqD.ex {H' : Hp} {x : V} {ds : List PyData} (h : SqD K H x ds) (e : Ex H H') : SqD K H' x ds := h.elim (fun z => .inl (z.ex e)) fun z => .inr (z.ex e)
theorem rd_anySq {σ : L2.St} {H0 : Hp} {te : TE} {x : V} {ds : List PyData} {R : It → Hp → Prop} (he : ∀ Q : VK, Q x H → te σ H Q) (e : Ex H0 H) (h : SqD K H0 x ds) (q : ∀ J, Wd K J ds H0 → R J H) : iAny K te σ H R := by
  rcases h with h | h
  · exact rd_anyL' (he _ (rd_itDL e h q))
  · exact rd_anyT' (he _ (rd_itDT e h q))
/-- tuple(x) -/
theorem rd_tupSq {S : List Addr} {H0 : Hp} {x : V} {ds : List PyData} {Q : VK} (hs : ∀ b ∈ S, ∃ o, H b = some o) (e : Ex H0 (hid S H)) (h : SqD K H0 x ds) (q : ∀ a H', Ex H H' → Dp K (hid S H') (.ref a) (.tuple ds) → Q (.ref a) H') : cTupOf K [x] H Q := by
  rcases h with h | h
  · obtain ⟨a, vs, rfl, h1, h2⟩ := Dp.lstv h
    exact rd_tupL (Evl.ex_l (e.trans hid_ex) h1) fun l hl => q l _ (Evl.Ex.new hl) (Dp.newT hl (notin_of hs hl) (h2.ex e))
  · obtain ⟨a, vs, rfl, h1, h2⟩ := Dp.tupv h
    exact rd_tupT (Evl.ex_t (e.trans hid_ex) h1) (q a H (Evl.Ex.refl H) (h.ex e))
/-- list(x) -/
theorem rd_lstSq {S : List Addr} {H0 : Hp} {x : V} {ds : List PyData} {Q : VK} (e : Ex H0 (hid S H)) (h : SqD K H0 x ds) (q : ∀ l vs, H l = none → DpAll K (hid S H) vs ds → Q (.ref l) (upd H l (.lst vs))) : cLstOf K [x] H Q := by
  rcases h with h | h
  · obtain ⟨a, vs, rfl, h1, h2⟩ := Dp.lstv h
    exact rd_lstL (.inl (Evl.ex_l (e.trans hid_ex) h1)) fun l hl => q l vs hl (h2.ex e)
  · obtain ⟨a, vs, rfl, h1, h2⟩ := Dp.tupv h
    exact rd_lstL (.inr (Evl.ex_t (e.trans hid_ex) h1)) fun l hl => q l vs hl (h2.ex e)
end
section
variable {K : PySem.W.Frag} {H : Hp}
theorem rd_lstSq0 {H0 : Hp} {x : V} {ds : List PyData} {Q : VK} (e : Ex H0 H) (h : SqD K H0 x ds) (q : ∀ l vs, H l = none → DpAll K H0 vs ds → Q (.ref l) (upd H l (.lst vs))) : cLstOf K [x] H Q := by
  rcases h with h | h
  · obtain ⟨a, vs, rfl, h1, h2⟩ := Dp.lstv h
    exact rd_lstL (.inl (Evl.ex_l e h1)) fun l hl => q l vs hl h2
  · obtain ⟨a, vs, rfl, h1, h2⟩ := Dp.tupv h
    exact rd_lstL (.inr (Evl.ex_t e h1)) fun l hl => q l vs hl h2
end
theorem rd_par3 {i j l : Nat} {ta : TA} {D : Ends} {σ : L2.St} {H : Hp} (h : ta σ H fun vs H1 => ∃ u v w, vs = [u, v, w] ∧ D.nx (((σ.set i (some u)).set j (some v)).set l (some w)) H1) : tPar3 i j l ta D σ H := h
theorem rd_v3 {u v w : V} {P : V → V → V → Prop} (h : P u v w) : ∃ u' v' w', [u, v, w] = [u', v', w'] ∧ P u' v' w' := ⟨u, v, w, rfl, h⟩
end AT

set_option Elab.async false
set_option linter.all false
set_option maxRecDepth 100000
set_option maxHeartbeats 4000000
/-! own words, fifth part: dicts whose keys are tuples, lists unpacked, while -/
namespace AT
open PySem PySem.Spec PyProof.Rows L2
/-- {k: v}, the key a tuple -/
def tDisp1T (tk tv : TE) : TE := fun σ H Q => ∀ p, H p = none → tk σ (upd H p (.dT [])) fun x H1 => tv σ H1 fun y H2 => H2 p = some (.dT []) ∧ ∃ (b : Addr) (k : List Key), x = .ref b ∧ H2 b = some (.tup (k.map kV)) ∧ Q (.ref p) (upd H2 p (.dT [(k, y)]))
section
variable {X : Cx} {pos : Pos} {k v : Expr} {tk tv : TE}
theorem pe_disp1T (hu : X.A.units + 1 < cLine) (hk : PE X k tk) (hv : PE X v tv) : PE X (.Dict [some k] [v] pos) (tDisp1T tk tv) := by
  refine ⟨fun pins s σ H Q I q => ?_⟩
  have hn := I.hok.fresh (Nat.le_refl s.heap.objs.size)
  have I1 := I.laid (a := s.heap.objs.size) (o := .dT []) (t' := s.toks) (fun _ _ z => Heap.get?_push_of_some _ z) (Nat.le_refl _) (dt_empty s.heap I.big)
  have hz := zip_pairTrees [some k] [v] X.env pos rfl rfl
  have hl : (pairTrees [some k] [v] X.env pos).length = 1 := pairTrees_length [some k] [v] X.env pos rfl rfl
  have hne : pairTrees [some k] [v] X.env pos ≠ [] := fun z => by rw [z] at hl; cases hl
  have room : (tupleKind (mixKind X.prog X.w)).room X.A := Nat.lt_of_succ_lt hu
  rw [arm_eval_Dict, hz, dictDisplay_pairs _ hne (by rw [hl]; decide)]
  refine wpAny_bind (wpAny_standAt (wpAny_bind ?_))
  refine wpAny_subDictH (knd := tupleKind (mixKind X.prog X.w)) room (by rw [hl]; decide) ?_
  refine pairTrees_cons_walk (thn (hk.run pins _ σ _ _ I1 (q _ hn)) fun u s1 ⟨x, H1, I1', rx, q1⟩ => thn (hv.run pins s1 σ H1 _ I1' q1) fun w2 s2 ⟨y, H2, I2, ry, q2⟩ => pairTrees_nil_walk ?_)
  obtain ⟨e, b, ks, rfl, eb, q3⟩ := q2
  cases (show u = Value.ref b from rx)
  obtain ⟨z, hd, xs0, r0, dd⟩ := dt_of I2.hok e
  cases r0
  refine ⟨[(ks, b, w2)], ⟨rfl, rfl, key_of I2.hok eb, True.intro⟩, dd, fun h' tk dd' hs => wpAny_pure ⟨.ref s.heap.objs.size, _, ?_, rfl, q3⟩⟩
  have e1 : storedAllH [] [(ks, b, w2)] = [(ks, b, w2)] := rfl
  rw [e1] at dd'
  obtain ⟨o, es, ep, ho, h2, h3, h4, h5, h6⟩ := dd'
  refine d_write I2 (by rw [e]; exact True.intro) hs ⟨o, ho⟩ ⟨by show 1 ≤ sizeLine; decide, hd, [(ks, b, w2)], .cons ⟨rfl, ?_, ry⟩ .nil, o, es, ep, ho, h2, h3, h4, h6⟩
  show upd H2 s.heap.objs.size _ b = _
  rw [upd_ne (ne_of eb e (fun z => nomatch z))]
  exact eb
end
section
variable {X : Cx} (K : PySem.W.Frag) (hK : X.K = K := by rfl)
include hK
theorem kGl {e : Expr} {n : Nat} {t : TGs} (h : PG X e (gLst X.K n t)) : PG X e (gLst K n t) := hK ▸ h
end
section
variable {K : PySem.W.Frag} {σ : L2.St} {H : Hp} {Q : VK} {D : Ends} {td ty tv tk : TE} {tt : TT} {tb : TS}
theorem rd_dget (h : td σ H fun x H1 => ty σ H1 fun y H2 => ∃ a v, x = .ref a ∧ DGet H2 a y (some v) ∧ Q v H2) : tDGet td ty σ H Q := h
theorem rd_din (h : ty σ H fun y H1 => td σ H1 fun x H2 => ∃ a o, x = .ref a ∧ DGet H2 a y o ∧ Q (.bl o.isSome) H2) : tDIn ty td σ H Q := h
theorem rd_dnin (h : ty σ H fun y H1 => td σ H1 fun x H2 => ∃ a o, x = .ref a ∧ DGet H2 a y o ∧ Q (.bl (!o.isSome)) H2) : tDNotIn ty td σ H Q := h
theorem rd_dput (h : tv σ H fun v H1 => td σ H1 fun x H2 => ty σ H2 fun y H3 => ∃ a H4, x = .ref a ∧ DPut H3 a y v H4 ∧ D.nx σ H4) : sDPut td ty tv D σ H := h
theorem rd_disp1T (h : ∀ p, H p = none → tk σ (upd H p (.dT [])) fun x H1 => tv σ H1 fun y H2 => H2 p = some (.dT []) ∧ ∃ (b : Addr) (k : List Key), x = .ref b ∧ H2 b = some (.tup (k.map kV)) ∧ Q (.ref p) (upd H2 p (.dT [(k, y)]))) : tDisp1T tk tv σ H Q := h
theorem rd_dnK (h : ∀ p, H p = none → Q (.ref p) (upd H p (.dK []))) : tDNewK σ H Q := h
theorem rd_dnT (h : ∀ p, H p = none → Q (.ref p) (upd H p (.dT []))) : tDNewT σ H Q := h
theorem rd_wh (W : Nat → L2.St → Hp → Prop) (m0 : Nat) (h0 : W m0 σ H) (hs : ∀ m σ' H', W m σ' H' → tt σ' H' fun b H1 => if b = true then ∃ N : L2.St → Hp → Prop, (∀ σ2 H2, N σ2 H2 → ∃ m', m' < m ∧ W m' σ2 H2) ∧ tb { D with nx := N, ct := N, bk := D.nx } σ' H1 else D.nx σ' H1) : tWhile tt tb D σ H := ⟨W, ⟨m0, h0⟩, hs⟩
end
end AT

set_option Elab.async false
set_option linter.all false
set_option maxRecDepth 100000
set_option maxHeartbeats 4000000
local macro_rules | `(tactic| walk_at "rd1") => `(tactic| with_reducible first
  | refine AT.rd_seq ?_ | refine AT.rd_is ?_ | refine AT.rd_asg ?_ | refine AT.rd_name ?_ | refine AT.rd_var (by with_unfolding_all rfl) ?_ | refine AT.rd_c ?_ | refine AT.rd_op ?_ | refine AT.rd_ret ?_ | refine AT.rd_retN ?_ | refine AT.rd_if ?_ | refine AT.rd_ife ?_ | refine AT.rd_next ?_ | refine AT.rd_drop ?_
  | refine AT.rd_test ?_ | refine AT.rd_tB ?_ | refine AT.rd_bl ?_ | refine AT.rd_not ?_ | refine AT.rd_and ?_ | refine AT.rd_or ?_ | refine AT.rd_nil ?_ | refine AT.rd_cons ?_ | refine AT.rd_lst ?_ | refine AT.rd_tup ?_ | refine AT.rd_cb ?_ | refine AT.rd_chain ?_
  | refine AT.rd_called ?_ | refine AT.rd_calledR ?_ | refine AT.rd_raised ?_ | refine AT.rd_iteT ?_ | refine AT.rd_iteF ?_ | refine AT.rd_iteNF ?_ | refine AT.rd_iteNT ?_ | refine AT.rd_addI ?_ | refine AT.rd_subI ?_ | refine AT.rd_lt ?_ | refine AT.rd_le ?_ | refine AT.rd_gt ?_ | refine AT.rd_ge ?_ | refine AT.rd_eqI ?_ | refine AT.rd_neI ?_ | refine AT.rd_eqS ?_ | refine AT.rd_neS ?_
  | refine AT.rd_int ?_ | refine AT.rd_abs ?_ | refine AT.rd_inS ?_ | refine AT.rd_niS ?_ | refine AT.rd_rng1 ?_ | refine AT.rd_rng2 ?_ | refine AT.rd_bm ?_ | refine AT.rd_fld ?_ | refine AT.rd_sfld ?_ | refine AT.rd_makeR ?_ | refine AT.rd_methR ?_ | refine AT.rd_meth ?_ | refine AT.rd_notV ?_ | refine AT.rd_xf ?_ | refine AT.rd_andV ?_ | refine AT.rd_orV ?_ | refine AT.rd_sl ?_ | refine AT.rd_noPart ?_ | refine AT.rd_part ?_ | refine AT.rd_intv ?_ | refine AT.rd_raised1 ?_ | refine AT.rd_gsub ?_ | refine AT.rd_gN ?_ | refine AT.rd_par3 ?_ | refine AT.rd_dget ?_ | refine AT.rd_din ?_ | refine AT.rd_dnin ?_ | refine AT.rd_dput ?_ | refine AT.rd_disp1T ?_ | refine AT.rd_dnK ?_ | refine AT.rd_dnT ?_ | refine AT.rd_v3 ?_ | refine AT.rd_gE ?_ | refine AT.rd_for ?_ | refine AT.rd_lc ?_ | refine AT.rd_lenL (by assumption) ?_ | refine AT.rd_lenT (by assumption) ?_)
local macro_rules | `(tactic| walk_at "rd") => `(tactic| (repeat walk_at "rd1"))
local macro_rules | `(tactic| walk_at "rc1") => `(tactic| with_reducible first
  | refine AT.rd_seqA ?_ | refine AT.rd_is ?_ | refine AT.rd_seqD ?_ | refine AT.rd_asg ?_ | refine AT.rd_name ?_ | refine AT.rd_var (by with_unfolding_all rfl) ?_ | refine AT.rd_c ?_ | refine AT.rd_op ?_ | refine AT.rd_ret ?_ | refine AT.rd_retN ?_ | refine AT.rd_if ?_ | refine AT.rd_next ?_ | refine AT.rd_drop ?_
  | refine AT.rd_test ?_ | refine AT.rd_tB ?_ | refine AT.rd_bl ?_ | refine AT.rd_not ?_ | refine AT.rd_and ?_ | refine AT.rd_or ?_ | refine AT.rd_nil ?_ | refine AT.rd_cons ?_ | refine AT.rd_lst ?_ | refine AT.rd_tup ?_ | refine AT.rd_cb ?_ | refine AT.rd_chain ?_
  | refine AT.rd_called ?_ | refine AT.rd_calledR ?_ | refine AT.rd_raised ?_ | refine AT.rd_iteT ?_ | refine AT.rd_iteF ?_ | refine AT.rd_iteNF ?_ | refine AT.rd_iteNT ?_ | refine AT.rd_addI ?_ | refine AT.rd_subI ?_ | refine AT.rd_lt ?_ | refine AT.rd_le ?_ | refine AT.rd_gt ?_ | refine AT.rd_ge ?_ | refine AT.rd_eqI ?_ | refine AT.rd_neI ?_ | refine AT.rd_eqS ?_ | refine AT.rd_neS ?_
  | refine AT.rd_int ?_ | refine AT.rd_abs ?_ | refine AT.rd_inS ?_ | refine AT.rd_niS ?_ | refine AT.rd_rng1 ?_ | refine AT.rd_rng2 ?_ | refine AT.rd_bm ?_ | refine AT.rd_fld ?_ | refine AT.rd_sfld ?_ | refine AT.rd_makeR ?_ | refine AT.rd_methR ?_ | refine AT.rd_meth ?_ | refine AT.rd_notV ?_ | refine AT.rd_xf ?_ | refine AT.rd_sl ?_ | refine AT.rd_noPart ?_ | refine AT.rd_part ?_ | refine AT.rd_intv ?_ | refine AT.rd_raised1 ?_ | refine AT.rd_gsub ?_ | refine AT.rd_gN ?_ | refine AT.rd_par3 ?_ | refine AT.rd_dget ?_ | refine AT.rd_din ?_ | refine AT.rd_dnin ?_ | refine AT.rd_dput ?_ | refine AT.rd_disp1T ?_ | refine AT.rd_dnK ?_ | refine AT.rd_dnT ?_ | refine AT.rd_v3 ?_ | refine AT.rd_gE ?_ | refine AT.rd_for ?_ | refine AT.rd_lc ?_ | refine AT.rd_lenL (by assumption) ?_ | refine AT.rd_lenT (by assumption) ?_)
local macro_rules | `(tactic| walk_at "rc") => `(tactic| ((repeat walk_at "rc1"); (try with_reducible refine AT.rd_idS ?_)))
local macro_rules | `(tactic| walk_at "rs") => `(tactic| with_reducible refine AT.rd_seq ?_)

namespace AT
open PySem L2
def top (i : Nat) : Stmt := PySem.Challenge.pw_anytext_k22_rewriters_in_turn.main.body.getD i (.Pass ⟨0, 0, 0, 0⟩)
abbrev s_is_text : Stmt := top 5
theorem sc_is_text : FnScope ["letters", "text", "letter"] ["letters", "text"] (defScope s_is_text) := ⟨rfl, rfl, rfl, by decide +kernel, rfl, by decide +kernel, by decide +kernel⟩
abbrev s_in_turn : Stmt := top 9
theorem sc_in_turn : FnScope ["first", "second", "behind_lead", "start", "numbers", "pairs", "finals", "table", "state", "place", "row", "way", "behind", "pair"] ["first", "second"] (defScope s_in_turn) := ⟨rfl, rfl, rfl, by decide +kernel, rfl, by decide +kernel, by decide +kernel⟩
abbrev s__final : Stmt := top 10
theorem sc__final : FnScope ["text", "second", "place", "behind"] ["text", "second", "place"] (defScope s__final) := ⟨rfl, rfl, rfl, by decide +kernel, rfl, by decide +kernel, by decide +kernel⟩
abbrev s_cell : Stmt := top 12
theorem sc_cell : FnScope ["script", "k"] ["script", "k"] (defScope s_cell) := ⟨rfl, rfl, rfl, by decide +kernel, rfl, by decide +kernel, by decide +kernel⟩
abbrev s_numbers : Stmt := top 13
theorem sc_numbers : FnScope ["cell", "many", "rest", "whole", "numbers", "k", "mixed"] ["cell", "many"] (defScope s_numbers) := ⟨rfl, rfl, rfl, by decide +kernel, rfl, by decide +kernel, by decide +kernel⟩
abbrev s_state : Stmt := top 14
theorem sc_state : FnScope ["script", "start", "many", "numbers", "k", "cell"] ["script", "start", "many"] (defScope s_state) := ⟨rfl, rfl, rfl, by decide +kernel, rfl, by decide +kernel, by decide +kernel⟩
abbrev s_next : Stmt := top 15
theorem sc_next : FnScope ["state", "many", "numbers", "place"] ["state", "many"] (defScope s_next) := ⟨rfl, rfl, rfl, by decide +kernel, rfl, by decide +kernel, by decide +kernel⟩
abbrev s_letters : Stmt := top 16
theorem sc_letters : FnScope ["state", "most", "pool", "letters", "k", "letter"] ["state", "most"] (defScope s_letters) := ⟨rfl, rfl, rfl, by decide +kernel, rfl, by decide +kernel, by decide +kernel⟩
abbrev s_texts : Stmt := top 17
theorem sc_texts : FnScope ["letters", "most", "last", "rows", "k", "longer", "text", "letter"] ["letters", "most"] (defScope s_texts) := ⟨rfl, rfl, rfl, by decide +kernel, rfl, by decide +kernel, by decide +kernel⟩
abbrev s_word : Stmt := top 18
theorem sc_word : FnScope ["letters", "state", "most", "k"] ["letters", "state", "most"] (defScope s_word) := ⟨rfl, rfl, rfl, by decide +kernel, rfl, by decide +kernel, by decide +kernel⟩
abbrev s_maker : Stmt := top 19
theorem sc_maker : FnScope ["letters", "state", "most", "many", "finals", "k", "table", "row", "letter", "way"] ["letters", "state", "most"] (defScope s_maker) := ⟨rfl, rfl, rfl, by decide +kernel, rfl, by decide +kernel, by decide +kernel⟩
abbrev s_rewrite : Stmt := top 20
theorem sc_rewrite : FnScope ["letters", "parts", "text", "at", "written", "letter", "way"] ["letters", "parts", "text"] (defScope s_rewrite) := ⟨rfl, rfl, rfl, by decide +kernel, rfl, by decide +kernel, by decide +kernel⟩
abbrev s_law : Stmt := top 21
theorem sc_law : FnScope ["script", "state", "letters", "rows", "k", "a", "b", "c", "parts", "ab", "left", "right", "text", "made"] ["script"] (defScope s_law) := ⟨rfl, rfl, rfl, by decide +kernel, rfl, by decide +kernel, by decide +kernel⟩
abbrev s_init : Stmt := inClass (top 1) 0
theorem sc_init : FnScope ["self", "what"] ["self", "what"] (defScope s_init) := ⟨rfl, rfl, rfl, by decide +kernel, rfl, by decide +kernel, by decide +kernel⟩
abbrev s_Rewriter_init : Stmt := inClass (top 7) 0
theorem sc_Rewriter_init : FnScope ["self", "letters", "lead", "finals", "table", "way", "row"] ["self", "letters", "lead", "finals", "table"] (defScope s_Rewriter_init) := ⟨rfl, rfl, rfl, by decide +kernel, rfl, by decide +kernel, by decide +kernel⟩
abbrev s_Rewriter_check : Stmt := inClass (top 7) 1
theorem sc_Rewriter_check : FnScope ["self", "states", "written", "final", "row", "after", "text", "way"] ["self"] (defScope s_Rewriter_check) := ⟨rfl, rfl, rfl, by decide +kernel, rfl, by decide +kernel, by decide +kernel⟩
abbrev s_Rewriter_rewrite : Stmt := inClass (top 7) 2
theorem sc_Rewriter_rewrite : FnScope ["self", "text", "behind"] ["self", "text"] (defScope s_Rewriter_rewrite) := ⟨rfl, rfl, rfl, by decide +kernel, rfl, by decide +kernel, by decide +kernel⟩
abbrev s_Rewriter_rewrite_from : Stmt := inClass (top 7) 3
theorem sc_Rewriter_rewrite_from : FnScope ["self", "state", "text", "written", "letter", "way"] ["self", "state", "text"] (defScope s_Rewriter_rewrite_from) := ⟨rfl, rfl, rfl, by decide +kernel, rfl, by decide +kernel, by decide +kernel⟩
abbrev s_Rewriter_picture : Stmt := inClass (top 7) 4
theorem sc_Rewriter_picture : FnScope ["self"] ["self"] (defScope s_Rewriter_picture) := ⟨rfl, rfl, rfl, by decide +kernel, rfl, by decide +kernel, by decide +kernel⟩
structure Txt (K : PySem.W.Frag) (mg : Str → Option Value) where
  a_is_text : Addr
  d_is_text : FuncData
  f_is_text : Fun K "is_text" "is_text" s_is_text a_is_text d_is_text
  o_is_text : Own K mg "is_text" a_is_text d_is_text ["letters", "text"]
  a_in_turn : Addr
  d_in_turn : FuncData
  f_in_turn : Fun K "in_turn" "in_turn" s_in_turn a_in_turn d_in_turn
  o_in_turn : Own K mg "in_turn" a_in_turn d_in_turn ["first", "second"]
  a__final : Addr
  d__final : FuncData
  f__final : Fun K "_final" "_final" s__final a__final d__final
  o__final : Own K mg "_final" a__final d__final ["text", "second", "place"]
  a_cell : Addr
  d_cell : FuncData
  f_cell : Fun K "_law_cell" "_law_cell" s_cell a_cell d_cell
  o_cell : Own K mg "_law_cell" a_cell d_cell ["script", "k"]
  a_numbers : Addr
  d_numbers : FuncData
  f_numbers : Fun K "_law_numbers" "_law_numbers" s_numbers a_numbers d_numbers
  o_numbers : Own K mg "_law_numbers" a_numbers d_numbers ["cell", "many"]
  a_state : Addr
  d_state : FuncData
  f_state : Fun K "_law_state" "_law_state" s_state a_state d_state
  o_state : Own K mg "_law_state" a_state d_state ["script", "start", "many"]
  a_next : Addr
  d_next : FuncData
  f_next : Fun K "_law_next" "_law_next" s_next a_next d_next
  o_next : Own K mg "_law_next" a_next d_next ["state", "many"]
  a_letters : Addr
  d_letters : FuncData
  f_letters : Fun K "_law_letters" "_law_letters" s_letters a_letters d_letters
  o_letters : Own K mg "_law_letters" a_letters d_letters ["state", "most"]
  a_texts : Addr
  d_texts : FuncData
  f_texts : Fun K "_law_texts" "_law_texts" s_texts a_texts d_texts
  o_texts : Own K mg "_law_texts" a_texts d_texts ["letters", "most"]
  a_word : Addr
  d_word : FuncData
  f_word : Fun K "_law_word" "_law_word" s_word a_word d_word
  o_word : Own K mg "_law_word" a_word d_word ["letters", "state", "most"]
  a_maker : Addr
  d_maker : FuncData
  f_maker : Fun K "_law_maker" "_law_maker" s_maker a_maker d_maker
  o_maker : Own K mg "_law_maker" a_maker d_maker ["letters", "state", "most"]
  a_rewrite : Addr
  d_rewrite : FuncData
  f_rewrite : Fun K "_law_rewrite" "_law_rewrite" s_rewrite a_rewrite d_rewrite
  o_rewrite : Own K mg "_law_rewrite" a_rewrite d_rewrite ["letters", "parts", "text"]
  a_law : Addr
  d_law : FuncData
  f_law : Fun K "law" "law" s_law a_law d_law
  o_law : Own K mg "law" a_law d_law ["script"]
  a_init : Addr
  d_init : FuncData
  T_init : Addr
  f_init : FunD K "__init__" "AnytextError.__init__" (defArgs s_init) (defBody s_init) (defScope s_init) [.non] [] a_init d_init
  tI : PySem.W.typeIn K (.ref a_init) = some (.type "function")
  bI : Binds K d_init ["self", "what"] []
  C_AnytextError : Addr
  C_MachineError : Addr
  C_BadRewriter : Addr
  g_BadRewriter : mg "BadRewriter" = some (.ref C_BadRewriter)
  x_BadRewriter : ErrX K C_BadRewriter a_init
  clsB : ClsB K
  C_Rewriter : Addr
  g_Rewriter : mg "Rewriter" = some (.ref C_Rewriter)
  cl_Rewriter : Cls K C_Rewriter
  na_Rewriter_letters : NoAttr K C_Rewriter "letters"
  na_Rewriter_lead : NoAttr K C_Rewriter "lead"
  na_Rewriter_finals : NoAttr K C_Rewriter "finals"
  na_Rewriter_table : NoAttr K C_Rewriter "table"
  a_Rewriter_init : Addr
  d_Rewriter_init : FuncData
  f_Rewriter_init : Fun K "__init__" "Rewriter.__init__" s_Rewriter_init a_Rewriter_init d_Rewriter_init
  b_Rewriter_init : Binds K d_Rewriter_init ["self", "letters", "lead", "finals", "table"] []
  mk_Rewriter : Mk K C_Rewriter a_Rewriter_init
  a_Rewriter_check : Addr
  d_Rewriter_check : FuncData
  f_Rewriter_check : Fun K "check" "Rewriter.check" s_Rewriter_check a_Rewriter_check d_Rewriter_check
  b_Rewriter_check : Binds K d_Rewriter_check ["self"] []
  m_Rewriter_check : Meth K C_Rewriter "check" a_Rewriter_check
  a_Rewriter_rewrite : Addr
  d_Rewriter_rewrite : FuncData
  f_Rewriter_rewrite : Fun K "rewrite" "Rewriter.rewrite" s_Rewriter_rewrite a_Rewriter_rewrite d_Rewriter_rewrite
  b_Rewriter_rewrite : Binds K d_Rewriter_rewrite ["self", "text"] []
  m_Rewriter_rewrite : Meth K C_Rewriter "rewrite" a_Rewriter_rewrite
  a_Rewriter_rewrite_from : Addr
  d_Rewriter_rewrite_from : FuncData
  f_Rewriter_rewrite_from : Fun K "rewrite_from" "Rewriter.rewrite_from" s_Rewriter_rewrite_from a_Rewriter_rewrite_from d_Rewriter_rewrite_from
  b_Rewriter_rewrite_from : Binds K d_Rewriter_rewrite_from ["self", "state", "text"] []
  m_Rewriter_rewrite_from : Meth K C_Rewriter "rewrite_from" a_Rewriter_rewrite_from
  a_Rewriter_picture : Addr
  d_Rewriter_picture : FuncData
  f_Rewriter_picture : Fun K "picture" "Rewriter.picture" s_Rewriter_picture a_Rewriter_picture d_Rewriter_picture
  b_Rewriter_picture : Binds K d_Rewriter_picture ["self"] []
  m_Rewriter_picture : Meth K C_Rewriter "picture" a_Rewriter_picture
  nb_abs : mg "abs" = none
  nb_all : mg "all" = none
  nb_int : mg "int" = none
  nb_len : mg "len" = none
  nb_range : mg "range" = none
  nb_tuple : mg "tuple" = none
section
variable {P : Program} {w : World} {K : PySem.W.Frag} {mg : Str → Option Value} {base : Heap}
/-! ### the helpers that all laws have: cells of the script, numbers, a state, the next drawn number -/
def spCell (K : PySem.W.Frag) : Sp := fun vs H Q _ => ∃ (l : Addr) (ns : List Int) (k : Int), vs = [.ref l, .int k] ∧ SqL K H l (ns.map V.int) ∧ 0 ≤ k ∧ ∀ z, Q (.int z) H
theorem ok_cell (T : Txt K mg) : FnOk P w K mg base CX0 1 T.a_cell T.d_cell ["script", "k"] (spCell K) := by
  refine T.f_cell.ok sc_cell (fun vs H Q E h => ?_) (fun cdv A outer s H vs Q E hr h => ?_)
  · obtain ⟨_, _, _, rfl, _⟩ := h; rfl
  · obtain ⟨l, ns, k, rfl, hs, h0, q⟩ := h
    refine ⟨_, (pss_cons (ps_if (pt_cmpR op_ltP (pv 1) (pe_callB (kLen K) (by rfl) T.nb_len (by decide +kernel) (pa_cons (pv 0) pa_nil)) (by first | rfl | exact nomark _))
    (pss_one (ps_ret (pe_ix (kIx K) (pv 0) (pv 1) (fun _ _ => rfl))))
    pss_nil)
  (pss_one (ps_ret pe_int))), ?_⟩
    walk_at "rd"
    refine rd_iteD (fun h1 => ?_) (fun h1 => ?_)
    · walk_at "rd"
      rw [List.length_map] at h1
      refine rd_ixL (v := .int (ns.getD k.toNat 0)) hs ?_ (q _)
      have e : k = (k.toNat : Int) := (Int.toNat_of_nonneg h0).symm
      rw [e]
      refine atI_nat ?_
      rw [List.getElem?_map, Int.toNat_natCast, List.getD_eq_getElem?_getD, List.getElem?_eq_getElem (show k.toNat < ns.length by omega)]
      rfl
    · walk_at "rd"
      exact q 0
/-- numbers from 0 to 999 -/
def Small (ns : List Int) : Prop := ∀ x ∈ ns, 0 ≤ x ∧ x < 1000
theorem Small.more {ns : List Int} {x : Int} (h : Small ns) (h0 : 0 ≤ x) (h1 : x < 1000) : Small (ns ++ [x]) := fun y hy => by
  rcases List.mem_append.mp hy with hy | hy
  · exact h y hy
  · rw [List.mem_singleton.mp hy]; exact ⟨h0, h1⟩
theorem Small.app {ns ms : List Int} (h : Small ns) (k : Small ms) : Small (ns ++ ms) := fun y hy => (List.mem_append.mp hy).elim (h y) (k y)
theorem fmod_small {a m : Int} (h : 0 < m) : 0 ≤ a.fmod m ∧ a.fmod m < m := by
  rw [Int.fmod_eq_emod_of_nonneg _ (Int.le_of_lt h)]
  exact ⟨Int.emod_nonneg _ (by omega), Int.emod_lt_of_pos _ h⟩
/-- a new list of small numbers -/
def spNumbers : Sp := fun vs H Q _ => ∃ (c m : Int), vs = [.int c, .int m] ∧ 0 ≤ m ∧ m ≤ 1000 ∧ ∀ (p : Addr) (ns : List Int) (H' : Hp), H p = none → Ex H H' → H' p = some (.lst (ns.map V.int)) → (ns.length : Int) = m → Small ns → Q (.ref p) H'
theorem append_int {H' : Hp} {p : Addr} {ns : List Int} {D : VK} {K : PySem.W.Frag} {i : Nat} {x : Int} (hp : H' p = some (.lst (ns.map V.int))) (hi : ns.length = i) (hl : i < 100000) (q : D .non (upd H' p (.lst ((ns ++ [x]).map V.int)))) :
    rAppend (.ref p) [.int x] H' D := ⟨p, ns.map V.int, .int x, rfl, rfl, hp, Nat.lt_of_lt_of_le (by rw [List.length_map, hi]; exact hl) (by decide), by rw [List.map_append] at q; exact q⟩
theorem ok_numbers (T : Txt K mg) : FnOk P w K mg base CX0 1 T.a_numbers T.d_numbers ["cell", "many"] spNumbers := by
  refine T.f_numbers.ok sc_numbers (fun vs H Q E h => ?_) (fun cdv A outer s H vs Q E hr h => ?_)
  · obtain ⟨_, _, rfl, _⟩ := h; rfl
  · obtain ⟨c, m, rfl, h0, h1, q⟩ := h
    refine ⟨_, (pss_cons (ps_set (i := 2) sc_numbers.nd rfl (by first | exact Or.inl rfl | exact Or.inr rfl) (pe_callB call_absP (by rfl) T.nb_abs (by decide +kernel) (pa_cons (pv 0) pa_nil)))
  (pss_cons (ps_set (i := 3) sc_numbers.nd rfl (by first | exact Or.inl rfl | exact Or.inr rfl) (pv 2))
  (pss_cons (ps_set (i := 4) sc_numbers.nd rfl (by first | exact Or.inl rfl | exact Or.inr rfl) (pe_lst pa_nil))
  (pss_cons (ps_for PassesOwn.never rfl (pi_range1 (by rfl) T.nb_range (pa_cons (pv 1) pa_nil)) (pg_name (i := 5) sc_numbers.nd rfl (by first | exact Or.inl rfl | exact Or.inr rfl))
    (pss_one (ps_if (PW.pt (pw_and (pt_cmpR op_geP (pv 3) (pe_op op_powP pe_int pe_int) (by first | rfl | exact nomark _)) (pw_and1 (pt_cmpR op_gtP (pv 2) pe_int (by first | rfl | exact nomark _)))))
    (pss_cons (ps_expr (kBm K rfl (pe_bm PySem.F.plainAttrs_list PySem.F.slot_list_append PySem.F.type_list_append mt_append (pv 4) (pa_cons (pe_op op_modP (pe_callTy call_intP (by rfl) T.nb_int (by decide +kernel) (pa_cons (pv 2) pa_nil)) pe_int) pa_nil))))
  (pss_one (ps_set (i := 2) sc_numbers.nd rfl (by first | exact Or.inl rfl | exact Or.inr rfl) (pe_op op_divP (pv 2) pe_int))))
    (pss_cons (ps_set (i := 6) sc_numbers.nd rfl (by first | exact Or.inl rfl | exact Or.inr rfl) (pe_op op_modP (pe_callTy call_intP (by rfl) T.nb_int (by decide +kernel) (pa_cons (pe_op (kAdd K) (pe_op (kAdd K) (pe_op op_mulPP (pv 3) pe_int) (pe_op op_mulPP (pv 5) pe_int)) pe_int) pa_nil)) pe_int))
  (pss_cons (ps_set (i := 6) sc_numbers.nd rfl (by first | exact Or.inl rfl | exact Or.inr rfl) (pe_op op_modP (pe_callTy call_intP (by rfl) T.nb_int (by decide +kernel) (pa_cons (pe_op (kAdd K) (pe_op (kAdd K) (pe_op op_mulPP (pv 6) (pv 6)) (pe_op op_mulPP pe_int (pv 5))) pe_int) pa_nil)) pe_int))
  (pss_one (ps_expr (kBm K rfl (pe_bm PySem.F.plainAttrs_list PySem.F.slot_list_append PySem.F.type_list_append mt_append (pv 4) (pa_cons (pe_op op_modP (pe_callTy call_intP (by rfl) T.nb_int (by decide +kernel) (pa_cons (pe_op op_divP (pv 6) pe_int) pa_nil)) pe_int) pa_nil))))))))))
  (pss_one (ps_ret (pv 4))))))), ?_⟩
    walk_at "rd"
    refine ⟨by decide, fun p hp => ?_⟩
    walk_at "rd"
    refine ⟨_, rfl, by omega, by omega, fo_range (n := m.toNat) (fun i σ H' => ∃ (r : Int) (ns : List Int) (kk mm : Option V), σ = [some (.int c), some (.int m), some (.int r), some (.int (if c < 0 then -c else c)), some (.ref p), kk, mm] ∧ Ex H H' ∧ H' p = some (.lst (ns.map V.int)) ∧ ns.length = i ∧ Small ns)
      ⟨_, [], none, none, rfl, Evl.Ex.new hp, upd_same, rfl, fun x hx => by cases hx⟩ ?_ ?_⟩
    · rintro i σ H' hi ⟨r, ns, kk, mm, rfl, e, hl, hn, sm⟩
      have tl : tyV K "list" (.ref p) H' := .inl ⟨rfl, _, SqL.of hl⟩
      walk_at "rd"
      refine rd_powI ⟨by decide, by decide, by decide⟩ ?_
      walk_at "rd"
      refine rd_ite (fun h2 => ?_) (fun h2 => ?_)
      · walk_at "rd"
        refine rd_ite (fun h3 => ?_) (fun h3 => ?_)
        · walk_at "rd"
          refine ⟨tl, ?_⟩
          walk_at "rd"
          refine rd_modI (by decide) ?_
          walk_at "rd"
          refine append_int (K := K) hl hn (by omega) ?_
          walk_at "rd"
          refine rd_divI ⟨by decide, by decide⟩ ?_
          walk_at "rd"
          have fm := fmod_small (a := r) (m := 1000) (by decide)
          exact ⟨_, ns ++ [_], _, _, rfl, Evl.Ex.mut e hp, upd_same, by rw [List.length_append, hn]; rfl, sm.more fm.1 fm.2⟩
        · walk_at "rd"
          refine rd_mulN (.inr ⟨by decide, by decide⟩) ?_
          walk_at "rd"
          refine rd_mulN (.inr ⟨by decide, by decide⟩) ?_
          walk_at "rd"
          refine rd_modI (by decide) ?_
          walk_at "rd"
          have fa := fmod_small (a := (if c < 0 then -c else c) * 48271 + (i : Int) * 69621 + 11) (m := 2147483647) (by decide)
          refine rd_mulN (.inl ⟨by omega, by omega⟩) ?_
          walk_at "rd"
          refine rd_mulN (.inl ⟨by decide, by decide⟩) ?_
          walk_at "rd"
          refine rd_modI (by decide) ?_
          walk_at "rd"
          refine ⟨tl, ?_⟩
          walk_at "rd"
          refine rd_divI ⟨by decide, by decide⟩ ?_
          walk_at "rd"
          refine rd_modI (by decide) ?_
          walk_at "rd"
          refine append_int (K := K) hl hn (by omega) ?_
          have fm := fun a : Int => fmod_small (a := a) (m := 1000) (by decide)
          exact ⟨_, ns ++ [_], _, _, rfl, Evl.Ex.mut e hp, upd_same, by rw [List.length_append, hn]; rfl, sm.more (fm _).1 (fm _).2⟩
      · walk_at "rd"
        refine rd_mulN (.inr ⟨by decide, by decide⟩) ?_
        walk_at "rd"
        refine rd_mulN (.inr ⟨by decide, by decide⟩) ?_
        walk_at "rd"
        refine rd_modI (by decide) ?_
        walk_at "rd"
        have fa := fmod_small (a := (if c < 0 then -c else c) * 48271 + (i : Int) * 69621 + 11) (m := 2147483647) (by decide)
        refine rd_mulN (.inl ⟨by omega, by omega⟩) ?_
        walk_at "rd"
        refine rd_mulN (.inl ⟨by decide, by decide⟩) ?_
        walk_at "rd"
        refine rd_modI (by decide) ?_
        walk_at "rd"
        refine ⟨tl, ?_⟩
        walk_at "rd"
        refine rd_divI ⟨by decide, by decide⟩ ?_
        walk_at "rd"
        refine rd_modI (by decide) ?_
        walk_at "rd"
        refine append_int (K := K) hl hn (by omega) ?_
        have fm := fun a : Int => fmod_small (a := a) (m := 1000) (by decide)
        exact ⟨_, ns ++ [_], _, _, rfl, Evl.Ex.mut e hp, upd_same, by rw [List.length_append, hn]; rfl, sm.more (fm _).1 (fm _).2⟩
    · rintro σ H' ⟨r, ns, kk, mm, rfl, e, hl, hn, sm⟩
      walk_at "rd"
      exact q p ns H' hp e hl (by omega) sm
/-- a state: the numbers, the place -/
def StAt (H : Hp) (p : Addr) : Prop := ∃ (l : Addr) (ns : List Int) (place : Int), H p = some (.lst [.ref l, .int place]) ∧ H l = some (.lst (ns.map V.int)) ∧ Small ns ∧ 0 < ns.length ∧ ns.length ≤ 100000 ∧ 0 ≤ place
theorem StAt.ex {H H' : Hp} {p : Addr} (h : StAt H p) (e : Ex H H') : StAt H' p := by
  obtain ⟨l, ns, pl, h1, h2, h3⟩ := h
  exact ⟨l, ns, pl, e _ _ h1, e _ _ h2, h3⟩
def spState (K : PySem.W.Frag) : Sp := fun vs H Q _ => ∃ (l : Addr) (ns : List Int) (st many : Int), vs = [.ref l, .int st, .int many] ∧ SqL K H l (ns.map V.int) ∧ 0 ≤ st ∧ st ≤ 1000 ∧ 0 < many ∧ many ≤ 1000 ∧
  ∀ (p : Addr) (H' : Hp), H p = none → Ex H H' → StAt H' p → Q (.ref p) H'
theorem ok_state (T : Txt K mg) : FnOk P w K mg base CX0 2 T.a_state T.d_state ["script", "start", "many"] (spState K) := by
  refine T.f_state.ok sc_state (fun vs H Q E h => ?_) (fun cdv A outer s H vs Q E hr h => ?_)
  · obtain ⟨_, _, _, _, rfl, _⟩ := h; rfl
  · obtain ⟨l, ns, st, many, rfl, hs, h0, h1, h2, h3, q⟩ := h
    refine ⟨_, (pss_cons (ps_set (i := 3) sc_state.nd rfl (by first | exact Or.inl rfl | exact Or.inr rfl) (pe_lst pa_nil))
  (pss_cons (ps_for PassesOwn.never rfl (pi_range2 (by rfl) T.nb_range (pa_cons (pv 1) (pa_cons (pe_op (kAdd K) (pv 1) (pv 2)) pa_nil))) (pg_name (i := 4) sc_state.nd rfl (by first | exact Or.inl rfl | exact Or.inr rfl))
    (pss_cons (ps_set (i := 5) sc_state.nd rfl (by first | exact Or.inl rfl | exact Or.inr rfl) (pe_callE (ok_cell T) (hr.mono (by decide)) T.o_cell (pa_cons (pv 0) (pa_cons (pv 4) pa_nil))))
  (pss_cons (ps_if (pt_cmpR op_ltP (pe_callB call_absP (by rfl) T.nb_abs (by decide +kernel) (pa_cons (pv 5) pa_nil)) (pe_op op_powP pe_int pe_int) (by first | rfl | exact nomark _))
    (pss_one (ps_set (i := 5) sc_state.nd rfl (by first | exact Or.inl rfl | exact Or.inr rfl) (pe_op (kAdd K) (pe_op op_mulPP (pv 5) pe_int) (pv 4))))
    pss_nil)
  (pss_one (ps_set (i := 3) sc_state.nd rfl (by first | exact Or.inl rfl | exact Or.inr rfl) (pe_op (kAdd K) (pv 3) (pe_callE (ok_numbers T) (hr.mono (by decide)) T.o_numbers (pa_cons (pv 5) (pa_cons pe_int pa_nil)))))))))
  (pss_one (ps_ret (pe_lst (pa_cons (pv 3) (pa_cons pe_int pa_nil))))))), ?_⟩
    walk_at "rd"
    refine ⟨by decide, fun p hp => ?_⟩
    walk_at "rd"
    refine ⟨_, _, rfl, ⟨by omega, by omega, by omega, by omega⟩, fo_range2 (lo := st) (n := (st + many - st).toNat) (fun i σ H' => ∃ (p2 : Addr) (ms : List Int) (kk cc : Option V), σ = [some (.ref l), some (.int st), some (.int many), some (.ref p2), kk, cc] ∧ Ex H H' ∧ H p2 = none ∧ H' p2 = some (.lst (ms.map V.int)) ∧ ms.length = i * 20 ∧ Small ms)
      ⟨p, [], none, none, rfl, Evl.Ex.new hp, hp, upd_same, rfl, fun x hx => by cases hx⟩ ?_ ?_⟩
    · rintro i σ H' hi ⟨p2, ms, kk, cc, rfl, e, hp2, hl, hn, sm⟩
      walk_at "rd"
      refine ⟨l, ns, _, rfl, Evl.ex_l e hs, by omega, fun z => ?_⟩
      walk_at "rd"
      refine rd_powI ⟨by decide, by decide, by decide⟩ ?_
      walk_at "rd"
      have hi2 : i < 1000 := by omega
      have fin : ∀ (z2 : Int) (cc : Option V), cc = some (.int z2) → tAsg (tOp (oAdd K) (tVar 3) (tCalled spNumbers (tCons (tVar 5) (tCons (tC (.int 20)) tNil)))) (gName 3)
          { nx := fun σ H' => ∃ (p2 : Addr) (ms : List Int) (kk cc : Option V), σ = [some (.ref l), some (.int st), some (.int many), some (.ref p2), kk, cc] ∧ Ex H H' ∧ H p2 = none ∧ H' p2 = some (.lst (ms.map V.int)) ∧ ms.length = (i + 1) * 20 ∧ Small ms, rt := Q } [some (.ref l), some (.int st), some (.int many), some (.ref p2), some (.int (st + (i : Int))), cc] H' := by
        rintro z2 cc rfl
        walk_at "rd"
        refine ⟨z2, 20, rfl, by decide, by decide, fun p3 ns3 H3 hp3 e3 hl3 hn3 sm3 => ?_⟩
        refine rd_cat (e3 _ _ hl) hl3 ?_ fun p4 hp4 => ?_
        · rw [List.length_map, List.length_map, hn]
          refine Nat.le_trans (show i * 20 + ns3.length ≤ 100000 by omega) (by decide)
        · walk_at "rd"
          refine ⟨p4, ms ++ ns3, _, _, rfl, ex_upd (e.trans e3) hp4, Evl.fresh_back (e.trans e3) hp4, ?_, ?_, sm.app sm3⟩
          · rw [upd_same, List.map_append]
          · rw [List.length_append, hn]; omega
      refine rd_ite (fun h4 => ?_) (fun h4 => ?_)
      · walk_at "rd"
        refine rd_mulN (.inr ⟨by decide, by decide⟩) ?_
        walk_at "rd1"
        walk_at "rd1"
        walk_at "rd1"
        walk_at "rd1"
        exact fin _ _ rfl
      · exact fin _ _ rfl
    · rintro σ H' ⟨p2, ms, kk, cc, rfl, e, hp2, hl, hn, sm⟩
      walk_at "rd"
      refine ⟨by show 2 ≤ sizeLine; decide, fun p3 hp3 => ?_⟩
      refine q p3 _ (Evl.fresh_back e hp3) (ex_upd e hp3) ⟨p2, ms, 0, upd_same, ?_, sm, by omega, by omega, by decide⟩
      rw [upd_ne (ne_of_none hl hp3)]
      exact hl
/-- the same list within -/
def SameIn (p : Addr) (H H' : Hp) : Prop := ∀ (l : Addr) (n : V), H p = some (.lst [.ref l, n]) → ∃ n', H' p = some (.lst [.ref l, n'])
theorem SameIn.trans {p : Addr} {H H1 H2 : Hp} (a : SameIn p H H1) (b : SameIn p H1 H2) : SameIn p H H2 := fun l n e => by
  obtain ⟨n1, e1⟩ := a l n e
  exact b l n1 e1
theorem SameIn.ex {p : Addr} {H H1 H2 : Hp} (a : SameIn p H H1) (b : Ex H1 H2) : SameIn p H H2 := fun l n e => by
  obtain ⟨n1, e1⟩ := a l n e
  exact ⟨n1, b _ _ e1⟩
/-- the next number below many: any -/
def spNext : Sp := fun vs H Q _ => ∃ (p : Addr) (many : Int), vs = [.ref p, .int many] ∧ 0 < many ∧ StAt H p ∧ ∀ (r : Int) (H' : Hp), 0 ≤ r → r < many → StAt H' p → (∀ b o, b ≠ p → H b = some o → H' b = some o) → ((∀ b, H b = none → H' b = none) ∧ SameIn p H H') → Q (.int r) H'
theorem ok_next (T : Txt K mg) : FnOk P w K mg base CX0 1 T.a_next T.d_next ["state", "many"] spNext := by
  refine T.f_next.ok sc_next (fun vs H Q E h => ?_) (fun cdv A outer s H vs Q E hr h => ?_)
  · obtain ⟨_, _, rfl, _⟩ := h; rfl
  · obtain ⟨p, many, rfl, hm, ⟨l, ns, place, h1, h2, sm, l0, l1, p0⟩, q⟩ := h
    have lp : l ≠ p := fun z => by
      rw [z, h1] at h2
      have y := HO.lst.inj (Option.some.inj h2)
      cases ns with
      | nil => cases l0
      | cons a r => cases y
    refine ⟨_, (pss_cons (ps_set (i := 2) sc_next.nd rfl (by first | exact Or.inl rfl | exact Or.inr rfl) (pe_ix (kIx K) (pv 0) pe_int (fun _ _ => rfl)))
  (pss_cons (ps_set (i := 3) sc_next.nd rfl (by first | exact Or.inl rfl | exact Or.inr rfl) (pe_ix (kIx K) (pv 0) pe_int (fun _ _ => rfl)))
  (pss_cons (ps_asg (pe_op (kAdd K) (pv 3) pe_int) (pg_sub (pv 0) pe_int set_list))
  (pss_one (ps_ret (pe_op op_modP (pe_callTy call_intP (by rfl) T.nb_int (by decide +kernel) (pa_cons (pe_op (kAdd K) (pe_ix (kIx K) (pv 2) (pe_op op_modP (pv 3) (pe_callB (kLen K) (by rfl) T.nb_len (by decide +kernel) (pa_cons (pv 2) pa_nil))) (fun _ _ => rfl)) (pe_op op_mulPP (pe_op op_divP (pv 3) (pe_callB (kLen K) (by rfl) T.nb_len (by decide +kernel) (pa_cons (pv 2) pa_nil))) pe_int)) pa_nil)) (pv 1))))))), ?_⟩
    walk_at "rd"
    refine rd_ixL (v := .ref l) (SqL.of h1) (atI_nat (j := 0) rfl) ?_
    walk_at "rd"
    refine rd_ixL (v := .int place) (SqL.of h1) (atI_nat (j := 1) rfl) ?_
    walk_at "rd"
    refine ⟨p, _, 1, 1, rfl, rfl, h1, rfl, ?_⟩
    have h2' : upd H p (.lst (([.ref l, .int place] : List V).set 1 (.int (place + 1)))) l = some (.lst (ns.map V.int)) := by rw [upd_ne lp]; exact h2
    have hq : SqL K (upd H p (.lst (([.ref l, .int place] : List V).set 1 (.int (place + 1))))) l (ns.map V.int) := SqL.of h2'
    walk_at "rd"
    have lz : ((ns.map V.int).length : Int) = ns.length := by rw [List.length_map]
    refine rd_modI (by rw [lz]; omega) ?_
    rw [lz]
    have fm := fmod_small (a := place) (m := (ns.length : Int)) (by omega)
    have e : place.fmod (ns.length : Int) = ((place.fmod (ns.length : Int)).toNat : Int) := (Int.toNat_of_nonneg fm.1).symm
    refine rd_ixL (v := .int (ns.getD (place.fmod (ns.length : Int)).toNat 0)) hq ?_ ?_
    · rw [e]
      refine atI_nat ?_
      rw [List.getElem?_map, Int.toNat_natCast, List.getD_eq_getElem?_getD, List.getElem?_eq_getElem (show (place.fmod (ns.length : Int)).toNat < ns.length by omega)]
      rfl
    · walk_at "rd"
      refine rd_divI ⟨by rw [lz]; omega, by rw [lz]; omega⟩ ?_
      walk_at "rd"
      refine rd_mulN (.inr ⟨by decide, by decide⟩) ?_
      walk_at "rd"
      refine rd_modI (by omega) ?_
      have fr := fun a : Int => fmod_small (a := a) (m := many) hm
      refine q _ _ (fr _).1 (fr _).2 ⟨l, ns, place + 1, upd_same, h2', sm, l0, l1, by omega⟩ (fun b o hb ho => ?_) ⟨fun b hb => ?_, fun l' n' e => ⟨.int (place + 1), ?_⟩⟩
      · rw [upd_ne hb]; exact ho
      · rw [upd_ne (fun z => by rw [z, h1] at hb; cases hb)]; exact hb
      · rw [h1] at e
        have e2 := HO.lst.inj (Option.some.inj e)
        rw [upd_same, ← (List.cons.inj e2).1]
        rfl
/-! ### letters and texts -/
theorem ok_init (T : Txt K mg) : FnOk P w K mg base CX0 1 T.a_init T.d_init ["self", "what"] (spInit K) := by
  refine T.f_init.ok sc_init (fun vs H Q E h => ?_) (fun cdv A outer s H vs Q E hr h => ?_)
  · obtain ⟨_, _, _, rfl, _⟩ := h; rfl
  · obtain ⟨a, C, v, rfl, T1, nw, ha, q⟩ := h
    refine ⟨_, pss_one (ps_ost (pv 0) (pv 1)), ?_⟩
    exact ⟨_, rfl, _, rfl, a, C, rfl, T1, nw, .inl ⟨ha, q⟩⟩
/-! ### drawn letters -/
/-- the state at p goes on; what stood stands -/
structure Dr (p : Addr) (H H' : Hp) : Prop where
  st : StAt H' p
  old : ∀ b o, b ≠ p → H b = some o → H' b = some o
  inn : SameIn p H H'
theorem Dr.trans {p : Addr} {H H1 H2 : Hp} (a : Dr p H H1) (b : Dr p H1 H2) : Dr p H H2 := ⟨b.st, fun c o hc q => b.old c o hc (a.old c o hc q), a.inn.trans b.inn⟩
theorem Dr.ex {p : Addr} {H H1 H2 : Hp} (a : Dr p H H1) (e : Ex H1 H2) : Dr p H H2 := ⟨a.st.ex e, fun c o hc q => e c o (a.old c o hc q), a.inn.ex e⟩
theorem Dr.refl {p : Addr} {H : Hp} (h : StAt H p) : Dr p H H := ⟨h, fun _ _ _ q => q, fun _ n e => ⟨n, e⟩⟩
theorem StAt.some {H : Hp} {p : Addr} (h : StAt H p) : ∃ o, H p = some o := by
  obtain ⟨l, ns, pl, h1, _⟩ := h
  exact ⟨_, h1⟩
/-- new since H0: all of H0 stands -/
theorem Dr.from {p : Addr} {H0 H H' : Hp} (e : Ex H0 H) (hp : H0 p = none) (d : Dr p H H') : Ex H0 H' := fun b o q => d.old b o (ne_of_none q hp) (e b o q)
abbrev PL : Str := "abcdefghijklmnopqrstuvwxyzABCDEFGHIJKLMNOPQRSTUVWXYZ0123456789<>=:_@#"
theorem okS_PL : okS PL := by unfold okS; decide +kernel
theorem pl_len : PL.length = 69 := by decide +kernel
theorem okS_nil : okS "" := by unfold okS; decide +kernel
theorem str_len (x y : Str) : (x ++ y).length = x.length + y.length := by
  rw [TL.len_tl, TL.len_tl, TL.len_tl, TL.tl_append, List.length_append]
theorem at_str {z : Str} {r : Int} (h0 : 0 ≤ r) (h : r < z.length) : ∃ c, atI z.cps.toList r = some c ∧ c ∈ z.cps.toList := by
  obtain ⟨n, rfl⟩ := Int.eq_ofNat_of_zero_le h0
  have hl : n < z.cps.toList.length := by
    have : z.cps.toList.length = z.length := rfl
    omega
  exact ⟨z.cps.toList[n], atI_nat (List.getElem?_eq_getElem hl), List.getElem_mem hl⟩
/-- an alphabet of at most so many letters -/
structure Alpha (z : Str) (most : Nat) : Prop where
  l0 : 0 < z.length
  l1 : z.length ≤ most
  ok : okS z
  nd : z.cps.toList.Nodup
  pl : ∀ c ∈ z.cps.toList, c ∈ PL.cps.toList
def spLetters : Sp := fun vs H Q _ => ∃ (p : Addr) (most : Nat), vs = [.ref p, .int (most : Int)] ∧ 0 < most ∧ most ≤ 100 ∧ StAt H p ∧ ∀ (z : Str) (H' : Hp), Alpha z most → Dr p H H' → Q (.str z) H'
theorem ok_letters (T : Txt K mg) : FnOk P w K mg base CX0 2 T.a_letters T.d_letters ["state", "most"] spLetters := by
  refine T.f_letters.ok sc_letters (fun vs H Q E h => ?_) (fun cdv A outer s H vs Q E hr h => ?_)
  · obtain ⟨_, _, rfl, _⟩ := h; rfl
  · obtain ⟨p, most, rfl, h0, h1, hS, q⟩ := h
    refine ⟨_, (pss_cons (ps_set (i := 2) sc_letters.nd rfl (by first | exact Or.inl rfl | exact Or.inr rfl) pe_str)
  (pss_cons (ps_set (i := 3) sc_letters.nd rfl (by first | exact Or.inl rfl | exact Or.inr rfl) pe_str)
  (pss_cons (ps_for PassesOwn.never rfl (pi_range1 (by rfl) T.nb_range (pa_cons (pe_op (kAdd K) pe_int (pe_callE (ok_next T) (hr.mono (by decide)) T.o_next (pa_cons (pv 0) (pa_cons (pv 1) pa_nil)))) pa_nil)) (pg_name (i := 4) sc_letters.nd rfl (by first | exact Or.inl rfl | exact Or.inr rfl))
    (pss_cons (ps_set (i := 5) sc_letters.nd rfl (by first | exact Or.inl rfl | exact Or.inr rfl) (pe_ix (kIx K) (pv 2) (pe_callE (ok_next T) (hr.mono (by decide)) T.o_next (pa_cons (pv 0) (pa_cons pe_int pa_nil))) (fun _ _ => rfl)))
  (pss_one (ps_if (pt_cmpR (kNotIn K) (pv 5) (pv 3) (by first | rfl | exact nomark _))
    (pss_one (ps_set (i := 3) sc_letters.nd rfl (by first | exact Or.inl rfl | exact Or.inr rfl) (pe_op (kAdd K) (pv 3) (pv 5))))
    pss_nil))))
  (pss_one (ps_ret (pv 3)))))), ?_⟩
    walk_at "rc"
    walk_at "rs"
    walk_at "rc"
    refine ⟨p, most, rfl, by omega, hS, fun r H1 r0 r1 S1 k1 i1 => ?_⟩
    walk_at "rc"
    refine ⟨1 + r, rfl, by omega, by omega, fo_range (n := (1 + r).toNat) (fun i σ H' => ∃ (z : Str) (kk ll : Option V), σ = [some (.ref p), some (.int (most : Int)), some (.str PL), some (.str z), kk, ll] ∧ (0 < i → 0 < z.length) ∧ z.length ≤ i ∧ okS z ∧ z.cps.toList.Nodup ∧ (∀ c ∈ z.cps.toList, c ∈ PL.cps.toList) ∧ Dr p H H')
      ⟨"", none, none, rfl, fun z => absurd z (Nat.lt_irrefl 0), Nat.le_refl 0, okS_nil, List.nodup_nil, (fun c hc => nomatch hc), ⟨S1, k1, i1.2⟩⟩ ?_ ?_⟩
    · rintro i σ H' hi ⟨z, kk, ll, rfl, g0, g1, g2, g3, g4, g5⟩
      walk_at "rc"
      refine ⟨p, 69, rfl, by decide, g5.st, fun r2 H2 r20 r21 S2 k2 i2 => ?_⟩
      obtain ⟨c, hc, cm⟩ := at_str (z := PL) r20 (by rw [pl_len]; exact r21)
      refine rd_ixS (by rw [pl_len]; decide) hc ?_
      walk_at "rc"
      have d2 : Dr p H H2 := g5.trans ⟨S2, k2, i2.2⟩
      refine rd_iteN (fun h3 => ?_) (fun h3 => ?_)
      · walk_at "rc"
        refine rd_addS (Nat.le_trans (show z.length + 1 ≤ 1000 by omega) (by decide)) ?_
        walk_at "rc"
        have e : (z ++ (⟨#[c]⟩ : Str)).cps.toList = z.cps.toList ++ [c] := TL.tl_append z ⟨#[c]⟩
        refine ⟨_, _, _, rfl, fun _ => by rw [str_len]; exact Nat.succ_pos _, by rw [str_len]; exact Nat.succ_le_succ g1, okS_app g2 (okS_one okS_PL cm), ?_, fun d hd => ?_, d2⟩
        · rw [e]
          exact List.nodup_append.mpr ⟨g3, List.nodup_cons.mpr ⟨List.not_mem_nil, List.nodup_nil⟩, fun a ha b hb q => by
            rw [List.mem_singleton.mp hb] at q
            rw [q] at ha
            exact h3 ha⟩
        · rw [e] at hd
          rcases List.mem_append.mp hd with y | y
          · exact g4 d y
          · rw [List.mem_singleton.mp y]; exact cm
      · walk_at "rc"
        refine ⟨_, _, _, rfl, fun _ => ?_, Nat.le_succ_of_le g1, g2, g3, g4, d2⟩
        cases e : z.cps.toList with
        | nil => rw [e] at h3; cases h3
        | cons a l =>
          have e2 : z.length = z.cps.toList.length := rfl
          rw [e2, e]
          exact Nat.succ_pos _
    · rintro σ H' ⟨z, kk, ll, rfl, g0, g1, g2, g3, g4, g5⟩
      walk_at "rc"
      exact q z H' ⟨g0 (by omega), by omega, g2, g3, g4⟩ g5
/-! ### texts over letters -/
def isT (ls z : Str) : Prop := ∀ c ∈ z.cps.toList, c ∈ ls.cps.toList
instance (ls z : Str) : Decidable (isT ls z) := by unfold isT; infer_instance
def spIsText : Sp := fun vs H Q _ => ∃ ls z : Str, vs = [.str ls, .str z] ∧ z.length < 100000 ∧ ∀ H', Ex H H' → Q (.bl (decide (isT ls z))) H'
theorem all_of {l m : List Nat} : ((l.map fun c => decide (c ∈ m)).all id) = decide (∀ c ∈ l, c ∈ m) := by
  rw [Bool.eq_iff_iff, List.all_eq_true, decide_eq_true_iff]
  exact ⟨fun h c hc => of_decide_eq_true (h _ (List.mem_map.mpr ⟨c, hc, rfl⟩)), fun h b hb => by
    obtain ⟨c, hc, rfl⟩ := List.mem_map.mp hb
    exact decide_eq_true (h c hc)⟩
theorem ok_is_text (T : Txt K mg) : FnOk P w K mg base CX0 1 T.a_is_text T.d_is_text ["letters", "text"] spIsText := by
  refine T.f_is_text.ok sc_is_text (fun vs H Q E h => ?_) (fun cdv A outer s H vs Q E hr h => ?_)
  · obtain ⟨_, _, rfl, _⟩ := h; rfl
  · obtain ⟨ls, z, rfl, hz, q⟩ := h
    refine ⟨_, (pss_one (ps_ret (pe_callB (kAll K) (by rfl) T.nb_all (by decide +kernel) (pa_cons (pe_lc (own := [("letter", 2)]) (g := gName 2) (tt := tYes) (by rfl) sc_is_text.nd (kAny K rfl (pv 1)) (blkOk_by (own := [("letter", 2)]) (N := ["letters", "text", "letter"]) (sc := defScope s_is_text) (by decide +kernel)) (fun _ _ _ _ _ => (pg_name (i := 2) sc_is_text.nd rfl (by first | exact Or.inl rfl | exact Or.inr rfl))) (fun _ _ _ _ _ => pts_nil) (fun _ _ _ _ _ => (pe_cmpR (kIn K) (pv 2) (pv 0) (by first | rfl | exact nomark _)))) pa_nil)))), ?_⟩
    walk_at "rd"
    refine rd_anyS (fun Q q => ⟨_, rfl, q⟩) ?_
    refine lc_pure (n := z.cps.size) (xs := fun i => .str ⟨#[z.cps.toList.getD i 0]⟩) (f := fun _ => true) (v := fun i => .bl (decide (z.cps.toList.getD i 0 ∈ ls.cps.toList))) walk_str (fun i H x H' hi y => ?_) (fun _ _ => True.intro) hz (fun _ _ _ _ => ans_yes) (fun i Hc hi e _ => ?_) fun L hL => ?_
    · obtain ⟨rfl, c, e, rfl⟩ := y
      rw [← Array.getElem?_toList] at e
      exact ⟨rfl, by rw [List.getD_eq_getElem?_getD, e]; rfl⟩
    · intro Q q
      walk_at "rd"
      exact q
    · have e : Evl.given z.cps.size (fun _ => true) (fun i => V.bl (decide (z.cps.toList.getD i 0 ∈ ls.cps.toList))) = (z.cps.toList.map fun c => decide (c ∈ ls.cps.toList)).map V.bl := by
        rw [given_eq z.cps.toList (fun _ => true) (fun c => V.bl (decide (c ∈ ls.cps.toList))) _ _ (fun _ _ _ => rfl) (fun i x hx => by rw [List.getD_eq_getElem?_getD, hx]; rfl) z.cps.size (by simp)]
        rw [show z.cps.size = z.cps.toList.length from rfl, List.take_length, List.filter_eq_self.mpr (fun _ _ => rfl), List.map_map]
        rfl
      rw [e]
      walk_at "rd"
      refine ⟨L, _, rfl, SqL.of upd_same, ?_⟩
      rw [all_of]
      exact q _ (Evl.Ex.new hL)
/-! ### rewriters: their parts -/
theorem str_ext {x y : Str} (h : x.cps.toList = y.cps.toList) : x = y := by
  cases x with | mk a => cases y with | mk b =>
    have e : a = b := Array.toList_inj.mp h
    rw [e]
theorem len_str {x : Str} : x.length = x.cps.toList.length := rfl
theorem tl_app (x y : Str) : (x ++ y).cps.toList = x.cps.toList ++ y.cps.toList := TL.tl_append x y
theorem str_assoc (x y z : Str) : x ++ y ++ z = x ++ (y ++ z) := str_ext (by simp only [tl_app, List.append_assoc])
theorem str_nil (x : Str) : x ++ ("" : Str) = x := str_ext (by rw [tl_app]; exact List.append_nil _)
theorem nil_str (x : Str) : ("" : Str) ++ x = x := str_ext (by rw [tl_app]; rfl)
/-- texts one behind another -/
def catS (ws : List Str) : Str := ws.foldl (fun x y => x ++ y) ""
theorem cat_from (ws : List Str) : ∀ a : Str, (ws.foldl (fun x y => x ++ y) a) = a ++ catS ws := by
  induction ws with
  | nil => intro a; exact (str_nil a).symm
  | cons w ws ih =>
    intro a
    show ws.foldl _ (a ++ w) = a ++ ws.foldl _ ("" ++ w)
    rw [ih, ih ("" ++ w), nil_str, str_assoc]
theorem cat_snoc (ws : List Str) (w : Str) : catS (ws ++ [w]) = catS ws ++ w := by
  unfold catS
  rw [List.foldl_append]
  rfl
theorem join_cat (ws : List Str) : Txt.join "" ws = catS ws := by
  cases ws with
  | nil => rfl
  | cons w ws =>
    have key : ∀ (ws : List Str) (a : Array Nat), (⟨List.foldl (fun acc (p : Str) => acc ++ (Str.ofString "").cps ++ p.cps) a ws⟩ : Str) = ws.foldl (fun x y => x ++ y) ⟨a⟩ := by
      intro ws
      induction ws with
      | nil => intro a; rfl
      | cons v ws ih =>
        intro a
        rw [List.foldl_cons, ih, List.foldl_cons]
        congr 1
    have h := key ws w.cps
    show (⟨List.foldl (fun acc (p : Str) => acc ++ (Str.ofString "").cps ++ p.cps) w.cps ws⟩ : Str) = catS (w :: ws)
    rw [h]
    show _ = ws.foldl _ ("" ++ w)
    rw [nil_str]
theorem cat_len {B : Nat} : ∀ (ws : List Str), (∀ w ∈ ws, w.length ≤ B) → (catS ws).length ≤ ws.length * B := by
  have key : ∀ (ws : List Str) (a : Str), (∀ w ∈ ws, w.length ≤ B) → (ws.foldl (fun x y => x ++ y) a).length ≤ a.length + ws.length * B := by
    intro ws
    induction ws with
    | nil => intro a _; simp
    | cons w ws ih =>
      intro a h
      have h1 := ih (a ++ w) fun v hv => h v (List.mem_cons_of_mem _ hv)
      have h2 := h w List.mem_cons_self
      rw [List.foldl_cons, List.length_cons, Nat.succ_mul]
      rw [str_len] at h1
      omega
  intro ws h
  have := key ws "" h
  have e : ("" : Str).length = 0 := by decide +kernel
  rw [e] at this
  unfold catS
  omega
theorem sum_len {B : Nat} : ∀ (ws : List Str), (∀ w ∈ ws, w.length ≤ B) → (ws.map (·.length)).sum ≤ ws.length * B
  | [], _ => by simp
  | w :: ws, h => by
    have h1 := sum_len ws fun v hv => h v (List.mem_cons_of_mem _ hv)
    have h2 := h w List.mem_cons_self
    rw [List.map_cons, List.sum_cons, List.length_cons, Nat.succ_mul]
    omega
theorem mem_cat {c : Nat} : ∀ (ws : List Str), c ∈ (catS ws).cps.toList → ∃ w ∈ ws, c ∈ w.cps.toList := by
  have key : ∀ (ws : List Str) (a : Str), c ∈ (ws.foldl (fun x y => x ++ y) a).cps.toList → c ∈ a.cps.toList ∨ ∃ w ∈ ws, c ∈ w.cps.toList := by
    intro ws
    induction ws with
    | nil => intro a h; exact .inl h
    | cons w ws ih =>
      intro a h
      rcases ih (a ++ w) h with z | ⟨v, hv, z⟩
      · rw [tl_app] at z
        rcases List.mem_append.mp z with z | z
        · exact .inl z
        · exact .inr ⟨w, List.mem_cons_self, z⟩
      · exact .inr ⟨v, List.mem_cons_of_mem _ hv, z⟩
  intro ws h
  rcases key ws "" h with z | z
  · exact (nomatch z)
  · exact z
abbrev Way := Option (Int × Str)
def encO : Option Str → PyData
  | none => .none
  | some s => .str s
def encW : Way → PyData
  | none => .none
  | some w => .tuple [.int w.1, .str w.2]
def encRow (row : List Way) : PyData := .tuple (row.map encW)
structure Parts where
  lead : Str
  fin : List (Option Str)
  tab : List (List Way)
def waysOf (row : List Way) : List (Int × Str) := row.filterMap id
def textsOf (row : List Way) : List Str := (waysOf row).map (·.2)
def allTexts (r : Parts) : List Str := r.lead :: r.fin.filterMap id ++ r.tab.flatMap textsOf
def goodR (ls : Str) (r : Parts) : Prop := 0 < r.fin.length ∧ r.tab.length = r.fin.length ∧ (∀ row ∈ r.tab, row.length = ls.length ∧ ∀ w ∈ waysOf row, 0 ≤ w.1 ∧ w.1 < r.fin.length) ∧ ∀ t ∈ allTexts r, isT ls t
structure Bnd (r : Parts) : Prop where
  t : ∀ t ∈ allTexts r, t.length ≤ 1000
  n : (allTexts r).length < 100000
  f : r.fin.length < 100000
  b : r.tab.length < 100000
  w : ∀ row ∈ r.tab, row.length < 100000
theorem mem_ways {row : List Way} {w : Int × Str} : w ∈ waysOf row ↔ some w ∈ row := by
  unfold waysOf
  rw [List.mem_filterMap]
  exact ⟨fun ⟨a, h, e⟩ => by
    have e' : a = some w := e
    rw [← e']; exact h, fun h => ⟨some w, h, rfl⟩⟩
theorem mem_fin {r : Parts} {s : Str} (h : some s ∈ r.fin) : s ∈ allTexts r := List.mem_append.mpr (.inl (List.mem_cons_of_mem _ (List.mem_filterMap.mpr ⟨some s, h, rfl⟩)))
theorem mem_lead {r : Parts} : r.lead ∈ allTexts r := List.mem_append.mpr (.inl List.mem_cons_self)
theorem mem_way {r : Parts} {row : List Way} {w : Int × Str} (hr : row ∈ r.tab) (h : some w ∈ row) : w.2 ∈ allTexts r :=
  List.mem_append.mpr (.inr (List.mem_flatMap.mpr ⟨row, hr, List.mem_map.mpr ⟨w, mem_ways.mpr h, rfl⟩⟩))
/-! what a rewriter writes -/
def cellR (ls : Str) (tab : List (List Way)) (s : Int) (c : Nat) : Way := (tab.getD s.toNat []).getD (ls.cps.toList.idxOf c) none
def rwStep (ls : Str) (tab : List (List Way)) (o : Option (Int × List Str)) (c : Nat) : Option (Int × List Str) := o.bind fun z => (cellR ls tab z.1 c).map fun w => (w.1, z.2 ++ [w.2])
def rwL (ls : Str) (tab : List (List Way)) (s : Int) (t : List Nat) : Option (Int × List Str) := t.foldl (rwStep ls tab) (some (s, []))
def rwF (ls : Str) (tab : List (List Way)) (s : Int) (t : List Nat) : Option (Int × Str) := (rwL ls tab s t).map fun z => (z.1, catS z.2)
def rwM (ls : Str) (r : Parts) (t : List Nat) : Option Str := (rwF ls r.tab 0 t).bind fun z => (r.fin.getD z.1.toNat none).map fun u => r.lead ++ z.2 ++ u
theorem rwL_take {ls : Str} {tab : List (List Way)} {s : Int} {t : List Nat} {i c : Nat} (h : t[i]? = some c) : rwL ls tab s (t.take (i + 1)) = rwStep ls tab (rwL ls tab s (t.take i)) c := by
  unfold rwL
  rw [List.take_succ, h, List.foldl_append]
  rfl
theorem rw_none {ls : Str} {tab : List (List Way)} : ∀ t : List Nat, t.foldl (rwStep ls tab) none = none
  | [] => rfl
  | c :: t => by
    rw [List.foldl_cons]
    exact rw_none t
theorem rwL_none {ls : Str} {tab : List (List Way)} {s : Int} {t : List Nat} {i : Nat} (h : rwL ls tab s (t.take i) = none) : rwL ls tab s t = none := by
  have e : rwL ls tab s t = (t.drop i).foldl (rwStep ls tab) (rwL ls tab s (t.take i)) := by
    unfold rwL
    rw [← List.foldl_append, List.take_append_drop]
  rw [e, h]
  exact rw_none _
theorem cell_in {ls : Str} {r : Parts} (g : goodR ls r) {s : Int} {c : Nat} (h0 : 0 ≤ s) (h1 : s < r.fin.length) (hc : c ∈ ls.cps.toList) :
    ∃ row, r.tab[s.toNat]? = some row ∧ row[ls.cps.toList.idxOf c]? = some (cellR ls r.tab s c) ∧ ∀ w, cellR ls r.tab s c = some w → (0 ≤ w.1 ∧ w.1 < r.fin.length) ∧ w.2 ∈ allTexts r := by
  obtain ⟨g0, g1, g2, g3⟩ := g
  have hs : s.toNat < r.tab.length := by omega
  have hr : r.tab[s.toNat]? = some r.tab[s.toNat] := List.getElem?_eq_getElem hs
  have hm : r.tab[s.toNat] ∈ r.tab := List.getElem_mem hs
  obtain ⟨l1, l2⟩ := g2 _ hm
  have hi : ls.cps.toList.idxOf c < (r.tab[s.toNat]).length := by
    have := List.idxOf_lt_length_iff.mpr hc
    have e : ls.cps.toList.length = ls.length := rfl
    omega
  have e : cellR ls r.tab s c = (r.tab[s.toNat])[ls.cps.toList.idxOf c] := by
    have e0 : r.tab.getD s.toNat [] = r.tab[s.toNat] := by
      rw [List.getD_eq_getElem?_getD, hr]
      rfl
    unfold cellR
    rw [e0, List.getD_eq_getElem?_getD, List.getElem?_eq_getElem hi]
    rfl
  refine ⟨_, hr, by rw [List.getElem?_eq_getElem hi, e], fun w hw => ?_⟩
  have hmw : some w ∈ r.tab[s.toNat] := by
    rw [← hw, e]
    exact List.getElem_mem hi
  exact ⟨l2 w (mem_ways.mpr hmw), mem_way hm hmw⟩
theorem rwL_in {ls : Str} {r : Parts} (g : goodR ls r) {s : Int} (h0 : 0 ≤ s) (h1 : s < r.fin.length) (t : List Nat) (ht : ∀ c ∈ t, c ∈ ls.cps.toList) : ∀ i ≤ t.length, ∀ z, rwL ls r.tab s (t.take i) = some z → (0 ≤ z.1 ∧ z.1 < r.fin.length) ∧ z.2.length = i ∧ ∀ w ∈ z.2, w ∈ allTexts r := by
  intro i
  induction i with
  | zero =>
    intro _ z hz
    obtain rfl := Option.some.inj hz
    exact ⟨⟨h0, h1⟩, rfl, fun w hw => nomatch hw⟩
  | succ i ih =>
    intro hi z hz
    have hx : t[i]? = some t[i] := List.getElem?_eq_getElem hi
    rw [rwL_take hx] at hz
    cases hy : rwL ls r.tab s (t.take i) with
    | none => rw [hy] at hz; cases hz
    | some y =>
      rw [hy] at hz
      obtain ⟨a, b, c⟩ := ih (Nat.le_of_lt hi) y hy
      obtain ⟨_, _, _, hw⟩ := cell_in g a.1 a.2 (ht _ (List.getElem_mem hi))
      unfold rwStep at hz
      simp only [Option.bind_some, Option.map_eq_some_iff] at hz
      obtain ⟨w, hw1, rfl⟩ := hz
      obtain ⟨p, q⟩ := hw w hw1
      refine ⟨p, by rw [List.length_append, b]; rfl, fun v hv => ?_⟩
      rcases List.mem_append.mp hv with hv | hv
      · exact c v hv
      · rw [List.mem_singleton.mp hv]; exact q
/-! ### the class -/
def rFields (ls lead : Str) (tf tt : Addr) : List (Str × V) := [("letters", .str ls), ("lead", .str lead), ("finals", .ref tf), ("table", .ref tt)]
def RwAt (K : PySem.W.Frag) (C : Addr) (H : Hp) (m : Addr) (ls : Str) (r : Parts) : Prop := ∃ dx tf tt, H m = some (.ins C dx (rFields ls r.lead tf tt)) ∧ Dp K H (.ref tf) (.tuple (r.fin.map encO)) ∧ Dp K H (.ref tt) (.tuple (r.tab.map encRow))
theorem RwAt.ex {C : Addr} {H H' : Hp} {m : Addr} {ls : Str} {r : Parts} (h : RwAt K C H m ls r) (e : Ex H H') : RwAt K C H' m ls r := by
  obtain ⟨dx, tf, tt, h1, h2, h3⟩ := h
  exact ⟨dx, tf, tt, e _ _ h1, h2.ex e, h3.ex e⟩
theorem fin_get {r : Parts} {i : Nat} {o : Option Str} (h : r.fin[i]? = some o) : (r.fin.map encO)[i]? = some (encO o) := by rw [List.getElem?_map, h]; rfl
theorem encO_none {H : Hp} {v : V} {o : Option Str} (h : Dp K H v (encO o)) : (v = .non ↔ o = none) ∧ ∀ s, o = some s → v = .str s := by
  cases o with
  | none =>
    have := Dp.non_iff h
    exact ⟨⟨fun _ => rfl, fun _ => this⟩, fun s z => by cases z⟩
  | some s =>
    have := Dp.str_iff h
    subst this
    exact ⟨⟨fun z => (by cases z), fun z => by cases z⟩, fun t z => by rw [Option.some.inj z]⟩
theorem fin_filter : ∀ fin : List (Option Str), ((fin.map encO).filter fun d => !isN d).map id = (fin.filterMap id).map PyData.str
  | [] => rfl
  | none :: fin => fin_filter fin
  | some s :: fin => by
    show PyData.str s :: ((fin.map encO).filter fun d => !isN d).map id = PyData.str s :: (fin.filterMap id).map PyData.str
    rw [fin_filter fin]
theorem row_filter : ∀ row : List Way, ((row.map encW).filter fun d => !isN d).map id = (waysOf row).map fun w => PyData.tuple [.int w.1, .str w.2]
  | [] => rfl
  | none :: row => row_filter row
  | some w :: row => by
    show PyData.tuple [.int w.1, .str w.2] :: ((row.map encW).filter fun d => !isN d).map id = PyData.tuple [.int w.1, .str w.2] :: (waysOf row).map fun w => PyData.tuple [.int w.1, .str w.2]
    rw [row_filter row]
section
variable (T : Txt K mg)
/-- a field of it -/
theorem rd_fR {C m dx : Addr} {fs : List (Str × V)} {f : Str} {v : V} {te : TE} {σ : L2.St} {H : Hp} {Q : VK} (he : ∀ N : VK, N (.ref m) H → te σ H N) (hm : H m = some (.ins C dx fs)) (cl : Cls K C) (na : NoAttr K C f) (hl : fs.lookup f = some v) (q : Q v H) : tFld K te f σ H Q :=
  he _ ⟨m, C, dx, fs, v, rfl, hm, cl, na, hl, q⟩
def spRCheck : Sp := fun vs H Q E => ∃ (m : Addr) (ls : Str) (r : Parts), vs = [.ref m] ∧ ls.length ≤ 1000 ∧ Bnd r ∧ RwAt K T.C_Rewriter H m ls r ∧ (goodR ls r → ∀ H', Ex H H' → Q .non H') ∧
  (¬ goodR ls r → ∀ d H', H d = none → Ex H H' → H' d = some (.xd [("what", .non)]) → E (.ref T.C_BadRewriter) (some d) H')
theorem ok_Rewriter_check : FnOk P w K mg base (L2.CX P w) 4 T.a_Rewriter_check T.d_Rewriter_check ["self"] (spRCheck T) := by
  refine T.f_Rewriter_check.okX sc_Rewriter_check (fun vs H Q E h => ?_) (fun cdv A outer s H vs Q E hr h => ?_)
  · obtain ⟨_, _, _, rfl, _⟩ := h; rfl
  · obtain ⟨m, ls, r, rfl, l1, bd, ⟨dx, tf, tt, hm, hF, hT⟩, qy, qn⟩ := h
    have lz : ls.length ≤ sizeLine := Nat.le_trans l1 (by decide)
    have no : ∀ Hc, Ex H Hc → ¬ goodR ls r → ∀ d, Hc d = none → E (.ref T.C_BadRewriter) (some d) (upd Hc d (.xd [("what", .non)])) := fun Hc e g d hd => qn g d _ (Evl.fresh_back e hd) (ex_upd e hd) upd_same
    refine ⟨_, (pss_cons (ps_set (i := 1) sc_Rewriter_check.nd rfl (by first | exact Or.inl rfl | exact Or.inr rfl) (pe_callB (kLen K) (by rfl) T.nb_len (by decide +kernel) (pa_cons (kFld K rfl (pe_fld (pv 0) rfl)) pa_nil)))
  (pss_cons (ps_if (PW.pt (pw_or (pt_cmpR (kEq K rfl hr.units) (pv 1) pe_int (by first | rfl | exact nomark _)) (pw_or1 (pt_cmpR (kNe K rfl hr.units) (pe_callB (kLen K) (by rfl) T.nb_len (by decide +kernel) (pa_cons (kFld K rfl (pe_fld (pv 0) rfl)) pa_nil)) (pv 1) (by first | rfl | exact nomark _)))))
    (pss_one (ps_raiseW rfl T.x_BadRewriter (ok_init T) T.tI T.bI (hr.mono (by decide)) T.g_BadRewriter (takes_of rfl rfl rfl rfl) (pa_cons pe_non pa_nil) (MonoA.one mono_c)))
    pss_nil)
  (pss_cons (ps_set (i := 2) sc_Rewriter_check.nd rfl (by first | exact Or.inl rfl | exact Or.inr rfl) (pe_op (kAdd K) (pe_lst (pa_cons (kFld K rfl (pe_fld (pv 0) rfl)) pa_nil)) (pe_lc (own := [("final", 3)]) (g := gName 3)  (by rfl) sc_Rewriter_check.nd (kAny K rfl (kFld K rfl (pe_fld (pv 0) rfl))) (blkOk_by (own := [("final", 3)]) (N := ["self", "states", "written", "final", "row", "after", "text", "way"]) (sc := defScope s_Rewriter_check) (by decide +kernel)) (fun _ _ _ _ _ => (pg_name (i := 3) sc_Rewriter_check.nd rfl (by first | exact Or.inl rfl | exact Or.inr rfl))) (fun _ _ _ _ _ => (pts_one (pt_cmpR op_notN (pv 3) pe_non (by first | rfl | exact nomark _)))) (fun _ _ _ _ _ => (pv 3)))))
  (pss_cons (ps_for (passes_of rfl) rfl (kAny K rfl (kFld K rfl (pe_fld (pv 0) rfl))) (pg_name (i := 4) sc_Rewriter_check.nd rfl (by first | exact Or.inl rfl | exact Or.inr rfl))
    (pss_cons (ps_if (pt_cmpR (kNe K rfl hr.units) (pe_callB (kLen K) (by rfl) T.nb_len (by decide +kernel) (pa_cons (pv 4) pa_nil)) (pe_callB (kLen K) (by rfl) T.nb_len (by decide +kernel) (pa_cons (kFld K rfl (pe_fld (pv 0) rfl)) pa_nil)) (by first | rfl | exact nomark _))
    (pss_one (ps_raiseW rfl T.x_BadRewriter (ok_init T) T.tI T.bI (hr.mono (by decide)) T.g_BadRewriter (takes_of rfl rfl rfl rfl) (pa_cons pe_non pa_nil) (MonoA.one mono_c)))
    pss_nil)
  (pss_one (ps_for (passes_of rfl) rfl (kAny K rfl (pe_lc (own := [("way", 7)]) (g := gName 7)  (by rfl) sc_Rewriter_check.nd (kAny K rfl (pv 4)) (blkOk_by (own := [("way", 7)]) (N := ["self", "states", "written", "final", "row", "after", "text", "way"]) (sc := defScope s_Rewriter_check) (by decide +kernel)) (fun _ _ _ _ _ => (pg_name (i := 7) sc_Rewriter_check.nd rfl (by first | exact Or.inl rfl | exact Or.inr rfl))) (fun _ _ _ _ _ => (pts_one (pt_cmpR op_notN (pv 7) pe_non (by first | rfl | exact nomark _)))) (fun _ _ _ _ _ => (pv 7)))) (kGt K rfl (pg_tup (n := 2) (by rfl) (pgs_cons (pg_name (i := 5) sc_Rewriter_check.nd rfl (by first | exact Or.inl rfl | exact Or.inr rfl)) (pgs_cons (pg_name (i := 6) sc_Rewriter_check.nd rfl (by first | exact Or.inl rfl | exact Or.inr rfl)) pgs_nil))))
    (pss_cons (ps_if (pt_not (pt_chain op_leP op_ltP pe_int (pv 5) (pv 1)))
    (pss_one (ps_raiseW rfl T.x_BadRewriter (ok_init T) T.tI T.bI (hr.mono (by decide)) T.g_BadRewriter (takes_of rfl rfl rfl rfl) (pa_cons pe_non pa_nil) (MonoA.one mono_c)))
    pss_nil)
  (pss_one (ps_expr (kBm K rfl (pe_bm PySem.F.plainAttrs_list PySem.F.slot_list_append PySem.F.type_list_append mt_append (pv 2) (pa_cons (pv 6) pa_nil))))))))))
  (pss_one (ps_if (pt_not (pt_val (pe_callB (kAll K) (by rfl) T.nb_all (by decide +kernel) (pa_cons (pe_lc (own := [("text", 6)]) (g := gName 6) (tt := tYes) (by rfl) sc_Rewriter_check.nd (kAny K rfl (pv 2)) (blkOk_by (own := [("text", 6)]) (N := ["self", "states", "written", "final", "row", "after", "text", "way"]) (sc := defScope s_Rewriter_check) (by decide +kernel)) (fun _ _ _ _ _ => (pg_name (i := 6) sc_Rewriter_check.nd rfl (by first | exact Or.inl rfl | exact Or.inr rfl))) (fun _ _ _ _ _ => pts_nil) (fun _ _ _ _ _ => (pe_callE (ok_is_text T) (hr.mono (by decide)) T.o_is_text (pa_cons (kFld K rfl (pe_fld (pv 0) rfl)) (pa_cons (pv 6) pa_nil))))) pa_nil))))
    (pss_one (ps_raiseW rfl T.x_BadRewriter (ok_init T) T.tI T.bI (hr.mono (by decide)) T.g_BadRewriter (takes_of rfl rfl rfl rfl) (pa_cons pe_non pa_nil) (MonoA.one mono_c)))
    pss_nil)))))), ?_⟩
    walk_at "rc"
    refine ⟨m, _, dx, _, _, rfl, hm, T.cl_Rewriter, T.na_Rewriter_finals, rfl, ?_⟩
    walk_at "rc"
    refine rd_lenDT (Evl.Ex.refl H) hF ?_
    walk_at "rc"
    walk_at "rs"
    walk_at "rc"
    refine rd_iteD (fun h1 => ?_) (fun h1 => ?_)
    · walk_at "rc"
      exact no H (Evl.Ex.refl H) fun g => by have := g.1; rw [List.length_map] at h1; omega
    walk_at "rc"
    refine ⟨m, _, dx, _, _, rfl, hm, T.cl_Rewriter, T.na_Rewriter_table, rfl, ?_⟩
    walk_at "rc"
    refine rd_lenDT (Evl.Ex.refl H) hT ?_
    walk_at "rc"
    refine rd_iteN (fun h2 => ?_) (fun h2 => ?_)
    · walk_at "rc"
      exact no H (Evl.Ex.refl H) fun g => h2 (by have := g.2.1; rw [List.length_map, List.length_map, this])
    rw [List.length_map, List.length_map] at h2
    rw [List.length_map] at h1
    walk_at "rc"
    refine ⟨m, _, dx, _, _, rfl, hm, T.cl_Rewriter, T.na_Rewriter_lead, rfl, ?_⟩
    walk_at "rc"
    refine ⟨by show 1 ≤ sizeLine; decide, fun p0 hp0 => ?_⟩
    have e0 : Ex H (upd H p0 (.lst [.str r.lead])) := Evl.Ex.new hp0
    have hp1 : upd H p0 (.lst [.str r.lead]) p0 = some (.lst [.str r.lead]) := upd_same
    generalize upd H p0 (.lst [.str r.lead]) = H1 at e0 hp1
    walk_at "rc"
    refine rd_anyT' ?_
    walk_at "rc"
    refine ⟨m, _, dx, _, _, rfl, e0 _ _ hm, T.cl_Rewriter, T.na_Rewriter_finals, rfl, ?_⟩
    refine rd_itDT e0 hF fun J wJ => ?_
    refine lc_FD (K := K) (S := []) tr_ex (fun b hb => nomatch hb) wJ (ex_nil e0) (by rw [List.length_map]; exact bd.f) (fun v => rfl) (fun d => !isN d) id (fun L d v Hc hm' hd _ _ t1 _ _ N hN => ?_) (fun L d v Hc hm' hd _ hL _ t1 _ up N hN => ?_) fun L us H2 e1 hL _ hus hds => ?_
    · walk_at "rc"
      rw [isN_dp hd]
      exact hN Hc (Evl.Ex.refl Hc)
    · walk_at "rc"
      exact hN v Hc (Evl.Ex.refl Hc) hd
    rw [fin_filter] at hds
    have eus := dp_strs hds
    subst eus
    have ln := bd.n
    have lall : (allTexts r).length = 1 + (r.fin.filterMap id).length + (r.tab.flatMap textsOf).length := by
      unfold allTexts
      rw [List.length_append, List.length_cons]
      omega
    refine rd_cat (e1 _ _ hp1) hus (by rw [List.length_map, List.length_singleton]; exact Nat.le_trans (show 1 + (r.fin.filterMap id).length ≤ 100000 by omega) (by decide)) fun Lw hLw => ?_
    have e2 := ex_upd (o := .lst ([.str r.lead] ++ (r.fin.filterMap id).map V.str)) (e0.trans e1) hLw
    have nLw : H Lw = none := Evl.fresh_back (e0.trans e1) hLw
    have hLw2 : upd H2 Lw (.lst ([.str r.lead] ++ (r.fin.filterMap id).map V.str)) Lw = some (.lst ((r.lead :: r.fin.filterMap id).map V.str)) := upd_same
    generalize upd H2 Lw (.lst ([.str r.lead] ++ (r.fin.filterMap id).map V.str)) = H3 at e2 hLw2
    walk_at "rc"
    walk_at "rs"
    walk_at "rc"
    refine rd_anyT' ?_
    walk_at "rc"
    refine ⟨m, _, dx, _, _, rfl, e2 _ _ hm, T.cl_Rewriter, T.na_Rewriter_table, rfl, ?_⟩
    refine rd_itDT e2 hT fun J2 wJ2 => ?_
    refine fo_D wJ2 (fun i σ H' => (∃ k3 k4 k5 k6 k7 : Option V, σ = [some (.ref m), some (.int (r.fin.length : Nat)), some (.ref Lw), k3, k4, k5, k6, k7]) ∧ Ex H H' ∧ H' Lw = some (.lst ((r.lead :: r.fin.filterMap id ++ (r.tab.take i).flatMap textsOf).map V.str)) ∧ ∀ row ∈ r.tab.take i, row.length = ls.length ∧ ∀ w ∈ waysOf row, 0 ≤ w.1 ∧ w.1 < r.fin.length)
      ⟨⟨_, _, _, _, _, by rw [List.length_map]; rfl⟩, e2, by rw [List.take_zero]; simpa using hLw2, fun row hrow => by rw [List.take_zero] at hrow; cases hrow⟩ (fun i σ H' _ p => p.2.1) ?_ ?_
    · rintro i d v σ H4 hi hd ⟨⟨k3, k4, k5, k6, k7, rfl⟩, e4, hw4, hrows⟩
      rw [List.getElem?_map] at hi
      cases hri : r.tab[i]? with
      | none => rw [hri] at hi; cases hi
      | some row =>
        rw [hri] at hi
        obtain rfl : encRow row = d := Option.some.inj hi
        have hrm : row ∈ r.tab := List.mem_of_getElem? hri
        have rowl : ∀ (g : goodR ls r), row.length = ls.length := fun g => (g.2.2.1 row hrm).1
        walk_at "rc"
        walk_at "rs"
        walk_at "rc"
        refine rd_lenDT e4 hd ?_
        walk_at "rc"
        refine ⟨m, _, dx, _, _, rfl, e4 _ _ hm, T.cl_Rewriter, T.na_Rewriter_letters, rfl, ?_⟩
        walk_at "rc"
        refine rd_lenS lz ?_
        walk_at "rc"
        refine rd_iteN (fun h3 => ?_) (fun h3 => ?_)
        · walk_at "rc"
          exact no _ e4 fun g => h3 (by rw [List.length_map, rowl g])
        rw [List.length_map] at h3
        walk_at "rc"
        refine rd_anyL' ?_
        walk_at "rc"
        refine rd_anyT' ?_
        walk_at "rc"
        refine rd_itDT e4 hd fun J3 wJ3 => ?_
        have u4 := ex_up1 e4 nLw
        refine lc_FD (K := K) (S := [Lw]) tr_ex (st1 hw4) wJ3 u4 (by rw [List.length_map]; exact bd.w row hrm) (fun v => rfl) (fun d => !isN d) id (fun L d v Hc hm' hd _ _ t1 _ _ N hN => ?_) (fun L d v Hc hm' hd _ hL _ t1 _ up N hN => ?_) fun L2 us H5 e5 hL2 nL2 hus2 hds2 => ?_
        · walk_at "rc"
          rw [isN_dp hd]
          exact hN Hc (Evl.Ex.refl Hc)
        · walk_at "rc"
          exact hN v Hc (Evl.Ex.refl Hc) hd
        rw [row_filter] at hds2
        have dL2 : Dp K (hid [Lw] H5) (.ref L2) (.list ((waysOf row).map fun w => PyData.tuple [.int w.1, .str w.2])) := Dp.frz hus2 nL2 hds2
        refine rd_itDL hid_ex dL2 fun J4 wJ4 => ?_
        have lrow : ∀ k, ((r.lead :: r.fin.filterMap id ++ ((r.tab.take i).flatMap textsOf ++ ((waysOf row).take k).map (·.2)))).length ≤ (allTexts r).length := fun k => by
          have e : (r.tab.flatMap textsOf) = (r.tab.take i).flatMap textsOf ++ (textsOf row ++ (r.tab.drop (i + 1)).flatMap textsOf) := by
            rw [← List.flatMap_cons, ← List.flatMap_append]
            congr 1
            obtain ⟨hlt, hget⟩ := List.getElem?_eq_some_iff.mp hri
            rw [← hget, List.getElem_cons_drop, List.take_append_drop]
          unfold allTexts
          rw [e]
          simp only [List.length_append, List.length_cons, textsOf, List.length_map, List.length_take]
          omega
        have u5 := u4.trans (Ex.hid e5)
        refine fo_D wJ4 (fun k σ H' => (∃ k4 k5 k6 k7 : Option V, σ = [some (.ref m), some (.int (r.fin.length : Nat)), some (.ref Lw), k3, k4, k5, k6, k7]) ∧ Ex (hid [Lw] H5) (hid [Lw] H') ∧ H' Lw = some (.lst ((r.lead :: r.fin.filterMap id ++ ((r.tab.take i).flatMap textsOf ++ ((waysOf row).take k).map (·.2))).map V.str)) ∧ ∀ w ∈ (waysOf row).take k, 0 ≤ w.1 ∧ w.1 < r.fin.length)
          ⟨⟨_, _, _, _, rfl⟩, Evl.Ex.refl _, by rw [List.take_zero, List.map_nil, List.append_nil]; exact e5 _ _ hw4, fun w hw => by rw [List.take_zero] at hw; cases hw⟩ (fun k σ H' _ p => p.2.1.trans hid_ex) ?_ ?_
        · rintro k d v σ H6 hk hd6 ⟨⟨k4, k5, k6, k7, rfl⟩, e6, hw6, hws⟩
          rw [List.getElem?_map] at hk
          cases hwk : (waysOf row)[k]? with
          | none => rw [hwk] at hk; cases hk
          | some w =>
            rw [hwk] at hk
            obtain rfl := Option.some.inj hk
            have hwm : w ∈ waysOf row := List.mem_of_getElem? hwk
            refine rd_gtD (e6.trans hid_ex) hd6 rfl fun xs hxs => ?_
            obtain ⟨x, y, rfl, hx, hy⟩ := dp2 hxs
            rw [Dp.int_iff hx, Dp.str_iff hy]
            have u6 := (u5.trans e6).trans hid_ex
            walk_at "rc"
            walk_at "rs"
            walk_at "rc"
            have bad : ¬ (0 ≤ w.1 ∧ w.1 < (r.fin.length : Int)) → tRaised T.C_BadRewriter (fun cls d x H => E cls d H) (tCons (tC V.non) tNil) = tRaised T.C_BadRewriter (fun cls d x H => E cls d H) (tCons (tC V.non) tNil) := fun _ => rfl
            refine rd_iteD (fun h4 => ?_) (fun h4 => ?_)
            · walk_at "rc"
              refine rd_iteN (fun h5 => ?_) (fun h5 => ?_)
              · walk_at "rc"
                exact no _ u6 fun g => h5 (((g.2.2.1 row hrm).2 w hwm).2)
              walk_at "rc"
              refine ⟨.inl ⟨rfl, _, SqL.of hw6⟩, ?_⟩
              walk_at "rc"
              have ll := lrow k
              refine ⟨Lw, _, _, rfl, rfl, hw6, by rw [List.length_map]; exact Nat.lt_of_le_of_lt ll (Nat.lt_trans ln (by decide)), ⟨_, _, _, _, rfl⟩, e6.trans (Kp.put List.mem_cons_self).ex, ?_, fun w' hw' => ?_⟩
              · rw [upd_same, List.take_succ, hwk]
                simp only [List.map_append, List.append_assoc, Option.toList, List.map_cons, List.map_nil, List.cons_append]
              · rw [List.take_succ, hwk] at hw'
                rcases List.mem_append.mp hw' with z | z
                · exact hws w' z
                · have e : w' = w := by simpa using z
                  rw [e]
                  exact ⟨h4, h5⟩
            · walk_at "rc"
              exact no _ u6 fun g => h4 (((g.2.2.1 row hrm).2 w hwm).1)
        · rintro σ H6 ⟨⟨k4, k5, k6, k7, rfl⟩, e6, hw6, hws⟩
          rw [List.length_map, List.take_length] at hw6 hws
          have u6 := (u5.trans e6).trans hid_ex
          refine ⟨⟨_, _, _, _, _, rfl⟩, u6, ?_, fun row' hrow' => ?_⟩
          · rw [hw6, List.take_succ, hri]
            simp [textsOf]
          · rw [List.take_succ, hri] at hrow'
            rcases List.mem_append.mp hrow' with z | z
            · exact hrows row' z
            · have e : row' = row := by simpa using z
              rw [e]
              exact ⟨by omega, hws⟩
    · rintro σ H4 ⟨⟨k3, k4, k5, k6, k7, rfl⟩, e4, hw4, hrows⟩
      rw [List.length_map, List.take_length] at hw4 hrows
      have dLw : Dp K H4 (.ref Lw) (.list ((allTexts r).map PyData.str)) := .lst (SqL.of hw4) (dps_str _)
      walk_at "rc"
      refine rd_anyL' ?_
      walk_at "rc"
      refine rd_itDL (Evl.Ex.refl H4) dLw fun J5 wJ5 => ?_
      refine lc_MD (K := K) (S := []) tr_ex (fun b hb => nomatch hb) wJ5 (ex_nil (Evl.Ex.refl H4)) (by rw [List.length_map]; exact ln) (fun v => rfl) (fun d => match d with | .str t => .bool (decide (isT ls t)) | _ => .none) (fun L d v Hc hm' hd hL _ t1 _ up N hN => ?_) fun L us H5 e5 hL _ hus hds => ?_
      · obtain ⟨t, htm, rfl⟩ := List.mem_map.mp hm'
        rw [Dp.str_iff hd]
        walk_at "rc"
        refine ⟨m, _, dx, _, _, rfl, (e4.trans t1) _ _ hm, T.cl_Rewriter, T.na_Rewriter_letters, rfl, ?_⟩
        walk_at "rc"
        refine ⟨ls, t, rfl, Nat.lt_of_le_of_lt (bd.t t htm) (by decide), fun H' e => hN _ H' e (.bl _)⟩
      · have e8 : ((allTexts r).map PyData.str).map (fun d => match d with | .str t => PyData.bool (decide (isT ls t)) | _ => .none) = ((allTexts r).map fun t => decide (isT ls t)).map PyData.bool := by
          rw [List.map_map, List.map_map]
          rfl
        rw [e8] at hds
        obtain rfl := dp_bls hds
        walk_at "rc"
        refine ⟨L, _, rfl, SqL.of hus, ?_⟩
        have e9 : (((allTexts r).map fun t => decide (isT ls t)).all id) = decide (∀ t ∈ allTexts r, isT ls t) := by
          rw [Bool.eq_iff_iff, List.all_eq_true, decide_eq_true_iff]
          exact ⟨fun h t ht => of_decide_eq_true (h _ (List.mem_map.mpr ⟨t, ht, rfl⟩)), fun h b hb => by
            obtain ⟨t, ht, rfl⟩ := List.mem_map.mp hb
            exact decide_eq_true (h t ht)⟩
        rw [e9]
        walk_at "rc"
        refine rd_iteN (fun h6 => ?_) (fun h6 => ?_)
        · walk_at "rc"
          exact no _ (e4.trans e5) fun g => h6 g.2.2.2
        · walk_at "rc"
          exact qy ⟨by omega, by omega, hrows, h6⟩ _ (e4.trans e5)
end
section
variable (T : Txt K mg)
def RowsD (ds : List PyData) (tab : List (List Way)) : Prop := ds.length = tab.length ∧ ∀ (i : Nat) (d : PyData) (row : List Way), ds[i]? = some d → tab[i]? = some row → d = .list (row.map encW) ∨ d = .tuple (row.map encW)
def asTup : PyData → PyData
  | .list ws => .tuple ws
  | d => d
theorem RowsD.tup {ds : List PyData} {tab : List (List Way)} (h : RowsD ds tab) : ds.map asTup = tab.map encRow := by
  refine List.ext_getElem? fun i => ?_
  rw [List.getElem?_map, List.getElem?_map]
  by_cases hi : i < ds.length
  · have ht : i < tab.length := by rw [← h.1]; exact hi
    rw [List.getElem?_eq_getElem hi, List.getElem?_eq_getElem ht]
    rcases h.2 i _ _ (List.getElem?_eq_getElem hi) (List.getElem?_eq_getElem ht) with z | z <;> rw [z] <;> rfl
  · have ht : ¬ i < tab.length := by rw [← h.1]; exact hi
    rw [List.getElem?_eq_none (by omega), List.getElem?_eq_none (by omega)]
    rfl
theorem RowsD.mem {ds : List PyData} {tab : List (List Way)} (h : RowsD ds tab) {d : PyData} (hd : d ∈ ds) : ∃ row ∈ tab, d = .list (row.map encW) ∨ d = .tuple (row.map encW) := by
  obtain ⟨i, hi⟩ := List.getElem?_of_mem hd
  have hl := (List.getElem?_eq_some_iff.mp hi).1
  have ht : i < tab.length := by rw [← h.1]; exact hl
  exact ⟨_, List.getElem_mem ht, h.2 i d _ hi (List.getElem?_eq_getElem ht)⟩
def spRInit : Sp := fun vs H Q E => ∃ (m dx : Addr) (xf xt : V) (ls : Str) (r : Parts) (ds : List PyData), vs = [.ref m, .str ls, .str r.lead, xf, xt] ∧ ls.length ≤ 1000 ∧ Bnd r ∧ H m = some (.ins T.C_Rewriter dx []) ∧
  SqD K H xf (r.fin.map encO) ∧ SqD K H xt ds ∧ RowsD ds r.tab ∧
  (goodR ls r → ∀ H', Kp [m] H H' → RwAt K T.C_Rewriter H' m ls r → Q .non H') ∧ (¬ goodR ls r → ∀ d H', Kp [m] H H' → H d = none → H' d = some (.xd [("what", .non)]) → E (.ref T.C_BadRewriter) (some d) H')
theorem ok_Rewriter_init : FnOk P w K mg base (L2.CX P w) 5 T.a_Rewriter_init T.d_Rewriter_init ["self", "letters", "lead", "finals", "table"] (spRInit T) := by
  refine T.f_Rewriter_init.okX sc_Rewriter_init (fun vs H Q E h => ?_) (fun cdv A outer s H vs Q E hr h => ?_)
  · obtain ⟨_, _, _, _, _, _, _, rfl, _⟩ := h; rfl
  · obtain ⟨m, dx, xf, xt, ls, r, ds, rfl, l1, bd, hm, hF, hT, hR, qy, qn⟩ := h
    have hI : ∀ b ∈ [m], ∃ C dx fs, H b = some (.ins C dx fs) := fun b hb => by
      cases List.mem_singleton.mp hb
      exact ⟨_, _, _, hm⟩
    have hF0 : SqD K (hid [m] H) xf (r.fin.map encO) := hF.elim (fun z => .inl (Dp.hidI hI _ z)) fun z => .inr (Dp.hidI hI _ z)
    have hT0 : SqD K (hid [m] H) xt ds := hT.elim (fun z => .inl (Dp.hidI hI _ z)) fun z => .inr (Dp.hidI hI _ z)
    have pm : ∀ {H' : Hp} {o : HO}, Kp [m] H H' → Kp [m] H (upd H' m o) := fun k => k.trans (Kp.put List.mem_cons_self)
    refine ⟨_, (pss_cons (kSf K rfl (ps_fld (pv 0) (pv 1) rfl))
  (pss_cons (kSf K rfl (ps_fld (pv 0) (pv 2) rfl))
  (pss_cons (kSf K rfl (ps_fld (pv 0) (pe_callTy (kTupOf K) (by rfl) T.nb_tuple (by decide +kernel) (pa_cons (pv 3) pa_nil)) rfl))
  (pss_cons (kSf K rfl (ps_fld (pv 0) (pe_callTy (kTupOf K) (by rfl) T.nb_tuple (by decide +kernel) (pa_cons (pe_lc (own := [("row", 6)]) (g := gName 6) (tt := tYes) (by rfl) sc_Rewriter_init.nd (kAny K rfl (pv 4)) (blkOk_by (own := [("row", 6)]) (N := ["self", "letters", "lead", "finals", "table", "way", "row"]) (sc := defScope s_Rewriter_init) (by decide +kernel)) (fun _ _ _ _ _ => (pg_name (i := 6) sc_Rewriter_init.nd rfl (by first | exact Or.inl rfl | exact Or.inr rfl))) (fun _ _ _ _ _ => pts_nil) (fun _ _ _ _ _ => (pe_callTy (kTupOf K) (by rfl) T.nb_tuple (by decide +kernel) (pa_cons (pe_lc (own := [("way", 5)]) (g := gName 5) (tt := tYes) (by rfl) sc_Rewriter_init.nd (kAny K rfl (pv 6)) (by exact blkOk_in (N := ["self", "letters", "lead", "finals", "table", "way", "row"]) rfl (by decide +kernel)) (fun _ _ _ _ _ => (pg_name (i := 5) sc_Rewriter_init.nd rfl (by first | exact Or.inl rfl | exact Or.inr rfl))) (fun _ _ _ _ _ => pts_nil) (fun _ _ _ _ _ => (pe_ifExp (pt_cmpR op_isN (pv 5) pe_non (by first | rfl | exact nomark _)) pe_non (pe_callTy (kTupOf K) (by rfl) T.nb_tuple (by decide +kernel) (pa_cons (pv 5) pa_nil))))) pa_nil)))) pa_nil)) rfl))
  (pss_one (ps_expr (pe_methR0 T.m_Rewriter_check T.cl_Rewriter (pv 0) (ok_Rewriter_check T) (hr.mono (by decide)) T.b_Rewriter_check (takes_of rfl rfl rfl rfl)))))))), ?_⟩
    walk_at "rs"
    walk_at "rc"
    refine ⟨m, T.C_Rewriter, dx, [], rfl, hm, T.cl_Rewriter, T.na_Rewriter_letters, by show 0 < 1000; decide, ?_⟩
    have k1 := pm (o := .ins T.C_Rewriter dx (putF "letters" (.str ls) [])) (Kp.refl (S := [m]) (H := H))
    generalize hH1 : upd H m (.ins T.C_Rewriter dx (putF "letters" (.str ls) [])) = H1 at k1
    have m1 : H1 m = some (.ins T.C_Rewriter dx [("letters", .str ls)]) := by rw [← hH1]; exact upd_same
    walk_at "rs"
    walk_at "rc"
    refine ⟨m, T.C_Rewriter, dx, _, rfl, m1, T.cl_Rewriter, T.na_Rewriter_lead, by show 1 < 1000; decide, ?_⟩
    have k2 := pm (o := .ins T.C_Rewriter dx (putF "lead" (.str r.lead) [("letters", .str ls)])) k1
    generalize hH2 : upd H1 m (.ins T.C_Rewriter dx (putF "lead" (.str r.lead) [("letters", .str ls)])) = H2 at k2
    have m2 : H2 m = some (.ins T.C_Rewriter dx [("letters", .str ls), ("lead", .str r.lead)]) := by rw [← hH2]; exact upd_same
    walk_at "rs"
    walk_at "rc"
    refine rd_tupSq (S := [m]) (st1 m2) k2.ex hF0 fun tf H3 e3 htf => ?_
    have k3 := k2.trans (Kp.of_ex (S := [m]) e3)
    have m3 := e3 _ _ m2
    walk_at "rc"
    refine ⟨m, T.C_Rewriter, dx, _, rfl, m3, T.cl_Rewriter, T.na_Rewriter_finals, by show 2 < 1000; decide, ?_⟩
    have k4 := pm (o := .ins T.C_Rewriter dx (putF "finals" (.ref tf) [("letters", .str ls), ("lead", .str r.lead)])) k3
    have htf4 := htf.ex (Kp.put (S := [m]) (H := H3) (o := .ins T.C_Rewriter dx (putF "finals" (.ref tf) [("letters", .str ls), ("lead", .str r.lead)])) List.mem_cons_self).ex
    generalize hH4 : upd H3 m (.ins T.C_Rewriter dx (putF "finals" (.ref tf) [("letters", .str ls), ("lead", .str r.lead)])) = H4 at k4 htf4
    have m4 : H4 m = some (.ins T.C_Rewriter dx [("letters", .str ls), ("lead", .str r.lead), ("finals", .ref tf)]) := by rw [← hH4]; exact upd_same
    walk_at "rs"
    walk_at "rc"
    refine rd_anySq (fun Q q => ⟨_, rfl, q⟩) (k4.ex.trans hid_ex) hT0 fun J wJ => ?_
    refine lc_MD (K := K) (S := [m]) tr_ex (st1 m4) wJ k4.ex (by rw [hR.1]; exact bd.b) (fun v => rfl) asTup (fun L d v Hc hmd hd hL nL t1 hs2 up N hN => ?_) fun L us H5 e5 hL nL hus hds => ?_
    · obtain ⟨row, hrow, hrd⟩ := hR.mem hmd
      have hsq : SqD K (hid (L :: [m]) Hc) v (row.map encW) := by
        rcases hrd with z | z <;> rw [z] at hd
        · exact .inl hd
        · exact .inr hd
      have hat : asTup d = .tuple (row.map encW) := by rcases hrd with z | z <;> rw [z] <;> rfl
      rw [hat] at hN
      walk_at "rc"
      refine rd_anySq (fun Q q => ⟨_, rfl, q⟩) hid_ex hsq fun J2 wJ2 => ?_
      refine lc_MD (K := K) (S := L :: [m]) tr_ex hs2 wJ2 (Evl.Ex.refl _) (by rw [List.length_map]; exact bd.w row hrow) (fun v => rfl) id (fun L2 d2 v2 Hc2 hmd2 hd2 hL2 nL2 t2 hs3 up2 N2 hN2 => ?_) fun L2 us2 H6 e6 hL2 nL2 hus2 hds2 => ?_
      · refine rd_ife ?_
        walk_at "rc"
        obtain ⟨wy, _, rfl⟩ := List.mem_map.mp hmd2
        cases wy with
        | none =>
          have e := Dp.non_iff hd2
          subst e
          refine rd_itet (by decide) ?_
          exact hN2 _ Hc2 (Evl.Ex.refl Hc2) hd2
        | some wy =>
          obtain ⟨a2, vs2, rfl, g1, g2⟩ := Dp.tupv hd2
          refine rd_itef (decide_eq_false fun z => nomatch z) ?_
          walk_at "rc"
          exact rd_tupT (Evl.ex_t hid_ex g1) (hN2 _ Hc2 (Evl.Ex.refl Hc2) hd2)
      · rw [List.map_id] at hds2
        walk_at "rc"
        refine rd_tupL (SqL.of hus2) fun l hl => ?_
        refine hN _ _ (ex_upd e6 hl) ?_
        exact Dp.newT hl (notin_of (sts_ex hs2 e6) hl) (hds2.ex hid_tail)
    rw [hR.tup] at hds
    have dL := Dp.frz hus nL hds
    have k5 := k4.trans (Kp.of_ex (S := [m]) e5)
    have m5 := e5 _ _ m4
    walk_at "rc"
    refine rd_tupSq (S := [m]) (st1 m5) (Evl.Ex.refl _) (.inl dL) fun tt H6 e6 htt => ?_
    have k6 := k5.trans (Kp.of_ex (S := [m]) e6)
    have m6 := e6 _ _ m5
    have htf6 := htf4.ex (Ex.hid (S := [m]) (e5.trans e6))
    walk_at "rc"
    refine ⟨m, T.C_Rewriter, dx, _, rfl, m6, T.cl_Rewriter, T.na_Rewriter_table, by show 3 < 1000; decide, ?_⟩
    have k7 := pm (o := .ins T.C_Rewriter dx (putF "table" (.ref tt) [("letters", .str ls), ("lead", .str r.lead), ("finals", .ref tf)])) k6
    have u7 := (Kp.put (S := [m]) (H := H6) (o := .ins T.C_Rewriter dx (putF "table" (.ref tt) [("letters", .str ls), ("lead", .str r.lead), ("finals", .ref tf)])) List.mem_cons_self).ex
    generalize hH7 : upd H6 m (.ins T.C_Rewriter dx (putF "table" (.ref tt) [("letters", .str ls), ("lead", .str r.lead), ("finals", .ref tf)])) = H7 at k7 u7
    have m7 : H7 m = some (.ins T.C_Rewriter dx (rFields ls r.lead tf tt)) := by rw [← hH7]; exact upd_same
    have ra : RwAt K T.C_Rewriter H7 m ls r := ⟨dx, tf, tt, m7, (htf6.ex u7).ex hid_ex, (htt.ex u7).ex hid_ex⟩
    walk_at "rc"
    refine ⟨m, dx, _, rfl, m7, rfl, ?_⟩
    walk_at "rc"
    refine ⟨m, ls, r, rfl, l1, bd, ra, fun g H8 e8 => ?_, fun g d H8 hd e8 h8 => ?_⟩
    · exact qy g H8 (k7.trans (Kp.of_ex e8)) (ra.ex e8)
    · refine qn g d H8 (k7.trans (Kp.of_ex e8)) ?_ h8
      cases q0 : H d with
      | none => rfl
      | some o =>
        by_cases hdm : d = m
        · rw [hdm, m7] at hd; cases hd
        · rw [k7 d o (fun z => hdm (List.mem_singleton.mp z)) q0] at hd; cases hd
end
section
variable (T : Txt K mg)
theorem isT_mem {ls t : Str} (h : isT ls t) {c : Nat} {i : Nat} (hi : t.cps.toList[i]? = some c) : c ∈ ls.cps.toList := h c (List.mem_of_getElem? hi)
def spRFrom : Sp := fun vs H Q _ => ∃ (m : Addr) (ls t : Str) (s : Int) (r : Parts), vs = [.ref m, .int s, .str t] ∧ RwAt K T.C_Rewriter H m ls r ∧ goodR ls r ∧ Bnd r ∧ 0 ≤ s ∧ s < r.fin.length ∧ isT ls t ∧ t.length ≤ 10000 ∧
  (rwF ls r.tab s t.cps.toList = none → ∀ H', Ex H H' → Q .non H') ∧ ∀ z, rwF ls r.tab s t.cps.toList = some z → ∀ q H', Ex H H' → H q = none → H' q = some (.tup [.int z.1, .str z.2]) → Q (.ref q) H'
theorem ok_Rewriter_rewrite_from : FnOk P w K mg base CX0 1 T.a_Rewriter_rewrite_from T.d_Rewriter_rewrite_from ["self", "state", "text"] (spRFrom T) := by
  refine T.f_Rewriter_rewrite_from.ok sc_Rewriter_rewrite_from (fun vs H Q E h => ?_) (fun cdv A outer s H vs Q E hr h => ?_)
  · obtain ⟨_, _, _, _, _, rfl, _⟩ := h; rfl
  · obtain ⟨m, ls, t, s0, r, rfl, ⟨dx, tf, tt, hm, hF, hT⟩, g, bd, z0, z1, ht, tl, qn, qy⟩ := h
    refine ⟨_, (pss_cons (ps_set (i := 3) sc_Rewriter_rewrite_from.nd rfl (by first | exact Or.inl rfl | exact Or.inr rfl) (pe_lst pa_nil))
  (pss_cons (ps_for PassesOwn.never rfl (kAny K rfl (pv 2)) (pg_name (i := 4) sc_Rewriter_rewrite_from.nd rfl (by first | exact Or.inl rfl | exact Or.inr rfl))
    (pss_cons (ps_set (i := 5) sc_Rewriter_rewrite_from.nd rfl (by first | exact Or.inl rfl | exact Or.inr rfl) (pe_ix (kIx K) (pe_ix (kIx K) (kFld K rfl (pe_fld (pv 0) rfl)) (pv 1) (fun _ _ => rfl)) (kBm K rfl (pe_bm PySem.F.plainAttrs_str PySem.F.slot_str_index PySem.F.type_str_index mt_strIdx (kFld K rfl (pe_fld (pv 0) rfl)) (pa_cons (pv 4) pa_nil))) (fun _ _ => rfl)))
  (pss_cons (ps_if (pt_cmpR op_isN (pv 5) pe_non (by first | rfl | exact nomark _))
    (pss_one (ps_ret pe_non))
    pss_nil)
  (pss_cons (ps_set (i := 1) sc_Rewriter_rewrite_from.nd rfl (by first | exact Or.inl rfl | exact Or.inr rfl) (pe_ix (kIx K) (pv 5) pe_int (fun _ _ => rfl)))
  (pss_one (ps_expr (kBm K rfl (pe_bm PySem.F.plainAttrs_list PySem.F.slot_list_append PySem.F.type_list_append mt_append (pv 3) (pa_cons (pe_ix (kIx K) (pv 5) pe_int (fun _ _ => rfl)) pa_nil)))))))))
  (pss_one (ps_ret (pe_tup (pa_cons (pv 1) (pa_cons (kBm K rfl (pe_bm PySem.F.plainAttrs_str PySem.F.slot_str_join PySem.F.type_str_join (kJoin K) pe_str (pa_cons (pv 3) pa_nil))) pa_nil))))))), ?_⟩
    walk_at "rs"
    walk_at "rc"
    refine ⟨by decide, fun Lw hLw => ?_⟩
    walk_at "rc"
    walk_at "rs"
    walk_at "rc"
    refine rd_anyS (fun Q q => ⟨_, rfl, q⟩) (fo_str (fun i σ H' => ∃ (z : Int × List Str) (k4 k5 : Option V), σ = [some (.ref m), some (.int z.1), some (.str t), some (.ref Lw), k4, k5] ∧ rwL ls r.tab s0 (t.cps.toList.take i) = some z ∧ Ex H H' ∧ H' Lw = some (.lst (z.2.map V.str)))
      ⟨(s0, []), none, none, rfl, rfl, Evl.Ex.new hLw, upd_same⟩ ?_ ?_)
    · rintro i c σ H1 hi ⟨z, k4, k5, rfl, hz, e1, hw⟩
      have hil : i < t.cps.toList.length := (List.getElem?_eq_some_iff.mp hi).1
      have hcm := isT_mem ht hi
      obtain ⟨rin, zl, zm⟩ := rwL_in g z0 z1 t.cps.toList ht i (Nat.le_of_lt hil) z hz
      obtain ⟨row, hrow, hcell, hcw⟩ := cell_in g rin.1 rin.2 hcm
      have ez : z.1 = (z.1.toNat : Int) := (Int.toNat_of_nonneg rin.1).symm
      have nx : rwL ls r.tab s0 (t.cps.toList.take (i + 1)) = (cellR ls r.tab z.1 c).map fun w => (w.1, z.2 ++ [w.2]) := by
        rw [rwL_take hi, hz]
        rfl
      walk_at "rc"
      refine ⟨m, _, dx, _, _, rfl, e1 _ _ hm, T.cl_Rewriter, T.na_Rewriter_table, rfl, ?_⟩
      walk_at "rc"
      rw [ez]
      refine rd_ixDT e1 hT (d := encRow row) (by rw [List.getElem?_map, hrow]; rfl) fun v hv => ?_
      walk_at "rc"
      refine ⟨m, _, dx, _, _, rfl, e1 _ _ hm, T.cl_Rewriter, T.na_Rewriter_letters, rfl, ?_⟩
      refine ⟨rfl, ?_⟩
      walk_at "rc"
      refine rd_idx hcm ?_
      refine rd_ixDT e1 hv (d := encW (cellR ls r.tab z.1 c)) (by rw [List.getElem?_map, hcell]; rfl) fun v2 hv2 => ?_
      walk_at "rc"
      walk_at "rs"
      walk_at "rc"
      cases hcc : cellR ls r.tab z.1 c with
      | none =>
        rw [hcc] at hv2 nx
        have ev := Dp.non_iff hv2
        subst ev
        refine rd_itet (by decide) ?_
        walk_at "rc"
        exact qn (by unfold rwF; rw [rwL_none nx]; rfl) _ e1
      | some wy =>
        rw [hcc] at hv2 nx
        obtain ⟨a2, vs2, rfl, g1, g2⟩ := Dp.tupv hv2
        refine rd_itef (decide_eq_false fun z => nomatch z) ?_
        walk_at "rc"
        refine rd_ixDT e1 hv2 (i := 0) rfl fun v3 hv3 => ?_
        cases Dp.int_iff hv3
        walk_at "rc"
        refine ⟨.inl ⟨rfl, _, SqL.of hw⟩, ?_⟩
        walk_at "rc"
        refine rd_ixDT e1 hv2 (i := 1) rfl fun v4 hv4 => ?_
        cases Dp.str_iff hv4
        walk_at "rc"
        have tll : t.cps.toList.length = t.length := rfl
        refine ⟨Lw, _, _, rfl, rfl, hw, by rw [List.length_map, zl]; exact Nat.lt_of_lt_of_le (show i < 100000 by omega) (by decide), ⟨_, _, _, rfl, nx, Evl.Ex.mut e1 hLw, ?_⟩⟩
        rw [upd_same, List.map_append]
        rfl
    · rintro σ H1 ⟨z, k4, k5, rfl, hz, e1, hw⟩
      have tll : t.cps.toList.length = t.length := rfl
      obtain ⟨rin, zl, zm⟩ := rwL_in g z0 z1 t.cps.toList ht t.length (by omega) z hz
      rw [← tll, List.take_length] at hz
      walk_at "rc"
      refine ⟨rfl, ?_⟩
      walk_at "rc"
      refine ⟨"", Lw, z.2, rfl, rfl, .inl (SqL.of hw), ?_, ?_⟩
      · have := sum_len (B := 1000) z.2 fun v hv => bd.t v (zm v hv)
        have e0 : (Str.ofString "").length = 0 := by decide +kernel
        rw [zl] at this
        rw [e0]
        omega
      · rw [join_cat]
        walk_at "rc"
        refine ⟨by show 2 ≤ sizeLine; decide, fun q hq => ?_⟩
        exact qy (z.1, catS z.2) (by unfold rwF; rw [hz]; rfl) q _ (ex_upd e1 hq) (Evl.fresh_back e1 hq) upd_same
theorem rwF_in {ls : Str} {r : Parts} (g : goodR ls r) (bd : Bnd r) {s : Int} (h0 : 0 ≤ s) (h1 : s < r.fin.length) {t : Str} (ht : isT ls t) (tl : t.length ≤ 10000) {z : Int × Str} (h : rwF ls r.tab s t.cps.toList = some z) : 0 ≤ z.1 ∧ z.1 < r.fin.length ∧ z.2.length ≤ 10000000 ∧ isT ls z.2 := by
  unfold rwF at h
  obtain ⟨y, hy, rfl⟩ := Option.map_eq_some_iff.mp h
  have tll : t.cps.toList.length = t.length := rfl
  have e : t.cps.toList.take t.length = t.cps.toList := by rw [← tll, List.take_length]
  obtain ⟨a, b, c⟩ := rwL_in g h0 h1 t.cps.toList ht t.length (by omega) y (by rw [e]; exact hy)
  have := cat_len (B := 1000) y.2 fun v hv => bd.t v (c v hv)
  refine ⟨a.1, a.2, ?_, fun d hd => ?_⟩
  · rw [b] at this
    show (catS y.2).length ≤ 10000000
    omega
  · obtain ⟨w, hw, hd⟩ := mem_cat y.2 hd
    exact g.2.2.2 w (c w hw) d hd
def spRRew : Sp := fun vs H Q _ => ∃ (m : Addr) (ls t : Str) (r : Parts), vs = [.ref m, .str t] ∧ RwAt K T.C_Rewriter H m ls r ∧ goodR ls r ∧ Bnd r ∧ isT ls t ∧ t.length ≤ 10000 ∧ ∀ H', Ex H H' → Q (match rwM ls r t.cps.toList with | none => .non | some u => .str u) H'
theorem ok_Rewriter_rewrite : FnOk P w K mg base CX0 2 T.a_Rewriter_rewrite T.d_Rewriter_rewrite ["self", "text"] (spRRew T) := by
  refine T.f_Rewriter_rewrite.ok sc_Rewriter_rewrite (fun vs H Q E h => ?_) (fun cdv A outer s H vs Q E hr h => ?_)
  · obtain ⟨_, _, _, _, rfl, _⟩ := h; rfl
  · obtain ⟨m, ls, t, r, rfl, hM, g, bd, ht, tl, q⟩ := h
    obtain ⟨dx, tf, tt, hm, hF, hT⟩ := id hM
    have g0 := g.1
    refine ⟨_, (pss_cons (ps_set (i := 2) sc_Rewriter_rewrite.nd rfl (by first | exact Or.inl rfl | exact Or.inr rfl) (pe_meth (pv 0) T.cl_Rewriter T.m_Rewriter_rewrite_from (ok_Rewriter_rewrite_from T) (hr.mono (by decide)) T.b_Rewriter_rewrite_from .nil pass0 (pa_cons pe_int (pa_cons (pv 1) pa_nil))))
  (pss_cons (ps_if (PW.pt (pw_or (pt_cmpR op_isN (pv 2) pe_non (by first | rfl | exact nomark _)) (pw_or1 (pt_cmpR op_isN (pe_ix (kIx K) (kFld K rfl (pe_fld (pv 0) rfl)) (pe_ix (kIx K) (pv 2) pe_int (fun _ _ => rfl)) (fun _ _ => rfl)) pe_non (by first | rfl | exact nomark _)))))
    (pss_one (ps_ret pe_non))
    pss_nil)
  (pss_one (ps_ret (pe_op (kAdd K) (pe_op (kAdd K) (kFld K rfl (pe_fld (pv 0) rfl)) (pe_ix (kIx K) (pv 2) pe_int (fun _ _ => rfl))) (pe_ix (kIx K) (kFld K rfl (pe_fld (pv 0) rfl)) (pe_ix (kIx K) (pv 2) pe_int (fun _ _ => rfl)) (fun _ _ => rfl))))))), ?_⟩
    walk_at "rc"
    refine ⟨m, dx, _, rfl, hm, rfl, ?_⟩
    walk_at "rc"
    refine ⟨m, ls, t, 0, r, rfl, hM, g, bd, Int.le_refl 0, by omega, ht, tl, fun hn H1 e1 => ?_, fun z hz q1 H1 e1 _ hq1 => ?_⟩
    · walk_at "rc"
      walk_at "rs"
      walk_at "rc"
      refine rd_itet (by decide) ?_
      walk_at "rc"
      have := q H1 e1
      unfold rwM at this
      rw [hn] at this
      exact this
    · obtain ⟨a0, a1, al, ai⟩ := rwF_in g bd (Int.le_refl 0) (by omega) ht tl hz
      obtain ⟨n, hn⟩ := Int.eq_ofNat_of_zero_le a0
      have hnl : n < r.fin.length := by omega
      have tq : SqT K H1 q1 [.int z.1, .str z.2] := Evl.st_of hq1
      have due := q
      unfold rwM at due
      rw [hz, Option.bind_some, hn, Int.toNat_natCast, List.getD_eq_getElem?_getD, List.getElem?_eq_getElem hnl, Option.getD_some] at due
      walk_at "rc"
      walk_at "rs"
      walk_at "rc"
      refine rd_itef (decide_eq_false fun z => nomatch z) ?_
      walk_at "rc"
      refine ⟨m, _, dx, _, _, rfl, e1 _ _ hm, T.cl_Rewriter, T.na_Rewriter_finals, rfl, ?_⟩
      walk_at "rc"
      refine rd_ixT (v := .int z.1) tq (atI_nat (j := 0) rfl) ?_
      rw [hn]
      refine rd_ixDT e1 hF (d := encO r.fin[n]) (by rw [List.getElem?_map, List.getElem?_eq_getElem hnl]; rfl) fun v hv => ?_
      walk_at "rc"
      cases ho : r.fin[n] with
      | none =>
        rw [ho] at hv due
        cases Dp.non_iff hv
        refine rd_itet (by decide) ?_
        walk_at "rc"
        exact due H1 e1
      | some u =>
        rw [ho] at hv due
        cases Dp.str_iff hv
        have lu := bd.t u (mem_fin (ho ▸ List.getElem_mem hnl))
        have ll := bd.t _ (mem_lead (r := r))
        refine rd_itef (decide_eq_false fun z => nomatch z) ?_
        walk_at "rc"
        refine ⟨m, _, dx, _, _, rfl, e1 _ _ hm, T.cl_Rewriter, T.na_Rewriter_lead, rfl, ?_⟩
        walk_at "rc"
        refine rd_ixT (v := .str z.2) tq (atI_nat (j := 1) rfl) ?_
        have sl : sizeLine ≥ 16000000 := by decide
        refine rd_addS (by omega) ?_
        walk_at "rc"
        refine ⟨m, _, dx, _, _, rfl, e1 _ _ hm, T.cl_Rewriter, T.na_Rewriter_finals, rfl, ?_⟩
        walk_at "rc"
        refine rd_ixT (v := .int z.1) tq (atI_nat (j := 0) rfl) ?_
        rw [hn]
        refine rd_ixDT e1 hF (d := encO r.fin[n]) (by rw [List.getElem?_map, List.getElem?_eq_getElem hnl]; rfl) fun v2 hv2 => ?_
        rw [ho] at hv2
        cases Dp.str_iff hv2
        refine rd_addS (by rw [str_len]; omega) ?_
        exact due H1 e1
def picR (ls : Str) (r : Parts) : PyData := .tuple [.str ls, .str r.lead, .tuple (r.fin.map encO), .tuple (r.tab.map encRow)]
def spRPic : Sp := fun vs H Q _ => ∃ (m : Addr) (ls : Str) (r : Parts), vs = [.ref m] ∧ RwAt K T.C_Rewriter H m ls r ∧ ∀ p H', Ex H H' → Dp K H' (.ref p) (picR ls r) → Q (.ref p) H'
theorem ok_Rewriter_picture : FnOk P w K mg base CX0 1 T.a_Rewriter_picture T.d_Rewriter_picture ["self"] (spRPic T) := by
  refine T.f_Rewriter_picture.ok sc_Rewriter_picture (fun vs H Q E h => ?_) (fun cdv A outer s H vs Q E hr h => ?_)
  · obtain ⟨_, _, _, rfl, _⟩ := h; rfl
  · obtain ⟨m, ls, r, rfl, ⟨dx, tf, tt, hm, hF, hT⟩, q⟩ := h
    refine ⟨_, (pss_one (ps_ret (pe_tup (pa_cons (kFld K rfl (pe_fld (pv 0) rfl)) (pa_cons (kFld K rfl (pe_fld (pv 0) rfl)) (pa_cons (kFld K rfl (pe_fld (pv 0) rfl)) (pa_cons (kFld K rfl (pe_fld (pv 0) rfl)) pa_nil))))))), ?_⟩
    walk_at "rc"
    refine ⟨m, _, dx, _, _, rfl, hm, T.cl_Rewriter, T.na_Rewriter_letters, rfl, ?_⟩
    walk_at "rc"
    refine ⟨m, _, dx, _, _, rfl, hm, T.cl_Rewriter, T.na_Rewriter_lead, rfl, ?_⟩
    walk_at "rc"
    refine ⟨m, _, dx, _, _, rfl, hm, T.cl_Rewriter, T.na_Rewriter_finals, rfl, ?_⟩
    walk_at "rc"
    refine ⟨m, _, dx, _, _, rfl, hm, T.cl_Rewriter, T.na_Rewriter_table, rfl, ?_⟩
    walk_at "rc"
    refine ⟨by show 4 ≤ sizeLine; decide, fun p hp => ?_⟩
    have e := Evl.Ex.new (o := .tup [.str ls, .str r.lead, .ref tf, .ref tt]) hp
    exact q p _ e (.tup (Evl.st_of upd_same) (.cons (.str _) (.cons (.str _) (.cons (hF.ex e) (.cons (hT.ex e) .nil)))))
end
/-! ### two rewriters, one behind the other: what they write -/
theorem rwL_acc {ls : Str} {tab : List (List Way)} : ∀ (t : List Nat) (s : Int) (ws : List Str), t.foldl (rwStep ls tab) (some (s, ws)) = (t.foldl (rwStep ls tab) (some (s, []))).map fun z => (z.1, ws ++ z.2)
  | [], s, ws => by simp
  | c :: t, s, ws => by
    rw [List.foldl_cons, List.foldl_cons]
    show t.foldl _ ((cellR ls tab s c).map fun w => (w.1, ws ++ [w.2])) = (t.foldl _ ((cellR ls tab s c).map fun w => (w.1, [] ++ [w.2]))).map _
    cases cellR ls tab s c with
    | none =>
      show t.foldl _ none = (t.foldl _ none).map _
      rw [rw_none]; rfl
    | some w =>
      show t.foldl _ (some (w.1, ws ++ [w.2])) = (t.foldl _ (some (w.1, [w.2]))).map _
      rw [rwL_acc t w.1 (ws ++ [w.2]), rwL_acc t w.1 [w.2], Option.map_map]
      congr 1
      funext z
      show (z.1, ws ++ [w.2] ++ z.2) = (z.1, ws ++ ([w.2] ++ z.2))
      rw [List.append_assoc]
theorem cat_app (a b : List Str) : catS (a ++ b) = catS a ++ catS b := by
  unfold catS
  rw [List.foldl_append, cat_from]
  rfl
theorem cat_one (a : Str) : catS [a] = a := nil_str a
theorem rwF_nil {ls : Str} {tab : List (List Way)} {s : Int} : rwF ls tab s [] = some (s, ("" : Str)) := rfl
theorem rwF_cons {ls : Str} {tab : List (List Way)} {s : Int} {c : Nat} {t : List Nat} : rwF ls tab s (c :: t) = (cellR ls tab s c).bind fun w => (rwF ls tab w.1 t).map fun z => (z.1, w.2 ++ z.2) := by
  unfold rwF rwL
  rw [List.foldl_cons]
  show (t.foldl _ ((cellR ls tab s c).map fun w => (w.1, [] ++ [w.2]))).map _ = _
  cases cellR ls tab s c with
  | none =>
    show (t.foldl _ none).map _ = none
    rw [rw_none]; rfl
  | some w =>
    show (t.foldl _ (some (w.1, [w.2]))).map _ = _
    rw [rwL_acc, Option.map_map]
    show _ = ((t.foldl (rwStep ls tab) (some (w.1, []))).map _).map _
    rw [Option.map_map]
    congr 1
    funext z
    show (z.1, catS ([w.2] ++ z.2)) = (z.1, w.2 ++ catS z.2)
    rw [cat_app, cat_one]
theorem rwF_app {ls : Str} {tab : List (List Way)} : ∀ (a : List Nat) (s : Int) (b : List Nat), rwF ls tab s (a ++ b) = (rwF ls tab s a).bind fun z => (rwF ls tab z.1 b).map fun y => (y.1, z.2 ++ y.2)
  | [], s, b => by
    rw [List.nil_append, rwF_nil]
    show rwF ls tab s b = (rwF ls tab s b).map fun y => (y.1, ("" : Str) ++ y.2)
    have e : (fun y : Int × Str => (y.1, ("" : Str) ++ y.2)) = id := by funext y; rw [nil_str]; rfl
    rw [e, Option.map_id]
    rfl
  | c :: a, s, b => by
    rw [List.cons_append, rwF_cons, rwF_cons]
    cases cellR ls tab s c with
    | none => rfl
    | some w =>
      show (rwF ls tab w.1 (a ++ b)).map _ = ((rwF ls tab w.1 a).map _).bind _
      rw [rwF_app a w.1 b]
      cases rwF ls tab w.1 a with
      | none => rfl
      | some z =>
        show ((rwF ls tab z.1 b).map _).map _ = (rwF ls tab z.1 b).map _
        rw [Option.map_map]
        congr 1
        funext y
        show (y.1, w.2 ++ (z.2 ++ y.2)) = (y.1, w.2 ++ z.2 ++ y.2)
        rw [str_assoc]
/-- what the second makes of what is written on the way -/
def thenF (ls : Str) (r2 : Parts) (q : Int) (w : Str) : Option (Int × Str) := rwF ls r2.tab q w.cps.toList
def wayC (ls : Str) (r2 : Parts) (ps : List (Int × Int)) (q : Int) (w : Way) : Way := w.bind fun w => (thenF ls r2 q w.2).map fun z => (((ps.idxOf (w.1, z.1) : Nat) : Int), z.2)
def rowC (ls : Str) (r1 r2 : Parts) (ps : List (Int × Int)) (p : Int × Int) : List Way := (r1.tab.getD p.1.toNat []).map (wayC ls r2 ps p.2)
def endC (ls : Str) (r2 : Parts) (q : Int) (f : Option Str) : Option Str := f.bind fun f => (thenF ls r2 q f).bind fun z => (r2.fin.getD z.1.toNat none).map fun u => z.2 ++ u
def finC (ls : Str) (r1 r2 : Parts) (p : Int × Int) : Option Str := endC ls r2 p.2 (r1.fin.getD p.1.toNat none)
/-- the pairs to which a pair leads stand among them -/
def closedAt (ls : Str) (r1 r2 : Parts) (ps : List (Int × Int)) (p : Int × Int) : Prop := ∀ w, some w ∈ r1.tab.getD p.1.toNat [] → ∀ z, thenF ls r2 p.2 w.2 = some z → (w.1, z.1) ∈ ps
def compC (ls : Str) (r1 r2 : Parts) (lead : Str) (ps : List (Int × Int)) : Parts := ⟨lead, ps.map (finC ls r1 r2), ps.map (rowC ls r1 r2 ps)⟩
theorem idx_get {ps : List (Int × Int)} {p : Int × Int} (h : p ∈ ps) : ps[ps.idxOf p]? = some p := by
  have hl := List.idxOf_lt_length_iff.mpr h
  rw [List.getElem?_eq_getElem hl, List.getElem_idxOf]
theorem cell_comp {ls : Str} {r1 r2 : Parts} {lead : Str} {ps : List (Int × Int)} {i : Nat} {p : Int × Int} {c : Nat} (hi : ps[i]? = some p) (hc : ls.cps.toList.idxOf c < (r1.tab.getD p.1.toNat []).length) :
    cellR ls (compC ls r1 r2 lead ps).tab (i : Int) c = wayC ls r2 ps p.2 (cellR ls r1.tab p.1 c) := by
  unfold cellR compC
  show ((ps.map (rowC ls r1 r2 ps)).getD (Int.toNat (i : Int)) []).getD _ none = _
  rw [Int.toNat_natCast, List.getD_eq_getElem?_getD (l := ps.map _), List.getElem?_map, hi]
  show (rowC ls r1 r2 ps p).getD _ none = _
  unfold rowC
  rw [List.getD_eq_getElem?_getD, List.getElem?_map, List.getD_eq_getElem?_getD (l := r1.tab.getD p.1.toNat []), List.getElem?_eq_getElem hc]
  rfl
theorem thenF_app {ls : Str} {r2 : Parts} {q : Int} {a b : Str} : thenF ls r2 q (a ++ b) = (thenF ls r2 q a).bind fun z => (thenF ls r2 z.1 b).map fun y => (y.1, z.2 ++ y.2) := by
  unfold thenF
  rw [tl_app, rwF_app]
theorem comp_run {ls : Str} {r1 r2 : Parts} {lead : Str} {ps : List (Int × Int)} (nd : ps.Nodup) (g1 : goodR ls r1) (box : ∀ p ∈ ps, 0 ≤ p.1 ∧ p.1 < r1.fin.length) (cl : ∀ p ∈ ps, closedAt ls r1 r2 ps p) :
    ∀ (t : List Nat), (∀ c ∈ t, c ∈ ls.cps.toList) → ∀ (i : Nat) (p : Int × Int), ps[i]? = some p →
      rwF ls (compC ls r1 r2 lead ps).tab (i : Int) t = (rwF ls r1.tab p.1 t).bind (fun z => (thenF ls r2 p.2 z.2).map fun y => (((ps.idxOf (z.1, y.1) : Nat) : Int), y.2)) ∧
      (∀ z y, rwF ls r1.tab p.1 t = some z → thenF ls r2 p.2 z.2 = some y → (z.1, y.1) ∈ ps) := by
  intro t
  induction t with
  | nil =>
    intro _ i p hi
    have hp := List.mem_of_getElem? hi
    refine ⟨?_, fun z y hz hy => ?_⟩
    · rw [rwF_nil, rwF_nil]
      show some ((i : Int), ("" : Str)) = (thenF ls r2 p.2 ("" : Str)).map fun y => (((ps.idxOf (p.1, y.1) : Nat) : Int), y.2)
      have e : thenF ls r2 p.2 ("" : Str) = some (p.2, ("" : Str)) := rfl
      rw [e]
      show some ((i : Int), ("" : Str)) = some (((ps.idxOf p : Nat) : Int), ("" : Str))
      obtain ⟨hl, hg⟩ := List.getElem?_eq_some_iff.mp hi
      have e2 : ps.idxOf p = i := by rw [← hg]; exact nd.idxOf_getElem i hl
      rw [e2]
    · rw [rwF_nil] at hz
      cases hz
      have e : thenF ls r2 p.2 ("" : Str) = some (p.2, ("" : Str)) := rfl
      rw [e] at hy
      cases hy
      exact hp
  | cons c t ih =>
    intro ht i p hi
    have hp := List.mem_of_getElem? hi
    have hc := ht c List.mem_cons_self
    have hb := box p hp
    obtain ⟨row, hrow, hcell, _⟩ := cell_in g1 hb.1 hb.2 hc
    have erow : r1.tab.getD p.1.toNat [] = row := by rw [List.getD_eq_getElem?_getD, hrow]; rfl
    have hlen : ls.cps.toList.idxOf c < (r1.tab.getD p.1.toNat []).length := by rw [erow]; exact (List.getElem?_eq_some_iff.mp hcell).1
    have ht' : ∀ c ∈ t, c ∈ ls.cps.toList := fun d hd => ht d (List.mem_cons_of_mem _ hd)
    rw [rwF_cons, rwF_cons, cell_comp hi hlen]
    cases hcc : cellR ls r1.tab p.1 c with
    | none => exact ⟨rfl, fun z y hz => nomatch hz⟩
    | some w =>
      have hwm : some w ∈ r1.tab.getD p.1.toNat [] := by rw [erow, ← hcc]; exact List.mem_of_getElem? hcell
      have key : ∀ z : Int × Str, thenF ls r2 p.2 (w.2 ++ z.2) = (thenF ls r2 p.2 w.2).bind fun x => (thenF ls r2 x.1 z.2).map fun y => (y.1, x.2 ++ y.2) := fun z => thenF_app
      cases hz0 : thenF ls r2 p.2 w.2 with
      | none =>
        refine ⟨?_, fun z y hz hy => ?_⟩
        · show ((thenF ls r2 p.2 w.2).map _).bind _ = ((rwF ls r1.tab w.1 t).map _).bind _
          rw [hz0]
          cases rwF ls r1.tab w.1 t with
          | none => rfl
          | some z =>
            show none = (thenF ls r2 p.2 (w.2 ++ z.2)).map _
            rw [key, hz0]; rfl
        · have hz' : (rwF ls r1.tab w.1 t).map (fun z => (z.1, w.2 ++ z.2)) = some z := hz
          obtain ⟨z', _, rfl⟩ := Option.map_eq_some_iff.mp hz'
          have hy' : thenF ls r2 p.2 (w.2 ++ z'.2) = some y := hy
          rw [key, hz0] at hy'
          cases hy'
      | some z0 =>
        have hm := cl p hp w hwm z0 hz0
        obtain ⟨ih1, ih2⟩ := ih ht' _ _ (idx_get hm)
        refine ⟨?_, fun z y hz hy => ?_⟩
        · show ((thenF ls r2 p.2 w.2).map _).bind _ = ((rwF ls r1.tab w.1 t).map _).bind _
          rw [hz0]
          show (rwF ls _ (((ps.idxOf (w.1, z0.1) : Nat) : Int)) t).map _ = _
          rw [ih1]
          cases rwF ls r1.tab w.1 t with
          | none => rfl
          | some z =>
            show ((thenF ls r2 z0.1 z.2).map _).map _ = (thenF ls r2 p.2 (w.2 ++ z.2)).map _
            rw [key, hz0]
            show _ = ((thenF ls r2 z0.1 z.2).map _).map _
            rw [Option.map_map, Option.map_map]
            rfl
        · have hz' : (rwF ls r1.tab w.1 t).map (fun z => (z.1, w.2 ++ z.2)) = some z := hz
          obtain ⟨z', hz2, rfl⟩ := Option.map_eq_some_iff.mp hz'
          have hy' : thenF ls r2 p.2 (w.2 ++ z'.2) = some y := hy
          rw [key, hz0] at hy'
          obtain ⟨y', hy2, rfl⟩ := Option.map_eq_some_iff.mp (show (thenF ls r2 z0.1 z'.2).map _ = some y from hy')
          exact ih2 z' y' hz2 hy2
theorem comp_right {ls : Str} {r1 r2 : Parts} {ps : List (Int × Int)} {q0 : Int} {u0 : Str} (nd : ps.Nodup) (g1 : goodR ls r1) (box : ∀ p ∈ ps, 0 ≤ p.1 ∧ p.1 < r1.fin.length) (cl : ∀ p ∈ ps, closedAt ls r1 r2 ps p) (h0 : ps[0]? = some (0, q0)) (hl : thenF ls r2 0 r1.lead = some (q0, u0)) {t : List Nat} (ht : ∀ c ∈ t, c ∈ ls.cps.toList) :
    rwM ls (compC ls r1 r2 (r2.lead ++ u0) ps) t = (rwM ls r1 t).bind fun u => rwM ls r2 u.cps.toList := by
  obtain ⟨a, b⟩ := comp_run (lead := r2.lead ++ u0) nd g1 box cl t ht 0 _ h0
  unfold rwM
  have a' : rwF ls (compC ls r1 r2 (r2.lead ++ u0) ps).tab 0 t = _ := a
  rw [a']
  show (((rwF ls r1.tab 0 t).bind _).bind _) = (((rwF ls r1.tab 0 t).bind _).bind _)
  cases hz : rwF ls r1.tab 0 t with
  | none => rfl
  | some z =>
    have e2 : ∀ f : Str, rwF ls r2.tab 0 (r1.lead ++ z.2 ++ f).cps.toList = (thenF ls r2 q0 z.2).bind fun y => (thenF ls r2 y.1 f).map fun x => (x.1, u0 ++ y.2 ++ x.2) := fun f => by
      show thenF ls r2 0 (r1.lead ++ z.2 ++ f) = _
      rw [thenF_app, thenF_app, hl]
      show ((thenF ls r2 q0 z.2).map _).bind _ = _
      cases thenF ls r2 q0 z.2 with
      | none => rfl
      | some y => rfl
    show ((thenF ls r2 q0 z.2).map _).bind _ = ((r1.fin.getD z.1.toNat none).map _).bind _
    cases hy : thenF ls r2 q0 z.2 with
    | none =>
      cases r1.fin.getD z.1.toNat none with
      | none => rfl
      | some f =>
        show none = (rwF ls r2.tab 0 (r1.lead ++ z.2 ++ f).cps.toList).bind _
        rw [e2, hy]; rfl
    | some y =>
      have hm := b z y hz hy
      show (((ps.map (finC ls r1 r2)).getD (Int.toNat ((ps.idxOf (z.1, y.1) : Nat) : Int)) none).map _) = _
      rw [Int.toNat_natCast, List.getD_eq_getElem?_getD (l := ps.map _), List.getElem?_map, idx_get hm]
      show (finC ls r1 r2 (z.1, y.1)).map _ = _
      unfold finC endC
      cases r1.fin.getD z.1.toNat none with
      | none => rfl
      | some f =>
        show ((thenF ls r2 y.1 f).bind _).map _ = (rwF ls r2.tab 0 (r1.lead ++ z.2 ++ f).cps.toList).bind _
        rw [e2, hy]
        show _ = ((thenF ls r2 y.1 f).map _).bind _
        cases thenF ls r2 y.1 f with
        | none => rfl
        | some x =>
          show ((r2.fin.getD x.1.toNat none).map _).map _ = (r2.fin.getD x.1.toNat none).map _
          rw [Option.map_map]
          congr 1
          funext u
          show r2.lead ++ u0 ++ y.2 ++ (x.2 ++ u) = r2.lead ++ (u0 ++ y.2 ++ x.2) ++ u
          simp only [str_assoc]
/-! ### two rewriters, one behind the other: the program -/
structure SmB (B n : Nat) (r : Parts) : Prop where
  t : ∀ t ∈ allTexts r, t.length ≤ B
  f : r.fin.length ≤ n
  b : r.tab.length ≤ n
  w : ∀ row ∈ r.tab, row.length ≤ n
theorem flat_len {α β : Type} {f : α → List β} {B : Nat} : ∀ l : List α, (∀ x ∈ l, (f x).length ≤ B) → (l.flatMap f).length ≤ l.length * B
  | [], _ => Nat.zero_le _
  | x :: l, h => by
    have a := h x List.mem_cons_self
    have b := flat_len l fun y hy => h y (List.mem_cons_of_mem _ hy)
    rw [List.flatMap_cons, List.length_append, List.length_cons, Nat.succ_mul]
    omega
theorem SmB.bnd {B n : Nat} {r : Parts} (h : SmB B n r) (hB : B ≤ 1000) (hn : n ≤ 300) : Bnd r := by
  refine ⟨fun t ht => Nat.le_trans (h.t t ht) hB, ?_, Nat.lt_of_le_of_lt h.f (by omega), Nat.lt_of_le_of_lt h.b (by omega), fun row hr => Nat.lt_of_le_of_lt (h.w row hr) (by omega)⟩
  have a := List.length_filterMap_le id r.fin
  have b := flat_len (f := textsOf) (B := n) r.tab fun row hr => by
    unfold textsOf waysOf
    rw [List.length_map]
    exact Nat.le_trans (List.length_filterMap_le id row) (h.w row hr)
  have c := h.f
  have d := h.b
  unfold allTexts
  rw [List.length_append, List.length_cons]
  have e : r.tab.length * n ≤ 300 * 300 := Nat.mul_le_mul (by omega) hn
  omega
theorem SmB.mono {B n B' n' : Nat} {r : Parts} (h : SmB B n r) (hB : B ≤ B') (hn : n ≤ n') : SmB B' n' r := ⟨fun t ht => Nat.le_trans (h.t t ht) hB, Nat.le_trans h.f hn, Nat.le_trans h.b hn, fun row hr => Nat.le_trans (h.w row hr) hn⟩
theorem thenF_in {ls : Str} {r2 : Parts} {B n : Nat} (g : goodR ls r2) (sm : SmB B n r2) {q : Int} (h0 : 0 ≤ q) (h1 : q < r2.fin.length) {w : Str} (hw : isT ls w) {z : Int × Str} (h : thenF ls r2 q w = some z) : 0 ≤ z.1 ∧ z.1 < r2.fin.length ∧ z.2.length ≤ w.length * B ∧ isT ls z.2 := by
  unfold thenF rwF at h
  obtain ⟨y, hy, rfl⟩ := Option.map_eq_some_iff.mp h
  have tll : w.cps.toList.length = w.length := rfl
  have e : w.cps.toList.take w.length = w.cps.toList := by rw [← tll, List.take_length]
  obtain ⟨a, b, c⟩ := rwL_in g h0 h1 w.cps.toList hw w.length (by omega) y (by rw [e]; exact hy)
  have := cat_len (B := B) y.2 fun v hv => sm.t v (c v hv)
  refine ⟨a.1, a.2, ?_, fun d hd => ?_⟩
  · rw [b] at this
    exact this
  · obtain ⟨v, hv, hd⟩ := mem_cat y.2 hd
    exact g.2.2.2 v (c v hv) d hd
theorem fin_mem {r : Parts} {i : Nat} {u : Str} (h : r.fin.getD i none = some u) : some u ∈ r.fin := by
  rw [List.getD_eq_getElem?_getD] at h
  cases hq : r.fin[i]? with
  | none => rw [hq] at h; cases h
  | some o =>
    rw [hq] at h
    have e : o = some u := h
    exact e ▸ List.mem_of_getElem? hq
theorem row_mem {r : Parts} {i : Nat} {w : Int × Str} (h : some w ∈ r.tab.getD i []) : ∃ row ∈ r.tab, some w ∈ row := by
  rw [List.getD_eq_getElem?_getD] at h
  cases hq : r.tab[i]? with
  | none => rw [hq] at h; cases h
  | some row =>
    rw [hq] at h
    exact ⟨row, List.mem_of_getElem? hq, h⟩
theorem comp_texts {ls : Str} {r1 r2 : Parts} {ps : List (Int × Int)} {q0 : Int} {u0 : Str} {B1 B2 n1 n2 : Nat} (g1 : goodR ls r1) (g2 : goodR ls r2) (s1 : SmB B1 n1 r1) (s2 : SmB B2 n2 r2) (box : ∀ p ∈ ps, (0 ≤ p.1 ∧ p.1 < r1.fin.length) ∧ 0 ≤ p.2 ∧ p.2 < r2.fin.length) (hl : thenF ls r2 0 r1.lead = some (q0, u0)) :
    ∀ t ∈ allTexts (compC ls r1 r2 (r2.lead ++ u0) ps), isT ls t ∧ t.length ≤ B2 + B1 * B2 := by
  have f2 := g2.1
  have up : ∀ {w : Str} {q : Int} {z : Int × Str}, w ∈ allTexts r1 → 0 ≤ q → q < r2.fin.length → thenF ls r2 q w = some z → (0 ≤ z.1 ∧ z.1 < r2.fin.length) ∧ isT ls z.2 ∧ z.2.length ≤ B1 * B2 := fun hw h0 h1 h => by
    obtain ⟨a, b, c, d⟩ := thenF_in g2 s2 h0 h1 (g1.2.2.2 _ hw) h
    exact ⟨⟨a, b⟩, d, Nat.le_trans c (Nat.mul_le_mul_right B2 (s1.t _ hw))⟩
  have app : ∀ {x y : Str}, isT ls x → isT ls y → isT ls (x ++ y) := fun hx hy c hc => by
    rw [tl_app] at hc
    exact (List.mem_append.mp hc).elim (hx c) (hy c)
  intro t ht
  rcases List.mem_append.mp ht with z | z
  · rcases List.mem_cons.mp z with z | z
    · obtain ⟨_, b, c⟩ := up mem_lead (Int.le_refl 0) (by omega) hl
      rw [z]
      refine ⟨app (g2.2.2.2 _ mem_lead) b, ?_⟩
      show (r2.lead ++ u0).length ≤ _
      have := s2.t _ (mem_lead (r := r2))
      have c' : u0.length ≤ B1 * B2 := c
      rw [str_len]
      omega
    · obtain ⟨o, ho, e⟩ := List.mem_filterMap.mp z
      obtain ⟨p, hp, rfl⟩ := List.mem_map.mp ho
      have e' : endC ls r2 p.2 (r1.fin.getD p.1.toNat none) = some t := e
      obtain ⟨f, hf, e2⟩ := Option.bind_eq_some_iff.mp e'
      obtain ⟨y, hy, e3⟩ := Option.bind_eq_some_iff.mp e2
      obtain ⟨u, hu, rfl⟩ := Option.map_eq_some_iff.mp e3
      obtain ⟨_, b, c⟩ := up (mem_fin (fin_mem hf)) (box p hp).2.1 (box p hp).2.2 hy
      have hum := mem_fin (fin_mem hu)
      refine ⟨app b (g2.2.2.2 _ hum), ?_⟩
      have := s2.t _ hum
      rw [str_len]
      omega
  · obtain ⟨row, hr, hx⟩ := List.mem_flatMap.mp z
    obtain ⟨w, hw, rfl⟩ := List.mem_map.mp hx
    obtain ⟨p, hp, rfl⟩ := List.mem_map.mp hr
    obtain ⟨w1, hw1, e⟩ := List.mem_map.mp (mem_ways.mp hw)
    obtain ⟨w2, rfl, e2⟩ := Option.bind_eq_some_iff.mp e
    obtain ⟨y, hy, rfl⟩ := Option.map_eq_some_iff.mp e2
    obtain ⟨row1, hr1, hm1⟩ := row_mem hw1
    obtain ⟨_, b, c⟩ := up (mem_way hr1 hm1) (box p hp).2.1 (box p hp).2.2 hy
    refine ⟨b, ?_⟩
    show y.2.length ≤ _
    omega
theorem comp_good {ls : Str} {r1 r2 : Parts} {ps : List (Int × Int)} {q0 : Int} {u0 : Str} {B1 B2 n1 n2 : Nat} (g1 : goodR ls r1) (g2 : goodR ls r2) (s1 : SmB B1 n1 r1) (s2 : SmB B2 n2 r2) (box : ∀ p ∈ ps, (0 ≤ p.1 ∧ p.1 < r1.fin.length) ∧ 0 ≤ p.2 ∧ p.2 < r2.fin.length) (cl : ∀ p ∈ ps, closedAt ls r1 r2 ps p) (h0 : 0 < ps.length) (hl : thenF ls r2 0 r1.lead = some (q0, u0)) :
    goodR ls (compC ls r1 r2 (r2.lead ++ u0) ps) := by
  refine ⟨by show 0 < (ps.map _).length; rw [List.length_map]; exact h0, by show (ps.map _).length = (ps.map _).length; rw [List.length_map, List.length_map], fun row hr => ?_, fun t ht => (comp_texts g1 g2 s1 s2 box hl t ht).1⟩
  obtain ⟨p, hp, rfl⟩ := List.mem_map.mp hr
  have hb := (box p hp).1
  have hs : p.1.toNat < r1.tab.length := by have := g1.2.1; omega
  have er : r1.tab.getD p.1.toNat [] = r1.tab[p.1.toNat] := by rw [List.getD_eq_getElem?_getD, List.getElem?_eq_getElem hs]; rfl
  refine ⟨?_, fun w hw => ?_⟩
  · unfold rowC
    rw [List.length_map, er]
    exact (g1.2.2.1 _ (List.getElem_mem hs)).1
  · obtain ⟨w1, hw1, e⟩ := List.mem_map.mp (mem_ways.mp hw)
    obtain ⟨w2, rfl, e2⟩ := Option.bind_eq_some_iff.mp e
    obtain ⟨y, hy, rfl⟩ := Option.map_eq_some_iff.mp e2
    have hm := cl p hp w2 hw1 y hy
    have := List.idxOf_lt_length_iff.mpr hm
    refine ⟨by show (0 : Int) ≤ ((ps.idxOf (w2.1, y.1) : Nat) : Int); omega, ?_⟩
    show ((ps.idxOf (w2.1, y.1) : Nat) : Int) < ((ps.map (finC ls r1 r2)).length : Int)
    rw [List.length_map]
    omega
theorem box_len {ps : List (Int × Int)} {n1 n2 : Nat} (nd : ps.Nodup) (box : ∀ p ∈ ps, (0 ≤ p.1 ∧ p.1 < (n1 : Int)) ∧ 0 ≤ p.2 ∧ p.2 < (n2 : Int)) : ps.length ≤ n1 * n2 := by
  have key : ∀ (l m : List Nat), l.Nodup → (∀ c ∈ l, c ∈ m) → l.length ≤ m.length := by
    intro l
    induction l with
    | nil => intro m _ _; exact Nat.zero_le _
    | cons a l ih =>
      intro m nd h
      obtain ⟨na, nd'⟩ := List.nodup_cons.mp nd
      have ha := h a List.mem_cons_self
      have i := ih (m.erase a) nd' fun c hc => (List.mem_erase_of_ne (fun z => na (by rw [← z]; exact hc))).mpr (h c (List.mem_cons_of_mem _ hc))
      rw [List.length_erase_of_mem ha] at i
      have : 0 < m.length := List.length_pos_of_mem ha
      rw [List.length_cons]
      omega
  have h := key (ps.map fun p => p.1.toNat * n2 + p.2.toNat) (List.range (n1 * n2)) ?_ ?_
  · rw [List.length_map, List.length_range] at h
    exact h
  · refine List.Pairwise.map _ (R := fun a b => a ∈ ps ∧ b ∈ ps ∧ a ≠ b) (fun a b h e => ?_) ?_
    · obtain ⟨ha, hb, ne⟩ := h
      have a1 := box a ha
      have b1 := box b hb
      have e' : a.1.toNat * n2 + a.2.toNat = b.1.toNat * n2 + b.2.toNat := e
      have la : a.2.toNat < n2 := by omega
      have lb : b.2.toNat < n2 := by omega
      have m1 : (a.1.toNat * n2 + a.2.toNat) % n2 = a.2.toNat := by rw [Nat.mul_comm, Nat.mul_add_mod]; exact Nat.mod_eq_of_lt la
      have m2 : (b.1.toNat * n2 + b.2.toNat) % n2 = b.2.toNat := by rw [Nat.mul_comm, Nat.mul_add_mod]; exact Nat.mod_eq_of_lt lb
      have e2 : a.2.toNat = b.2.toNat := by rw [← m1, ← m2, e']
      have e1 : a.1.toNat = b.1.toNat := by
        rw [e2] at e'
        exact Nat.eq_of_mul_eq_mul_right (by omega : 0 < n2) (by omega)
      exact ne (Prod.ext (by omega) (by omega))
    · exact List.Pairwise.imp_of_mem (fun ha hb ne => ⟨ha, hb, ne⟩) nd
  · intro c hc
    obtain ⟨p, hp, rfl⟩ := List.mem_map.mp hc
    have b := box p hp
    rw [List.mem_range]
    have l2 : p.2.toNat < n2 := by omega
    have l1 : p.1.toNat + 1 ≤ n1 := by omega
    have := Nat.mul_le_mul_right n2 l1
    rw [Nat.succ_mul] at this
    omega
section
variable (T : Txt K mg)
def spFinal : Sp := fun vs H Q _ => ∃ (tv : V) (b : Addr) (q : Int) (ls : Str) (r2 : Parts) (f : Option Str), vs = [tv, .ref b, .int q] ∧ Dp K H tv (encO f) ∧ RwAt K T.C_Rewriter H b ls r2 ∧ goodR ls r2 ∧ Bnd r2 ∧ 0 ≤ q ∧ q < r2.fin.length ∧ (∀ s, f = some s → isT ls s ∧ s.length ≤ 1000) ∧
  ∀ H', Ex H H' → Q (match endC ls r2 q f with | none => .non | some u => .str u) H'
theorem ok__final : FnOk P w K mg base CX0 2 T.a__final T.d__final ["text", "second", "place"] (spFinal T) := by
  refine T.f__final.ok sc__final (fun vs H Q E h => ?_) (fun cdv A outer s H vs Q E hr h => ?_)
  · obtain ⟨_, _, _, _, _, _, rfl, _⟩ := h; rfl
  · obtain ⟨tv, b, q0, ls, r2, f, rfl, htv, hM, g, bd, z0, z1, hf, q⟩ := h
    obtain ⟨dx, tf, tt, hm, hF, hT⟩ := id hM
    refine ⟨_, (pss_cons (ps_set (i := 3) sc__final.nd rfl (by first | exact Or.inl rfl | exact Or.inr rfl) (pe_ifExp (pt_cmpR op_isN (pv 0) pe_non (by first | rfl | exact nomark _)) pe_non (pe_meth (pv 1) T.cl_Rewriter T.m_Rewriter_rewrite_from (ok_Rewriter_rewrite_from T) (hr.mono (by decide)) T.b_Rewriter_rewrite_from .nil pass0 (pa_cons (pv 2) (pa_cons (pv 0) pa_nil)))))
  (pss_cons (ps_if (PW.pt (pw_or (pt_cmpR op_isN (pv 3) pe_non (by first | rfl | exact nomark _)) (pw_or1 (pt_cmpR op_isN (pe_ix (kIx K) (kFld K rfl (pe_fld (pv 1) rfl)) (pe_ix (kIx K) (pv 3) pe_int (fun _ _ => rfl)) (fun _ _ => rfl)) pe_non (by first | rfl | exact nomark _)))))
    (pss_one (ps_ret pe_non))
    pss_nil)
  (pss_one (ps_ret (pe_op (kAdd K) (pe_ix (kIx K) (pv 3) pe_int (fun _ _ => rfl)) (pe_ix (kIx K) (kFld K rfl (pe_fld (pv 1) rfl)) (pe_ix (kIx K) (pv 3) pe_int (fun _ _ => rfl)) (fun _ _ => rfl))))))), ?_⟩
    walk_at "rc"
    refine rd_ife ?_
    walk_at "rc"
    cases f with
    | none =>
      cases Dp.non_iff htv
      refine rd_itet (by decide) ?_
      walk_at "rc"
      walk_at "rs"
      walk_at "rc"
      refine rd_itet (by decide) ?_
      walk_at "rc"
      exact q H (Evl.Ex.refl H)
    | some s0 =>
      cases Dp.str_iff htv
      obtain ⟨fT, fl⟩ := hf s0 rfl
      refine rd_itef (decide_eq_false fun z => nomatch z) ?_
      walk_at "rc"
      refine ⟨b, dx, _, rfl, hm, rfl, ?_⟩
      walk_at "rc"
      refine ⟨b, ls, s0, q0, r2, rfl, hM, g, bd, z0, z1, fT, by omega, fun hn H1 e1 => ?_, fun z hz q1 H1 e1 _ hq1 => ?_⟩
      · walk_at "rc"
        walk_at "rs"
        walk_at "rc"
        refine rd_itet (by decide) ?_
        walk_at "rc"
        have := q H1 e1
        unfold endC thenF at this
        have hn' : rwF ls r2.tab q0 s0.cps.toList = none := hn
        rw [Option.bind_some, hn'] at this
        exact this
      · obtain ⟨a0, a1, al, ai⟩ := rwF_in g bd z0 z1 fT (by omega) hz
        obtain ⟨n, hn⟩ := Int.eq_ofNat_of_zero_le a0
        have hnl : n < r2.fin.length := by omega
        have tq : SqT K H1 q1 [.int z.1, .str z.2] := Evl.st_of hq1
        have due := q
        unfold endC thenF at due
        rw [Option.bind_some, hz, Option.bind_some, hn, Int.toNat_natCast, List.getD_eq_getElem?_getD, List.getElem?_eq_getElem hnl, Option.getD_some] at due
        walk_at "rc"
        walk_at "rs"
        walk_at "rc"
        refine rd_itef (decide_eq_false fun z => nomatch z) ?_
        walk_at "rc"
        refine ⟨b, _, dx, _, _, rfl, e1 _ _ hm, T.cl_Rewriter, T.na_Rewriter_finals, rfl, ?_⟩
        walk_at "rc"
        refine rd_ixT (v := .int z.1) tq (atI_nat (j := 0) rfl) ?_
        rw [hn]
        refine rd_ixDT e1 hF (d := encO r2.fin[n]) (by rw [List.getElem?_map, List.getElem?_eq_getElem hnl]; rfl) fun v hv => ?_
        walk_at "rc"
        cases ho : r2.fin[n] with
        | none =>
          rw [ho] at hv due
          cases Dp.non_iff hv
          refine rd_itet (by decide) ?_
          walk_at "rc"
          exact due H1 e1
        | some u =>
          rw [ho] at hv due
          cases Dp.str_iff hv
          have lu := bd.t u (mem_fin (ho ▸ List.getElem_mem hnl))
          refine rd_itef (decide_eq_false fun z => nomatch z) ?_
          walk_at "rc"
          refine rd_ixT (v := .str z.2) tq (atI_nat (j := 1) rfl) ?_
          have sl : sizeLine ≥ 16000000 := by decide
          walk_at "rc"
          refine ⟨b, _, dx, _, _, rfl, e1 _ _ hm, T.cl_Rewriter, T.na_Rewriter_finals, rfl, ?_⟩
          walk_at "rc"
          refine rd_ixT (v := .int z.1) tq (atI_nat (j := 0) rfl) ?_
          rw [hn]
          refine rd_ixDT e1 hF (d := encO r2.fin[n]) (by rw [List.getElem?_map, List.getElem?_eq_getElem hnl]; rfl) fun v2 hv2 => ?_
          rw [ho] at hv2
          cases Dp.str_iff hv2
          refine rd_addS (by omega) ?_
          exact due H1 e1
/-- the dict of the pairs' numbers -/
def pk (p : Int × Int) : List Key := [.inl p.1, .inl p.2]
theorem pk_inj {p p' : Int × Int} (h : pk p = pk p') : p = p' := by
  unfold pk at h
  simp only [List.cons.injEq, Sum.inl.injEq, and_true] at h
  exact Prod.ext h.1 h.2
structure DictP (kvs : List (List Key × V)) (ps : List (Int × Int)) : Prop where
  l : kvs.length ≤ ps.length
  y : ∀ p, p ∈ ps → valV kvs (pk p) = some (.int (ps.idxOf p : Nat))
  n : ∀ p, p ∉ ps → valV kvs (pk p) = none
theorem DictP.put {kvs : List (List Key × V)} {ps : List (Int × Int)} {p : Int × Int} (h : DictP kvs ps) (hp : p ∉ ps) : DictP (putK kvs (pk p) (.int (ps.length : Nat))) (ps ++ [p]) := by
  refine ⟨?_, fun x hx => ?_, fun x hx => ?_⟩
  · have := length_putK kvs (pk p) (.int (ps.length : Nat))
    have := h.l
    rw [List.length_append, List.length_singleton]
    omega
  · rw [valV_put]
    by_cases e : x = p
    · subst e
      rw [if_pos rfl, List.idxOf_append, if_neg hp]
      simp
    · rw [if_neg fun z => e (pk_inj z)]
      have hm : x ∈ ps := by
        rcases List.mem_append.mp hx with z | z
        · exact z
        · exact absurd (List.mem_singleton.mp z) e
      rw [h.y x hm, List.idxOf_append, if_pos hm]
  · rw [valV_put]
    have h1 : x ∉ ps := fun z => hx (List.mem_append.mpr (.inl z))
    have h2 : x ≠ p := fun z => hx (List.mem_append.mpr (.inr (List.mem_singleton.mpr z)))
    rw [if_neg fun z => h2 (pk_inj z)]
    exact h.n x h1
def encP (p : Int × Int) : PyData := .tuple [.int p.1, .int p.2]
def rowL (row : List Way) : PyData := .list (row.map encW)
/-- what stands while in_turn works -/
structure IT (K : PySem.W.Frag) (S : List Addr) (H0 H : Hp) (D Lp Lf Lt : Addr) (ps : List (Int × Int)) (fs : List (Option Str)) (rows : List (List Way)) : Prop where
  ex : Ex H0 H
  fr : ∀ b ∈ S, H0 b = none
  inS : D ∈ S ∧ Lp ∈ S ∧ Lf ∈ S ∧ Lt ∈ S
  ne : Lp ≠ Lf ∧ Lp ≠ Lt ∧ Lf ≠ Lt
  st : ∀ b ∈ S, ∃ o, H b = some o
  lp : ∃ pv, H Lp = some (.lst pv) ∧ DpAll K (hid S H) pv (ps.map encP)
  d : ∃ kvs, H D = some (.dT kvs) ∧ DictP kvs ps
  lf : ∃ fv, H Lf = some (.lst fv) ∧ DpAll K (hid S H) fv (fs.map encO)
  lt : ∃ tv, H Lt = some (.lst tv) ∧ DpAll K (hid S H) tv (rows.map rowL)
section
variable {S : List Addr} {H0 H H' : Hp} {D Lp Lf Lt : Addr} {ps : List (Int × Int)} {fs : List (Option Str)} {rows : List (List Way)}
theorem IT.go (h : IT K S H0 H D Lp Lf Lt ps fs rows) (e : Ex H H') : IT K S H0 H' D Lp Lf Lt ps fs rows := by
  obtain ⟨a, b, c, ne, s, ⟨pv, p1, p2⟩, ⟨kvs, d1, d2⟩, ⟨fv, f1, f2⟩, ⟨tv, t1, t2⟩⟩ := h
  exact ⟨a.trans e, b, c, ne, sts_ex s e, ⟨pv, e _ _ p1, p2.ex (Ex.hid e)⟩, ⟨kvs, e _ _ d1, d2⟩, ⟨fv, e _ _ f1, f2.ex (Ex.hid e)⟩, ⟨tv, e _ _ t1, t2.ex (Ex.hid e)⟩⟩
/-- one more list that is hidden -/
theorem IT.hide {q : Addr} {o : HO} (h : IT K S H0 H D Lp Lf Lt ps fs rows) (hq : H q = none) : IT K (q :: S) H0 (upd H q o) D Lp Lf Lt ps fs rows := by
  obtain ⟨a, b, ⟨c1, c2, c3, c4⟩, ne, s, ⟨pv, p1, p2⟩, ⟨kvs, d1, d2⟩, ⟨fv, f1, f2⟩, ⟨tv, t1, t2⟩⟩ := h
  have e : Ex H (upd H q o) := Evl.Ex.new hq
  have up : Ex (hid S H) (hid (q :: S) (upd H q o)) := (Kp.of_ex (S := S) e).up fun b hb hn => by
    rcases List.mem_cons.mp hb with z | z
    · rw [z]; exact hq
    · exact absurd z hn
  refine ⟨a.trans e, fun x hx => ?_, ⟨List.mem_cons_of_mem _ c1, List.mem_cons_of_mem _ c2, List.mem_cons_of_mem _ c3, List.mem_cons_of_mem _ c4⟩, ne, fun x hx => ?_, ⟨pv, e _ _ p1, p2.ex up⟩, ⟨kvs, e _ _ d1, d2⟩, ⟨fv, e _ _ f1, f2.ex up⟩, ⟨tv, e _ _ t1, t2.ex up⟩⟩
  · rcases List.mem_cons.mp hx with z | z
    · rw [z]; exact Evl.fresh_back a hq
    · exact b x z
  · rcases List.mem_cons.mp hx with z | z
    · rw [z]; exact ⟨_, upd_same⟩
    · exact sts_ex s e x z
theorem IT.show' {q : Addr} (h : IT K (q :: S) H0 H D Lp Lf Lt ps fs rows) (hi : D ∈ S ∧ Lp ∈ S ∧ Lf ∈ S ∧ Lt ∈ S) : IT K S H0 H D Lp Lf Lt ps fs rows := by
  obtain ⟨a, b, _, ne, s, ⟨pv, p1, p2⟩, ⟨kvs, d1, d2⟩, ⟨fv, f1, f2⟩, ⟨tv, t1, t2⟩⟩ := h
  exact ⟨a, fun x hx => b x (List.mem_cons_of_mem _ hx), hi, ne, fun x hx => s x (List.mem_cons_of_mem _ hx), ⟨pv, p1, p2.ex hid_tail⟩, ⟨kvs, d1, d2⟩, ⟨fv, f1, f2.ex hid_tail⟩, ⟨tv, t1, t2.ex hid_tail⟩⟩
/-- a hidden list changes -/
theorem IT.put {q : Addr} {o : HO} (h : IT K S H0 H D Lp Lf Lt ps fs rows) (hq : q ∈ S) (n1 : D ≠ q) (n2 : Lp ≠ q) (n3 : Lf ≠ q) (n4 : Lt ≠ q) : IT K S H0 (upd H q o) D Lp Lf Lt ps fs rows := by
  obtain ⟨a, b, c, ne, s, ⟨pv, p1, p2⟩, ⟨kvs, d1, d2⟩, ⟨fv, f1, f2⟩, ⟨tv, t1, t2⟩⟩ := h
  have k := (Kp.put (H := H) (o := o) hq).ex
  refine ⟨Evl.Ex.mut a (b q hq), b, c, ne, fun x hx => ?_, ⟨pv, by rw [upd_ne n2]; exact p1, p2.ex k⟩, ⟨kvs, by rw [upd_ne n1]; exact d1, d2⟩, ⟨fv, by rw [upd_ne n3]; exact f1, f2.ex k⟩, ⟨tv, by rw [upd_ne n4]; exact t1, t2.ex k⟩⟩
  by_cases z : x = q
  · rw [z]; exact ⟨_, upd_same⟩
  · rw [upd_ne z]; exact s x hx
theorem IT.dne (h : IT K S H0 H D Lp Lf Lt ps fs rows) : D ≠ Lp ∧ D ≠ Lf ∧ D ≠ Lt := by
  obtain ⟨_, _, _, _, _, ⟨pv, p1, _⟩, ⟨kvs, d1, _⟩, ⟨fv, f1, _⟩, ⟨tv, t1, _⟩⟩ := h
  exact ⟨(fun z => by rw [z, p1] at d1; cases d1), (fun z => by rw [z, f1] at d1; cases d1), (fun z => by rw [z, t1] at d1; cases d1)⟩
/-- an end more -/
theorem IT.fin {f : Option Str} {v : V} {fv : List V} (h : IT K S H0 H D Lp Lf Lt ps fs rows) (hf : H Lf = some (.lst fv)) (hfd : DpAll K (hid S H) fv (fs.map encO)) (hv : Dp K (hid S H) v (encO f)) : IT K S H0 (upd H Lf (.lst (fv ++ [v]))) D Lp Lf Lt ps (fs ++ [f]) rows := by
  have dn := h.dne
  obtain ⟨a, b, c, ne, s, ⟨pv, p1, p2⟩, ⟨kvs, d1, d2⟩, _, ⟨tv, t1, t2⟩⟩ := h
  have k := (Kp.put (H := H) (o := .lst (fv ++ [v])) c.2.2.1).ex
  refine ⟨Evl.Ex.mut a (b Lf c.2.2.1), b, c, ne, fun x hx => ?_, ⟨pv, by rw [upd_ne ne.1]; exact p1, p2.ex k⟩, ⟨kvs, by rw [upd_ne dn.2.1]; exact d1, d2⟩, ⟨_, upd_same, ?_⟩, ⟨tv, by rw [upd_ne (Ne.symm ne.2.2)]; exact t1, t2.ex k⟩⟩
  · by_cases z : x = Lf
    · rw [z]; exact ⟨_, upd_same⟩
    · rw [upd_ne z]; exact s x hx
  · rw [List.map_append]
    exact (hfd.snoc hv).ex k
/-- a row more -/
theorem IT.tab {row : List Way} {v : V} {tv : List V} (h : IT K S H0 H D Lp Lf Lt ps fs rows) (ht : H Lt = some (.lst tv)) (htd : DpAll K (hid S H) tv (rows.map rowL)) (hv : Dp K (hid S H) v (rowL row)) : IT K S H0 (upd H Lt (.lst (tv ++ [v]))) D Lp Lf Lt ps fs (rows ++ [row]) := by
  have dn := h.dne
  obtain ⟨a, b, c, ne, s, ⟨pv, p1, p2⟩, ⟨kvs, d1, d2⟩, ⟨fv, f1, f2⟩, _⟩ := h
  have k := (Kp.put (H := H) (o := .lst (tv ++ [v])) c.2.2.2).ex
  refine ⟨Evl.Ex.mut a (b Lt c.2.2.2), b, c, ne, fun x hx => ?_, ⟨pv, by rw [upd_ne ne.2.1]; exact p1, p2.ex k⟩, ⟨kvs, by rw [upd_ne dn.2.2]; exact d1, d2⟩, ⟨fv, by rw [upd_ne ne.2.2]; exact f1, f2.ex k⟩, ⟨_, upd_same, ?_⟩⟩
  · by_cases z : x = Lt
    · rw [z]; exact ⟨_, upd_same⟩
    · rw [upd_ne z]; exact s x hx
  · rw [List.map_append]
    exact (htd.snoc hv).ex k
/-- a pair more -/
theorem IT.pair {q : Addr} {p : Int × Int} {kvs : List (List Key × V)} {pv : List V} (h : IT K S H0 H D Lp Lf Lt ps fs rows) (hp : p ∉ ps) (hd : H D = some (.dT kvs)) (hdp : DictP kvs ps) (hl : H Lp = some (.lst pv)) (hlp : DpAll K (hid S H) pv (ps.map encP)) (hq : Dp K (hid S H) (.ref q) (encP p)) :
    IT K S H0 (upd (upd H D (.dT (putK kvs (pk p) (.int (ps.length : Nat))))) Lp (.lst (pv ++ [.ref q]))) D Lp Lf Lt (ps ++ [p]) fs rows := by
  have dn := h.dne
  obtain ⟨a, b, ⟨c1, c2, c3, c4⟩, ⟨m1, m2, m3⟩, s, _, _, ⟨fv, f1, f2⟩, ⟨tv, t1, t2⟩⟩ := h
  have k1 : Kp S H (upd H D (.dT (putK kvs (pk p) (.int (ps.length : Nat))))) := Kp.put c1
  have k := (k1.trans (Kp.put (q := Lp) (o := .lst (pv ++ [.ref q])) c2)).ex
  refine ⟨Evl.Ex.mut (Evl.Ex.mut a (b D c1)) (b Lp c2), b, ⟨c1, c2, c3, c4⟩, ⟨m1, m2, m3⟩, fun x hx => ?_, ⟨_, upd_same, ?_⟩, ⟨_, by rw [upd_ne dn.1, upd_same], hdp.put hp⟩, ⟨fv, by rw [upd_ne (Ne.symm m1), upd_ne (Ne.symm dn.2.1)]; exact f1, f2.ex k⟩, ⟨tv, by rw [upd_ne (Ne.symm m2), upd_ne (Ne.symm dn.2.2)]; exact t1, t2.ex k⟩⟩
  · by_cases z : x = Lp
    · rw [z]; exact ⟨_, upd_same⟩
    · rw [upd_ne z]
      by_cases z2 : x = D
      · rw [z2]; exact ⟨_, upd_same⟩
      · rw [upd_ne z2]; exact s x hx
  · rw [List.map_append]
    exact (hlp.snoc hq).ex k
end
end
/-! ### drawing, with data -/
/-- a list that was not there may change -/
theorem Dr.put {p r : Addr} {H H' : Hp} {o : HO} (hS : StAt H p) (d : Dr p H H') (hr : H r = none) : Dr p H (upd H' r o) := by
  obtain ⟨l, ns, pl, h1, h2, _⟩ := hS
  have nS : ∀ b u, b ≠ r → H' b = some u → upd H' r o b = some u := fun b u hb z => by rw [upd_ne hb]; exact z
  have rp : p ≠ r := ne_of_none h1 hr
  obtain ⟨n1, e1⟩ := d.inn l _ h1
  refine ⟨?_, fun b u hb z => nS _ _ (ne_of_none z hr) (d.old b u hb z), fun l2 n2 e2 => ?_⟩
  · obtain ⟨l3, ns3, pl3, g1, g2, g3⟩ := d.st
    rw [e1] at g1
    have e4 := (List.cons.inj (HO.lst.inj (Option.some.inj g1))).1
    have e5 : l = l3 := by cases e4; rfl
    subst e5
    refine ⟨l, ns3, pl3, nS _ _ rp ?_, nS _ _ (ne_of_none h2 hr) g2, g3⟩
    rw [e1, g1]
  · obtain ⟨n3, e3⟩ := d.inn l2 n2 e2
    exact ⟨n3, nS _ _ rp e3⟩
theorem Dr.back {p r : Addr} {H H' : Hp} (hS : StAt H p) (d : Dr p H H') (h : H' r = none) : H r = none := by
  cases q : H r with
  | none => rfl
  | some o =>
    by_cases e : r = p
    · subst e
      obtain ⟨o2, h2⟩ := d.st.some
      rw [h] at h2; cases h2
    · rw [d.old r o e q] at h; cases h
theorem Dr.kp {p : Addr} {S : List Addr} {H H' : Hp} (d : Dr p H H') (hp : p ∈ S) : Kp S H H' := fun b o hb q => d.old b o (fun z => hb (z ▸ hp)) q
theorem Dr.st' {p c : Addr} {H H' : Hp} (d : Dr p H H') (h : ∃ o, H c = some o) : ∃ o, H' c = some o := by
  obtain ⟨o, h⟩ := h
  by_cases e : c = p
  · rw [e]; exact d.st.some
  · exact ⟨o, d.old c o e h⟩
theorem tr_dr {p : Addr} {S : List Addr} {H : Hp} (hS : StAt H p) (hp : p ∈ S) : Tr S H (Dr p) :=
  ⟨Dr.refl hS, fun d => Dr.refl d.st, fun d h => d.st' h, fun a b => a.trans b, fun h d => d.put hS h, fun d => d.kp hp⟩
theorem map_ofD {α : Type} {f : α → PyData} {S : α → Prop} : ∀ (vs : List PyData), (∀ (i : Nat) v, vs[i]? = some v → ∃ a, v = f a ∧ S a) → ∃ as : List α, vs = as.map f ∧ ∀ a ∈ as, S a
  | [], _ => ⟨[], rfl, fun a h => by cases h⟩
  | v :: vs, h => by
    obtain ⟨a, e, s⟩ := h 0 v rfl
    obtain ⟨as, e2, s2⟩ := map_ofD vs fun i v hv => h (i + 1) v (by simpa using hv)
    exact ⟨a :: as, by rw [e, e2]; rfl, fun b hb => by
      rcases List.mem_cons.mp hb with z | z
      · rw [z]; exact s
      · exact s2 b z⟩
theorem rng_Y {n : Nat} : ∀ (i : Nat) (H : Hp) (x : V) (H' : Hp), i < n → (H' = H ∧ x = V.int (i : Nat)) → H' = H ∧ (x = V.int (i : Nat)) := fun _ _ _ _ _ y => y
/-- a drawn word -/
def spWord : Sp := fun vs H Q _ => ∃ (p : Addr) (ls : Str) (most : Nat), vs = [.str ls, .ref p, .int (most : Int)] ∧ 0 < ls.length ∧ ls.length ≤ 1000 ∧ most ≤ 1000 ∧ StAt H p ∧ ∀ (t : Str) (H' : Hp), isT ls t → t.length ≤ most → Dr p H H' → Q (.str t) H'
theorem ok_word (T : Txt K mg) : FnOk P w K mg base CX0 2 T.a_word T.d_word ["letters", "state", "most"] spWord := by
  refine T.f_word.ok sc_word (fun vs H Q E h => ?_) (fun cdv A outer s H vs Q E hr h => ?_)
  · obtain ⟨_, _, _, rfl, _⟩ := h; rfl
  · obtain ⟨p, ls, most, rfl, l0, l1, hm, hS, q⟩ := h
    have lz : ls.length ≤ sizeLine := Nat.le_trans l1 (by decide)
    refine ⟨_, (pss_one (ps_ret (kBm K rfl (pe_bm PySem.F.plainAttrs_str PySem.F.slot_str_join PySem.F.type_str_join (kJoin K) pe_str (pa_cons (pe_lc (own := [("k", 3)]) (g := gName 3) (tt := tYes) (by rfl) sc_word.nd (pi_range1 (by rfl) T.nb_range (pa_cons (pe_callE (ok_next T) (hr.mono (by decide)) T.o_next (pa_cons (pv 1) (pa_cons (pe_op (kAdd K) (pv 2) pe_int) pa_nil))) pa_nil)) (blkOk_by (own := [("k", 3)]) (N := ["letters", "state", "most", "k"]) (sc := defScope s_word) (by decide +kernel)) (fun _ _ _ _ _ => (pg_name (i := 3) sc_word.nd rfl (by first | exact Or.inl rfl | exact Or.inr rfl))) (fun _ _ _ _ _ => pts_nil) (fun _ _ _ _ _ => (pe_ix (kIx K) (pv 0) (pe_callE (ok_next T) (hr.mono (by decide)) T.o_next (pa_cons (pv 1) (pa_cons (pe_callB (kLen K) (by rfl) T.nb_len (by decide +kernel) (pa_cons (pv 0) pa_nil)) pa_nil))) (fun _ _ => rfl)))) pa_nil))))), ?_⟩
    walk_at "rc"
    refine ⟨rfl, ?_⟩
    walk_at "rc"
    refine ⟨p, _, rfl, by omega, hS, fun nn H1 r0 r1 S1 o1 i1 => ?_⟩
    have d1 : Dr p H H1 := ⟨S1, o1, i1.2⟩
    walk_at "rc"
    refine ⟨nn, rfl, by omega, by omega, ?_⟩
    refine lc_R (K := K) (S := [p]) (P := fun i x => x = V.int (i : Nat)) (tr_dr S1 List.mem_cons_self) (st1 S1.some.choose_spec) walk_range0 rng_Y (by omega) (fun _ _ => True.intro) (fun i d => ∃ c : Nat, d = .str ⟨#[c]⟩ ∧ c ∈ ls.cps.toList) (hg_name fun v => rfl) (fun L i σ2 Hc hi p2 hL nL dc hs up N hN => ?_) fun L us Hc ds dc hL nL hus hds hlen hR => ?_
    · obtain ⟨v, rfl, rfl⟩ := p2
      walk_at "rc"
      refine rd_lenS lz ?_
      refine ⟨p, _, rfl, by omega, dc.st, fun r H3 q0 q1 S3' o3' i3' => ?_⟩
      obtain ⟨c, hc, cm⟩ := at_str (z := ls) q0 q1
      refine rd_ixS lz hc ?_
      exact hN _ _ _ ⟨S3', o3', i3'.2⟩ (.str _) ⟨c, rfl, cm⟩
    · obtain ⟨cs, rfl, hcs⟩ := map_ofD (f := fun c : Nat => PyData.str ⟨#[c]⟩) ds hR
      have es : cs.map (fun c : Nat => PyData.str ⟨#[c]⟩) = (cs.map fun c => (⟨#[c]⟩ : Str)).map PyData.str := by rw [List.map_map]; rfl
      rw [List.length_map] at hlen
      rw [es] at hds
      have eu := dp_strs hds
      subst eu
      walk_at "rc"
      refine ⟨"", L, _, rfl, rfl, .inl (SqL.of hus), ?_, ?_⟩
      · rw [sum_signs, List.length_map]
        have e0 : (Str.ofString "").length = 0 := by decide +kernel
        rw [e0]
        omega
      have et := join_signs cs
      have el : (Txt.join "" (cs.map fun c => (⟨#[c]⟩ : Str))).length = cs.length := by
        show (Txt.join "" (cs.map fun c => (⟨#[c]⟩ : Str))).cps.toList.length = cs.length
        rw [et]
      exact q _ Hc (fun c hc => hcs c (by rw [← et]; exact hc)) (by rw [el]; omega) (d1.trans dc)
section
variable (T : Txt K mg)
theorem made_ex {C x dx : Addr} {H H' : Hp} (hx : H x = none) (hd : H dx = none) (ne : dx ≠ x) (k : Kp [x] (upd (upd H dx (.own x)) x (.ins C dx [])) H') : Ex H H' := fun b o q =>
  k b o (fun z => ne_of_none q hx (List.mem_singleton.mp z)) (by rw [upd_ne (ne_of_none q hx), upd_ne (ne_of_none q hd)]; exact q)
theorem upd2_ex {C x dx : Addr} {H : Hp} (hx : H x = none) (hd : H dx = none) : Ex H (upd (upd H dx (.own x)) x (.ins C dx [])) := fun b o q => by
  rw [upd_ne (ne_of_none q hx), upd_ne (ne_of_none q hd)]; exact q
theorem rowsD_L (tab : List (List Way)) : RowsD (tab.map rowL) tab := ⟨List.length_map .., fun i d row h1 h2 => by
  rw [List.getElem?_map, h2] at h1
  exact .inl (Option.some.inj h1).symm⟩
theorem wayC_more {ls : Str} {r2 : Parts} {ps : List (Int × Int)} {x : Int × Int} {q : Int} {w : Way} (h : ∀ w', w = some w' → ∀ z, thenF ls r2 q w'.2 = some z → (w'.1, z.1) ∈ ps) : wayC ls r2 (ps ++ [x]) q w = wayC ls r2 ps q w := by
  cases w with
  | none => rfl
  | some w' =>
    show (thenF ls r2 q w'.2).map _ = (thenF ls r2 q w'.2).map _
    cases hz : thenF ls r2 q w'.2 with
    | none => rfl
    | some z =>
      show some (((List.idxOf (w'.1, z.1) (ps ++ _) : Nat) : Int), z.2) = some (((List.idxOf (w'.1, z.1) ps : Nat) : Int), z.2)
      rw [List.idxOf_append, if_pos (h w' rfl z hz)]
theorem wayC_pre {ls : Str} {r2 : Parts} {ps : List (Int × Int)} {q : Int} {w : Way} (h : ∀ w', w = some w' → ∀ z, thenF ls r2 q w'.2 = some z → (w'.1, z.1) ∈ ps) : ∀ more : List (Int × Int), wayC ls r2 (ps ++ more) q w = wayC ls r2 ps q w := by
  intro more
  cases w with
  | none => rfl
  | some w' =>
    show (thenF ls r2 q w'.2).map _ = (thenF ls r2 q w'.2).map _
    cases hz : thenF ls r2 q w'.2 with
    | none => rfl
    | some z =>
      show some (((List.idxOf (w'.1, z.1) (ps ++ _) : Nat) : Int), z.2) = some (((List.idxOf (w'.1, z.1) ps : Nat) : Int), z.2)
      rw [List.idxOf_append, if_pos (h w' rfl z hz)]
theorem rowC_pre {ls : Str} {r1 r2 : Parts} {ps more : List (Int × Int)} {p : Int × Int} (h : closedAt ls r1 r2 ps p) : rowC ls r1 r2 (ps ++ more) p = rowC ls r1 r2 ps p := by
  unfold rowC
  refine List.map_congr_left fun w hw => ?_
  exact wayC_pre (fun w' e z hz => h w' (by rw [← e]; exact hw) z hz) more
theorem comp_none {ls : Str} {r1 r2 : Parts} (h : thenF ls r2 0 r1.lead = none) (t : List Nat) : ((rwM ls r1 t).bind fun u => rwM ls r2 u.cps.toList) = none := by
  cases hu : rwM ls r1 t with
  | none => rfl
  | some u =>
    unfold rwM at hu
    obtain ⟨z, _, hu⟩ := Option.bind_eq_some_iff.mp hu
    obtain ⟨f, _, rfl⟩ := Option.map_eq_some_iff.mp hu
    show rwM ls r2 (r1.lead ++ z.2 ++ f).cps.toList = none
    have e : rwF ls r2.tab 0 (r1.lead ++ z.2 ++ f).cps.toList = none := by
      show thenF ls r2 0 (r1.lead ++ z.2 ++ f) = none
      rw [thenF_app, thenF_app, h]
      rfl
    unfold rwM
    rw [e]
    rfl
def nopeR (n : Nat) : Parts := ⟨"", [none], [List.replicate n none]⟩
theorem nope_all (n : Nat) : allTexts (nopeR n) = [("" : Str)] := by
  have e : textsOf (List.replicate n (none : Way)) = [] := by
    have : waysOf (List.replicate n (none : Way)) = [] := by
      unfold waysOf
      rw [List.filterMap_eq_nil_iff]
      intro a ha
      rw [(List.mem_replicate.mp ha).2]; rfl
    unfold textsOf
    rw [this]; rfl
  show ("" : Str) :: [] ++ (textsOf (List.replicate n none) ++ []) = _
  rw [e]; rfl
theorem nope_good {ls : Str} : goodR ls (nopeR ls.length) := by
  refine ⟨Nat.zero_lt_one, rfl, fun row hr => ?_, fun t ht => ?_⟩
  · rw [List.mem_singleton.mp hr]
    refine ⟨List.length_replicate, fun w hw => ?_⟩
    have := (List.mem_replicate.mp (mem_ways.mp hw)).2
    cases this
  · rw [nope_all] at ht
    rw [List.mem_singleton.mp ht]
    exact fun c hc => (nomatch hc)
theorem nope_smb (n B m : Nat) (h : max 1 n ≤ m) : SmB B m (nopeR n) := by
  refine ⟨fun t ht => ?_, ?_, ?_, fun row hr => ?_⟩
  · rw [nope_all] at ht
    rw [List.mem_singleton.mp ht]
    exact Nat.zero_le _
  · show 1 ≤ m
    omega
  · show 1 ≤ m
    omega
  · rw [List.mem_singleton.mp hr, List.length_replicate]
    omega
theorem nope_run {ls : Str} (n : Nat) (t : List Nat) : rwM ls (nopeR n) t = none := by
  unfold rwM
  cases rwF ls (nopeR n).tab 0 t with
  | none => rfl
  | some z =>
    show ((([none] : List (Option Str)).getD z.1.toNat none).map _) = none
    have : ([none] : List (Option Str)).getD z.1.toNat none = none := by
      rcases z.1.toNat with _ | k <;> rfl
    rw [this]
    rfl
/-- in_turn(first, second) -/
def spTurn : Sp := fun vs H Q _ => ∃ (a b : Addr) (ls : Str) (r1 r2 : Parts) (B1 B2 n1 n2 : Nat), vs = [.ref a, .ref b] ∧ 0 < ls.length ∧ ls.length ≤ 300 ∧ RwAt K T.C_Rewriter H a ls r1 ∧ RwAt K T.C_Rewriter H b ls r2 ∧ goodR ls r1 ∧ goodR ls r2 ∧ SmB B1 n1 r1 ∧ SmB B2 n2 r2 ∧ B1 ≤ 300 ∧ B2 ≤ 300 ∧ B2 + B1 * B2 ≤ 1000 ∧ n1 ≤ 300 ∧ n2 ≤ 300 ∧ n1 * n2 ≤ 300 ∧ 0 < n1 * n2 ∧
  ∀ (x : Addr) (r : Parts) (H' : Hp), Ex H H' → RwAt K T.C_Rewriter H' x ls r → goodR ls r → SmB (B2 + B1 * B2) (max (n1 * n2) ls.length) r → (∀ t : List Nat, (∀ c ∈ t, c ∈ ls.cps.toList) → rwM ls r t = (rwM ls r1 t).bind fun u => rwM ls r2 u.cps.toList) → Q (.ref x) H'
theorem ok_in_turn : FnOk P w K mg base (L2.CX P w) 7 T.a_in_turn T.d_in_turn ["first", "second"] (spTurn T) := by
  refine T.f_in_turn.okX sc_in_turn (fun vs H Q E h => ?_) (fun cdv A outer s H vs Q E hr h => ?_)
  · obtain ⟨_, _, _, _, _, _, _, _, _, rfl, _⟩ := h; rfl
  · obtain ⟨a, b, ls, r1, r2, B1, B2, n1, n2, rfl, l0, l1, hA, hB, g1, g2, s1, s2, b1, b2, b3, hn1, hn2, hn, hn0, q⟩ := h
    obtain ⟨dx1, tf1, tt1, hm1, hF1, hT1⟩ := id hA
    obtain ⟨dx2, tf2, tt2, hm2, hF2, hT2⟩ := id hB
    have bd1 := s1.bnd (by omega) hn1
    have bd2 := s2.bnd (by omega) hn2
    have f1 := g1.1
    have f2 := g2.1
    have lz : ls.length ≤ sizeLine := Nat.le_trans l1 (by decide)
    have lt1 : isT ls r1.lead := g1.2.2.2 _ mem_lead
    have ll1 := s1.t _ (mem_lead (r := r1))
    have ll2 := s2.t _ (mem_lead (r := r2))
    refine ⟨_, (pss_cons (ps_set (i := 2) sc_in_turn.nd rfl (by first | exact Or.inl rfl | exact Or.inr rfl) (pe_meth (pv 1) T.cl_Rewriter T.m_Rewriter_rewrite_from (ok_Rewriter_rewrite_from T) (hr.mono (by decide)) T.b_Rewriter_rewrite_from .nil pass0 (pa_cons pe_int (pa_cons (kFld K rfl (pe_fld (pv 0) rfl)) pa_nil))))
  (pss_cons (ps_if (pt_cmpR op_isN (pv 2) pe_non (by first | rfl | exact nomark _))
    (pss_one (ps_ret (pe_makeR T.mk_Rewriter (ok_Rewriter_init T) (hr.mono (by decide)) T.g_Rewriter T.b_Rewriter_init (takes_of rfl rfl rfl rfl) (pa_cons (kFld K rfl (pe_fld (pv 0) rfl)) (pa_cons pe_str (pa_cons (pe_lst (pa_cons pe_non pa_nil)) (pa_cons (pe_lst (pa_cons (pe_op op_rep (pe_lst (pa_cons pe_non pa_nil)) (pe_callB (kLen K) (by rfl) T.nb_len (by decide +kernel) (pa_cons (kFld K rfl (pe_fld (pv 0) rfl)) pa_nil))) pa_nil)) pa_nil)))))))
    pss_nil)
  (pss_cons (ps_set (i := 3) sc_in_turn.nd rfl (by first | exact Or.inl rfl | exact Or.inr rfl) (pe_tup (pa_cons pe_int (pa_cons (pe_ix (kIx K) (pv 2) pe_int (fun _ _ => rfl)) pa_nil))))
  (pss_cons (ps_set (i := 4) sc_in_turn.nd rfl (by first | exact Or.inl rfl | exact Or.inr rfl) (pe_disp1T (hu_of hr) (pv 3) pe_int))
  (pss_cons (ps_set (i := 5) sc_in_turn.nd rfl (by first | exact Or.inl rfl | exact Or.inr rfl) (pe_lst (pa_cons (pv 3) pa_nil)))
  (pss_cons (ps_set (i := 6) sc_in_turn.nd rfl (by first | exact Or.inl rfl | exact Or.inr rfl) (pe_lst pa_nil))
  (pss_cons (ps_set (i := 7) sc_in_turn.nd rfl (by first | exact Or.inl rfl | exact Or.inr rfl) (pe_lst pa_nil))
  (pss_cons (ps_while (passes_of rfl) (pt_cmpR op_ltP (pe_callB (kLen K) (by rfl) T.nb_len (by decide +kernel) (pa_cons (pv 7) pa_nil)) (pe_callB (kLen K) (by rfl) T.nb_len (by decide +kernel) (pa_cons (pv 5) pa_nil)) (by first | rfl | exact nomark _))
    (pss_cons (ps_asg (pe_ix (kIx K) (pv 5) (pe_callB (kLen K) (by rfl) T.nb_len (by decide +kernel) (pa_cons (pv 7) pa_nil)) (fun _ _ => rfl)) (kGt K rfl (pg_tup (n := 2) (by rfl) (pgs_cons (pg_name (i := 8) sc_in_turn.nd rfl (by first | exact Or.inl rfl | exact Or.inr rfl)) (pgs_cons (pg_name (i := 9) sc_in_turn.nd rfl (by first | exact Or.inl rfl | exact Or.inr rfl)) pgs_nil)))))
  (pss_cons (ps_set (i := 10) sc_in_turn.nd rfl (by first | exact Or.inl rfl | exact Or.inr rfl) (pe_lst pa_nil))
  (pss_cons (ps_for (passes_of rfl) rfl (kAny K rfl (pe_ix (kIx K) (kFld K rfl (pe_fld (pv 0) rfl)) (pv 8) (fun _ _ => rfl))) (pg_name (i := 11) sc_in_turn.nd rfl (by first | exact Or.inl rfl | exact Or.inr rfl))
    (pss_cons (ps_set (i := 12) sc_in_turn.nd rfl (by first | exact Or.inl rfl | exact Or.inr rfl) (pe_ifExp (pt_cmpR op_isN (pv 11) pe_non (by first | rfl | exact nomark _)) pe_non (pe_meth (pv 1) T.cl_Rewriter T.m_Rewriter_rewrite_from (ok_Rewriter_rewrite_from T) (hr.mono (by decide)) T.b_Rewriter_rewrite_from .nil pass0 (pa_cons (pv 9) (pa_cons (pe_ix (kIx K) (pv 11) pe_int (fun _ _ => rfl)) pa_nil)))))
  (pss_one (ps_if (pt_cmpR op_isN (pv 12) pe_non (by first | rfl | exact nomark _))
    (pss_one (ps_expr (kBm K rfl (pe_bm PySem.F.plainAttrs_list PySem.F.slot_list_append PySem.F.type_list_append mt_append (pv 10) (pa_cons pe_non pa_nil)))))
    (pss_cons (ps_set (i := 13) sc_in_turn.nd rfl (by first | exact Or.inl rfl | exact Or.inr rfl) (pe_tup (pa_cons (pe_ix (kIx K) (pv 11) pe_int (fun _ _ => rfl)) (pa_cons (pe_ix (kIx K) (pv 12) pe_int (fun _ _ => rfl)) pa_nil))))
  (pss_cons (ps_if (pt_cmp (pc_dnotin (hu_of hr) (pv 13) (pv 4)))
    (pss_cons (ps_dput (hu_of hr) (pv 4) (pv 13) (pe_callB (kLen K) (by rfl) T.nb_len (by decide +kernel) (pa_cons (pv 5) pa_nil)) rfl)
  (pss_one (ps_expr (kBm K rfl (pe_bm PySem.F.plainAttrs_list PySem.F.slot_list_append PySem.F.type_list_append mt_append (pv 5) (pa_cons (pv 13) pa_nil))))))
    pss_nil)
  (pss_one (ps_expr (kBm K rfl (pe_bm PySem.F.plainAttrs_list PySem.F.slot_list_append PySem.F.type_list_append mt_append (pv 10) (pa_cons (pe_tup (pa_cons (pe_dget (hu_of hr) (pv 4) (pv 13) (fun _ _ => rfl)) (pa_cons (pe_ix (kIx K) (pv 12) pe_int (fun _ _ => rfl)) pa_nil))) pa_nil)))))))))))
  (pss_cons (ps_expr (kBm K rfl (pe_bm PySem.F.plainAttrs_list PySem.F.slot_list_append PySem.F.type_list_append mt_append (pv 6) (pa_cons (pe_callE (ok__final T) (hr.mono (by decide)) T.o__final (pa_cons (pe_ix (kIx K) (kFld K rfl (pe_fld (pv 0) rfl)) (pv 8) (fun _ _ => rfl)) (pa_cons (pv 1) (pa_cons (pv 9) pa_nil)))) pa_nil))))
  (pss_one (ps_expr (kBm K rfl (pe_bm PySem.F.plainAttrs_list PySem.F.slot_list_append PySem.F.type_list_append mt_append (pv 7) (pa_cons (pv 10) pa_nil))))))))))
  (pss_one (ps_ret (pe_makeR T.mk_Rewriter (ok_Rewriter_init T) (hr.mono (by decide)) T.g_Rewriter T.b_Rewriter_init (takes_of rfl rfl rfl rfl) (pa_cons (kFld K rfl (pe_fld (pv 0) rfl)) (pa_cons (pe_op (kAdd K) (kFld K rfl (pe_fld (pv 1) rfl)) (pe_ix (kIx K) (pv 2) pe_int (fun _ _ => rfl))) (pa_cons (pv 6) (pa_cons (pv 7) pa_nil))))))))))))))), ?_⟩
    walk_at "rc"
    refine ⟨b, dx2, _, rfl, hm2, rfl, ?_⟩
    walk_at "rc"
    refine ⟨a, _, dx1, _, _, rfl, hm1, T.cl_Rewriter, T.na_Rewriter_lead, rfl, ?_⟩
    refine ⟨b, ls, r1.lead, 0, r2, rfl, hB, g2, bd2, Int.le_refl 0, by omega, lt1, by omega, fun hn' H1 e1 => ?_, fun z0 hz0 qb H1 e1 hqbn hqb => ?_⟩
    · walk_at "rc"
      walk_at "rs"
      walk_at "rc"
      refine rd_itet (by decide) ?_
      walk_at "rc"
      refine ⟨a, _, dx1, _, _, rfl, e1 _ _ hm1, T.cl_Rewriter, T.na_Rewriter_letters, rfl, ?_⟩
      walk_at "rc"
      refine ⟨by decide, fun p1 hp1 => ?_⟩
      walk_at "rc"
      refine ⟨by decide, fun p2 hp2 => ?_⟩
      have ee : Ex H1 (upd (upd H1 p1 (.lst [.non])) p2 (.lst [.non])) := (Evl.Ex.new hp1).trans (Evl.Ex.new hp2)
      walk_at "rc"
      refine ⟨a, _, dx1, _, _, rfl, ee _ _ (e1 _ _ hm1), T.cl_Rewriter, T.na_Rewriter_letters, rfl, ?_⟩
      walk_at "rc"
      refine rd_lenS lz ?_
      have sl : sizeLine ≥ 1000 := by decide
      refine ⟨p2, _, [.non], rfl, rfl, upd_same, by omega, by omega, by simp; omega, fun p3 hp3 => ?_⟩
      rw [Int.toNat_natCast]
      have efl : (List.replicate ls.length [V.non]).flatten = List.replicate ls.length V.non := by
        have : ∀ n : Nat, (List.replicate n [V.non]).flatten = List.replicate n V.non := fun n => by
          induction n with
          | zero => rfl
          | succ n ih => rw [List.replicate_succ, List.flatten_cons, ih]; rfl
        exact this _
      rw [efl]
      have e3 := ex_upd (o := .lst (List.replicate ls.length V.non)) ee hp3
      have hp3' : upd (upd (upd H1 p1 (.lst [.non])) p2 (.lst [.non])) p3 (.lst (List.replicate ls.length V.non)) p3 = some (.lst (List.replicate ls.length V.non)) := upd_same
      have hp1' := at_upd (o := .lst (List.replicate ls.length V.non)) hp3 (at_upd (o := .lst [.non]) hp2 (upd_same (H := H1) (a := p1) (o := .lst [.non])))
      generalize upd (upd (upd H1 p1 (.lst [.non])) p2 (.lst [.non])) p3 (.lst (List.replicate ls.length V.non)) = H3 at e3 hp3' hp1'
      walk_at "rc"
      refine ⟨by show 1 ≤ sizeLine; decide, fun p4 hp4 => ?_⟩
      have e4 : Ex H3 (upd H3 p4 (.lst [.ref p3])) := Evl.Ex.new hp4
      have hp4' : upd H3 p4 (.lst [.ref p3]) p4 = some (.lst [.ref p3]) := upd_same
      generalize upd H3 p4 (.lst [.ref p3]) = H4 at e4 hp4'
      walk_at "rc"
      intro x dx hx hdx ne
      have ex6 := upd2_ex (C := T.C_Rewriter) hx hdx
      have eH4 : Ex H H4 := (e1.trans e3).trans e4
      have dn : DpAll K H4 (List.replicate ls.length V.non) ((List.replicate ls.length (none : Way)).map encW) := by
        rw [List.map_replicate]
        refine DpAll.of (by simp) fun i v d h1 h2 => ?_
        rw [(List.mem_replicate.mp (List.mem_of_getElem? h1)).2, (List.mem_replicate.mp (List.mem_of_getElem? h2)).2]
        exact .non
      have sN : SmB (B2 + B1 * B2) (max (n1 * n2) ls.length) (nopeR ls.length) := nope_smb _ _ _ (by omega)
      refine ⟨x, dx, _, _, ls, nopeR ls.length, [rowL (List.replicate ls.length none)], rfl, by omega, sN.bnd b3 (by omega), upd_same, .inl ((Dp.lst (SqL.of (e4 _ _ hp1')) (.cons .non .nil)).ex ex6), .inl ((Dp.lst (SqL.of hp4') (.cons (.lst (SqL.of (e4 _ _ hp3')) dn) .nil)).ex ex6), rowsD_L [List.replicate ls.length none], fun g H' k hrw => ⟨rfl, ?_⟩, fun ng => absurd nope_good ng⟩
      refine q x _ H' (eH4.trans (made_ex hx hdx ne k)) hrw g sN fun t ht => ?_
      rw [nope_run, comp_none hn' t]
    · have tq : SqT K H1 qb [.int z0.1, .str z0.2] := Evl.st_of hqb
      obtain ⟨z01, z02, z03, z04⟩ := thenF_in g2 s2 (Int.le_refl 0) (by omega) lt1 hz0
      walk_at "rc"
      walk_at "rs"
      walk_at "rc"
      refine rd_itef (decide_eq_false fun z => nomatch z) ?_
      walk_at "rc"
      refine rd_ixT (v := .int z0.1) tq (atI_nat (j := 0) rfl) ?_
      walk_at "rc"
      refine ⟨by show 2 ≤ sizeLine; decide, fun st hst => ?_⟩
      have e2 : Ex H1 (upd H1 st (.tup [.int 0, .int z0.1])) := Evl.Ex.new hst
      have hst2 : upd H1 st (.tup [.int 0, .int z0.1]) st = some (.tup [.int 0, .int z0.1]) := upd_same
      generalize upd H1 st (.tup [.int 0, .int z0.1]) = H2 at e2 hst2
      walk_at "rc"
      intro D hD
      walk_at "rc"
      refine ⟨upd_same, st, pk (0, z0.1), rfl, at_upd hD hst2, ?_⟩
      rw [upd_upd]
      have e3 : Ex H2 (upd H2 D (.dT [(pk (0, z0.1), .int 0)])) := Evl.Ex.new hD
      have hD3 : upd H2 D (.dT [(pk (0, z0.1), .int 0)]) D = some (.dT [(pk (0, z0.1), .int 0)]) := upd_same
      generalize upd H2 D (.dT [(pk (0, z0.1), .int 0)]) = H3 at e3 hD3
      walk_at "rc"
      refine ⟨by show 1 ≤ sizeLine; decide, fun Lp hLp => ?_⟩
      have e4 : Ex H3 (upd H3 Lp (.lst [.ref st])) := Evl.Ex.new hLp
      have hLp4 : upd H3 Lp (.lst [.ref st]) Lp = some (.lst [.ref st]) := upd_same
      generalize upd H3 Lp (.lst [.ref st]) = H4 at e4 hLp4
      walk_at "rc"
      refine ⟨by decide, fun Lf hLf => ?_⟩
      have e5 : Ex H4 (upd H4 Lf (.lst [])) := Evl.Ex.new hLf
      have hLf5 : upd H4 Lf (.lst []) Lf = some (.lst []) := upd_same
      generalize upd H4 Lf (.lst []) = H5 at e5 hLf5
      walk_at "rc"
      refine ⟨by decide, fun Lt hLt => ?_⟩
      have e6 : Ex H5 (upd H5 Lt (.lst [])) := Evl.Ex.new hLt
      have hLt6 : upd H5 Lt (.lst []) Lt = some (.lst []) := upd_same
      generalize upd H5 Lt (.lst []) = H6 at e6 hLt6
      have fD : H2 D = none := hD
      have fLp : H3 Lp = none := hLp
      have n1' : Lp ≠ Lf := fun z => by rw [← z, hLp4] at hLf; cases hLf
      have n2' : Lp ≠ Lt := fun z => by rw [← z, e5 _ _ hLp4] at hLt; cases hLt
      have n3' : Lf ≠ Lt := fun z => by rw [← z, hLf5] at hLt; cases hLt
      have e12 := e1.trans e2
      have fr : ∀ b ∈ [Lt, Lf, Lp, D], H b = none := fun b hb => by
        rcases List.mem_cons.mp hb with z | hb
        · rw [z]; exact Evl.fresh_back (((e12.trans e3).trans e4).trans e5) hLt
        rcases List.mem_cons.mp hb with z | hb
        · rw [z]; exact Evl.fresh_back ((e12.trans e3).trans e4) hLf
        rcases List.mem_cons.mp hb with z | hb
        · rw [z]; exact Evl.fresh_back (e12.trans e3) hLp
        · rw [List.mem_singleton.mp hb]; exact Evl.fresh_back e12 hD
      have e46 := (e4.trans e5).trans e6
      have nst : st ∉ [Lt, Lf, Lp, D] := fun hb => by
        have h2 := hst2
        rcases List.mem_cons.mp hb with z | hb
        · rw [z, Evl.fresh_back ((e3.trans e4).trans e5) hLt] at h2; cases h2
        rcases List.mem_cons.mp hb with z | hb
        · rw [z, Evl.fresh_back (e3.trans e4) hLf] at h2; cases h2
        rcases List.mem_cons.mp hb with z | hb
        · rw [z, Evl.fresh_back e3 hLp] at h2; cases h2
        · rw [List.mem_singleton.mp hb, hD] at h2; cases h2
      have dst : Dp K (hid [Lt, Lf, Lp, D] H6) (.ref st) (encP (0, z0.1)) := .tup (Evl.st_of (by rw [hid_at nst]; exact (e3.trans e46) _ _ hst2)) (.cons (.int 0) (.cons (.int _) .nil))
      have it6 : IT K [Lt, Lf, Lp, D] H H6 D Lp Lf Lt [(0, z0.1)] [] [] := by
        refine ⟨e12.trans (e3.trans e46), fr, ⟨by simp, by simp, by simp, by simp⟩, ⟨n1', n2', n3'⟩, fun b hb => ?_, ⟨_, (e5.trans e6) _ _ hLp4, .cons dst .nil⟩, ⟨_, e46 _ _ hD3, ⟨Nat.le_refl 1, fun p hp => ?_, fun p hp => ?_⟩⟩, ⟨_, e6 _ _ hLf5, .nil⟩, ⟨_, hLt6, .nil⟩⟩
        · rcases List.mem_cons.mp hb with z | hb
          · rw [z]; exact ⟨_, hLt6⟩
          rcases List.mem_cons.mp hb with z | hb
          · rw [z]; exact ⟨_, e6 _ _ hLf5⟩
          rcases List.mem_cons.mp hb with z | hb
          · rw [z]; exact ⟨_, (e5.trans e6) _ _ hLp4⟩
          · rw [List.mem_singleton.mp hb]; exact ⟨_, e46 _ _ hD3⟩
        · rw [List.mem_singleton.mp hp, valV_pos rfl, List.idxOf_cons_self]
          rfl
        · rw [valV_neg (fun z => hp (List.mem_singleton.mpr (pk_inj z).symm))]
          rfl
      walk_at "rc"
      walk_at "rs"
      walk_at "rc"
      have bx0 : ∀ p ∈ [((0 : Int), z0.1)], (0 ≤ p.1 ∧ p.1 < (r1.fin.length : Int)) ∧ 0 ≤ p.2 ∧ p.2 < (r2.fin.length : Int) := fun p hp => by
        rw [List.mem_singleton.mp hp]
        exact ⟨⟨Int.le_refl 0, by show (0 : Int) < _; omega⟩, z01, z02⟩
      have boxN : ∀ ps : List (Int × Int), ps.Nodup → (∀ p ∈ ps, (0 ≤ p.1 ∧ p.1 < (r1.fin.length : Int)) ∧ 0 ≤ p.2 ∧ p.2 < (r2.fin.length : Int)) → ps.length ≤ n1 * n2 := fun ps nd bx =>
        Nat.le_trans (box_len nd bx) (Nat.mul_le_mul s1.f s2.f)
      have sl : sizeLine ≥ 100000 := by decide
      refine rd_wh (fun m σ H' => ∃ (ps : List (Int × Int)) (k : Nat) (k8 k9 k10 k11 k12 k13 : Option V), σ = [some (.ref a), some (.ref b), some (.ref qb), some (.ref st), some (.ref D), some (.ref Lp), some (.ref Lf), some (.ref Lt), k8, k9, k10, k11, k12, k13] ∧
        IT K [Lt, Lf, Lp, D] H H' D Lp Lf Lt ps ((ps.take k).map (finC ls r1 r2)) ((ps.take k).map (rowC ls r1 r2 ps)) ∧ Ex H1 H' ∧ k ≤ ps.length ∧ ps.Nodup ∧ (∀ p ∈ ps, (0 ≤ p.1 ∧ p.1 < (r1.fin.length : Int)) ∧ 0 ≤ p.2 ∧ p.2 < (r2.fin.length : Int)) ∧ ps[0]? = some (0, z0.1) ∧ (∀ p ∈ ps.take k, closedAt ls r1 r2 ps p) ∧ m + k = n1 * n2) (n1 * n2)
        ⟨[(0, z0.1)], 0, _, _, _, _, _, _, rfl, it6, (e2.trans e3).trans e46, Nat.zero_le _, List.nodup_cons.mpr ⟨List.not_mem_nil, List.nodup_nil⟩, bx0, rfl, (fun p hp => by rw [List.take_zero] at hp; cases hp), rfl⟩ ?_
      rintro m σ H7 ⟨ps, k, k8, k9, k10, k11, k12, k13, rfl, it, e17, hk, nd, bx, h0, cl, hm⟩
      obtain ⟨pv, hp7, hpd⟩ := it.lp
      obtain ⟨tv, ht7, htd⟩ := it.lt
      obtain ⟨fv, hf7, hfd⟩ := it.lf
      have tl : tv.length = k := by
        have := htd.len
        rw [List.length_map, List.length_map, List.length_take] at this
        omega
      have pl : pv.length = ps.length := by
        have := hpd.len
        rw [List.length_map] at this
        exact this
      have fl : fv.length = k := by
        have := hfd.len
        rw [List.length_map, List.length_map, List.length_take] at this
        omega
      have pN := boxN ps nd bx
      have A7 := hA.ex it.ex
      have B7 := hB.ex it.ex
      walk_at "rc"
      refine rd_lenL (SqL.of ht7) ?_
      walk_at "rc"
      refine rd_lenL (SqL.of hp7) ?_
      walk_at "rc"
      rw [tl, pl]
      refine rd_iteD (fun hlt => ?_) (fun hge => ?_)
      · have hkp : k < ps.length := by omega
        refine ⟨fun σ H' => ∃ m', m' < m ∧ ∃ (ps : List (Int × Int)) (k : Nat) (k8 k9 k10 k11 k12 k13 : Option V), σ = [some (.ref a), some (.ref b), some (.ref qb), some (.ref st), some (.ref D), some (.ref Lp), some (.ref Lf), some (.ref Lt), k8, k9, k10, k11, k12, k13] ∧
          IT K [Lt, Lf, Lp, D] H H' D Lp Lf Lt ps ((ps.take k).map (finC ls r1 r2)) ((ps.take k).map (rowC ls r1 r2 ps)) ∧ Ex H1 H' ∧ k ≤ ps.length ∧ ps.Nodup ∧ (∀ p ∈ ps, (0 ≤ p.1 ∧ p.1 < (r1.fin.length : Int)) ∧ 0 ≤ p.2 ∧ p.2 < (r2.fin.length : Int)) ∧ ps[0]? = some (0, z0.1) ∧ (∀ p ∈ ps.take k, closedAt ls r1 r2 ps p) ∧ m' + k = n1 * n2, fun σ' H' z => z, ?_⟩
        obtain ⟨p, hpk⟩ : ∃ p, ps[k]? = some p := ⟨_, List.getElem?_eq_getElem hkp⟩
        have hpm := List.mem_of_getElem? hpk
        obtain ⟨⟨p10, p11⟩, p20, p21⟩ := bx p hpm
        have hst1 : p.1.toNat < r1.tab.length := by have := g1.2.1; omega
        have hrow : r1.tab[p.1.toNat]? = some r1.tab[p.1.toNat] := List.getElem?_eq_getElem hst1
        have hrowm : r1.tab[p.1.toNat] ∈ r1.tab := List.getElem_mem hst1
        have erow : r1.tab.getD p.1.toNat [] = r1.tab[p.1.toNat] := by rw [List.getD_eq_getElem?_getD, hrow]; rfl
        generalize r1.tab[p.1.toNat] = row at hrow hrowm erow
        have ep1 : p.1 = (p.1.toNat : Int) := (Int.toNat_of_nonneg p10).symm
        walk_at "rc"
        refine rd_lenL (SqL.of ht7) ?_
        rw [tl]
        refine rd_ixDL (Evl.Ex.refl H7) (.lst (SqL.of hp7) (hpd.ex hid_ex)) (d := encP p) (by rw [List.getElem?_map, hpk]; rfl) fun v hv => ?_
        refine rd_gtD (Evl.Ex.refl H7) hv rfl fun xs hxs => ?_
        obtain ⟨x1, x2, rfl, hx1, hx2⟩ := dp2 hxs
        rw [Dp.int_iff hx1, Dp.int_iff hx2]
        walk_at "rc"
        refine ⟨by decide, fun Lr hLr => ?_⟩
        have itR := it.hide (o := .lst []) hLr
        have eR : Ex H7 (upd H7 Lr (.lst [])) := Evl.Ex.new hLr
        have hLr8 : upd H7 Lr (.lst []) Lr = some (.lst []) := upd_same
        have nrT : Lt ≠ Lr := fun z => by rw [← z, ht7] at hLr; cases hLr
        have nrF : Lf ≠ Lr := fun z => by rw [← z, hf7] at hLr; cases hLr
        have nrP : Lp ≠ Lr := fun z => by rw [← z, hp7] at hLr; cases hLr
        have nrD : D ≠ Lr := fun z => by obtain ⟨kvs, hd, _⟩ := it.d; rw [← z, hd] at hLr; cases hLr
        have nrS : Lr ∉ [Lt, Lf, Lp, D] := fun hb => by
          rcases List.mem_cons.mp hb with z | hb
          · exact nrT z.symm
          rcases List.mem_cons.mp hb with z | hb
          · exact nrF z.symm
          rcases List.mem_cons.mp hb with z | hb
          · exact nrP z.symm
          · exact nrD (List.mem_singleton.mp hb).symm
        generalize upd H7 Lr (.lst []) = H8 at itR eR hLr8
        walk_at "rc"
        walk_at "rs"
        walk_at "rc"
        refine rd_anyT' ?_
        walk_at "rc"
        refine ⟨a, _, dx1, _, _, rfl, itR.ex _ _ hm1, T.cl_Rewriter, T.na_Rewriter_table, rfl, ?_⟩
        walk_at "rc"
        rw [ep1]
        refine rd_ixDT itR.ex hT1 (d := encRow row) (by rw [List.getElem?_map, hrow]; rfl) fun v2 hv2 => ?_
        rw [← ep1]
        refine rd_itDT itR.ex hv2 fun J wJ => ?_
        refine fo_D wJ (fun j σ H' => ∃ (more : List (Int × Int)) (k11 k12 k13 : Option V) (rv : List V), σ = [some (.ref a), some (.ref b), some (.ref qb), some (.ref st), some (.ref D), some (.ref Lp), some (.ref Lf), some (.ref Lt), some (.int p.1), some (.int p.2), some (.ref Lr), k11, k12, k13] ∧
          IT K [Lr, Lt, Lf, Lp, D] H H' D Lp Lf Lt (ps ++ more) ((ps.take k).map (finC ls r1 r2)) ((ps.take k).map (rowC ls r1 r2 ps)) ∧ Ex H1 H' ∧ (ps ++ more).Nodup ∧ (∀ p ∈ ps ++ more, (0 ≤ p.1 ∧ p.1 < (r1.fin.length : Int)) ∧ 0 ≤ p.2 ∧ p.2 < (r2.fin.length : Int)) ∧
          H' Lr = some (.lst rv) ∧ DpAll K (hid [Lr, Lt, Lf, Lp, D] H') rv (((row.take j).map (wayC ls r2 (ps ++ more) p.2)).map encW) ∧ ∀ w, some w ∈ row.take j → ∀ z, thenF ls r2 p.2 w.2 = some z → (w.1, z.1) ∈ ps ++ more)
          ⟨[], _, _, _, [], rfl, by rw [List.append_nil]; exact itR, e17.trans eR, by rw [List.append_nil]; exact nd, by rw [List.append_nil]; exact bx, hLr8, by rw [List.take_zero]; exact .nil, fun w hw => by rw [List.take_zero] at hw; cases hw⟩
          (fun j σ H' _ ⟨more, _, _, _, rv, _, i, _⟩ => i.ex) ?_ ?_
        · rintro j d vw σ H9 hj hvw ⟨more, k11, k12, k13, rv, rfl, i9, e19, nd9, bx9, hr9, hrd, cl9⟩
          rw [List.getElem?_map] at hj
          obtain ⟨wy, hwj, rfl⟩ := Option.map_eq_some_iff.mp hj
          have hjl : j < row.length := (List.getElem?_eq_some_iff.mp hwj).1
          have rvl : rv.length = j := by
            have := hrd.len
            rw [List.length_map, List.length_map, List.length_take] at this
            omega
          have rwl := s1.w row hrowm
          -- the row grows: pairs may have come to stand, too
          have grow : ∀ (more2 : List (Int × Int)) (k11 k12 k13 : Option V) (H10 : Hp) (v : V), IT K [Lr, Lt, Lf, Lp, D] H H10 D Lp Lf Lt (ps ++ (more ++ more2)) ((ps.take k).map (finC ls r1 r2)) ((ps.take k).map (rowC ls r1 r2 ps)) → Ex H1 H10 → (ps ++ (more ++ more2)).Nodup → (∀ p ∈ ps ++ (more ++ more2), (0 ≤ p.1 ∧ p.1 < (r1.fin.length : Int)) ∧ 0 ≤ p.2 ∧ p.2 < (r2.fin.length : Int)) →
              H10 Lr = some (.lst rv) → DpAll K (hid [Lr, Lt, Lf, Lp, D] H10) rv (((row.take j).map (wayC ls r2 (ps ++ more) p.2)).map encW) → Dp K (hid [Lr, Lt, Lf, Lp, D] H10) v (encW (wayC ls r2 (ps ++ (more ++ more2)) p.2 wy)) → (∀ w, wy = some w → ∀ z, thenF ls r2 p.2 w.2 = some z → (w.1, z.1) ∈ ps ++ (more ++ more2)) →
              rAppend (.ref Lr) [v] H10 fun _ H' => ∃ (more : List (Int × Int)) (k11' k12' k13' : Option V) (rv : List V), [some (.ref a), some (.ref b), some (.ref qb), some (.ref st), some (.ref D), some (.ref Lp), some (.ref Lf), some (.ref Lt), some (.int p.1), some (.int p.2), some (.ref Lr), k11, k12, k13] = [some (.ref a), some (.ref b), some (.ref qb), some (.ref st), some (.ref D), some (.ref Lp), some (.ref Lf), some (.ref Lt), some (.int p.1), some (.int p.2), some (.ref Lr), k11', k12', k13'] ∧
                IT K [Lr, Lt, Lf, Lp, D] H H' D Lp Lf Lt (ps ++ more) ((ps.take k).map (finC ls r1 r2)) ((ps.take k).map (rowC ls r1 r2 ps)) ∧ Ex H1 H' ∧ (ps ++ more).Nodup ∧ (∀ p ∈ ps ++ more, (0 ≤ p.1 ∧ p.1 < (r1.fin.length : Int)) ∧ 0 ≤ p.2 ∧ p.2 < (r2.fin.length : Int)) ∧
                H' Lr = some (.lst rv) ∧ DpAll K (hid [Lr, Lt, Lf, Lp, D] H') rv (((row.take (j + 1)).map (wayC ls r2 (ps ++ more) p.2)).map encW) ∧ ∀ w, some w ∈ row.take (j + 1) → ∀ z, thenF ls r2 p.2 w.2 = some z → (w.1, z.1) ∈ ps ++ more := by
            intro more2 k11 k12 k13 H10 v i10 e10 nd10 bx10 hr10 hrd10 hv10 cl10
            refine ⟨Lr, rv, v, rfl, rfl, hr10, by omega, more ++ more2, _, _, _, rv ++ [v], rfl, i10.put List.mem_cons_self nrD nrP nrF nrT, ?_, nd10, bx10, upd_same, ?_, fun w hw z hz => ?_⟩
            · exact Evl.Ex.mut e10 (Evl.fresh_back e17 hLr)
            · rw [List.take_succ, hwj]
              have e9 : (row.take j).map (wayC ls r2 (ps ++ (more ++ more2)) p.2) = (row.take j).map (wayC ls r2 (ps ++ more) p.2) := by
                refine List.map_congr_left fun w' hw' => ?_
                rw [← List.append_assoc]
                exact wayC_pre (fun w'' e z hz => cl9 w'' (by rw [← e]; exact hw') z hz) more2
              rw [List.map_append, e9, List.map_append]
              exact (hrd10.snoc hv10).ex (Kp.put List.mem_cons_self).ex
            · rw [List.take_succ, hwj] at hw
              rcases List.mem_append.mp hw with y | y
              · rw [← List.append_assoc]
                exact List.mem_append.mpr (.inl (cl9 w y z hz))
              · have e : wy = some w := (List.mem_singleton.mp y).symm
                exact cl10 w e z hz
          have same : ps ++ more = ps ++ (more ++ []) := by rw [List.append_nil]
          walk_at "rc"
          refine rd_ife ?_
          walk_at "rc"
          cases wy with
          | none =>
            cases Dp.non_iff hvw
            refine rd_itet (by decide) ?_
            walk_at "rc"
            refine rd_itet (by decide) ?_
            walk_at "rc"
            refine ⟨.inl ⟨rfl, _, SqL.of hr9⟩, ?_⟩
            walk_at "rc"
            exact grow [] _ _ _ H9 .non (same ▸ i9) e19 (same ▸ nd9) (same ▸ bx9) hr9 hrd .non (fun w z => by cases z)
          | some wy =>
            obtain ⟨aw, vsw, rfl, gw1, gw2⟩ := Dp.tupv hvw
            have wym : wy.2 ∈ allTexts r1 := mem_way hrowm (List.mem_of_getElem? hwj)
            have wyT := g1.2.2.2 _ wym
            have wyl := s1.t _ wym
            refine rd_itef (decide_eq_false fun z => nomatch z) ?_
            walk_at "rc"
            have B9 := hB.ex i9.ex
            obtain ⟨dx2', tf2', tt2', hm2', _⟩ := id B9
            refine ⟨b, dx2', _, rfl, hm2', rfl, ?_⟩
            walk_at "rc"
            refine rd_ixDT i9.ex hvw (i := 1) rfl fun v3 hv3 => ?_
            cases Dp.str_iff hv3
            refine ⟨b, ls, wy.2, p.2, r2, rfl, B9, g2, bd2, p20, p21, wyT, by omega, fun hn9 H10 e10 => ?_, fun z hz qz H10 e10 hqz hqz' => ?_⟩
            · walk_at "rc"
              refine rd_itet (by decide) ?_
              walk_at "rc"
              refine ⟨.inl ⟨rfl, _, SqL.of (e10 _ _ hr9)⟩, ?_⟩
              walk_at "rc"
              have ew : wayC ls r2 (ps ++ (more ++ [])) p.2 (some wy) = none := by
                show (thenF ls r2 p.2 wy.2).map _ = none
                have hn9' : thenF ls r2 p.2 wy.2 = none := hn9
                rw [hn9']; rfl
              exact grow [] _ _ _ H10 .non (same ▸ i9.go e10) (e19.trans e10) (same ▸ nd9) (same ▸ bx9) (e10 _ _ hr9) (hrd.ex (Ex.hid e10)) (by rw [ew]; exact .non) (fun w z y hy => by
                cases z
                have hn9' : thenF ls r2 p.2 wy.2 = none := hn9
                rw [hn9'] at hy; cases hy)
            · have hz' : thenF ls r2 p.2 wy.2 = some z := hz
              obtain ⟨zz1, zz2, _, _⟩ := thenF_in g2 s2 p20 p21 wyT hz'
              have wbx := (g1.2.2.1 row hrowm).2 wy (mem_ways.mpr (List.mem_of_getElem? hwj))
              have tz : SqT K H10 qz [.int z.1, .str z.2] := Evl.st_of hqz'
              have i10 := i9.go e10
              have e110 := e19.trans e10
              walk_at "rc"
              refine rd_itef (decide_eq_false fun z => nomatch z) ?_
              walk_at "rc"
              refine rd_ixDT (i9.ex.trans e10) hvw (i := 0) rfl fun v4 hv4 => ?_
              cases Dp.int_iff hv4
              walk_at "rc"
              refine rd_ixT (v := .int z.1) tz (atI_nat (j := 0) rfl) ?_
              walk_at "rc"
              refine ⟨by show 2 ≤ sizeLine; decide, fun qp hqp => ?_⟩
              have e11 : Ex H10 (upd H10 qp (.tup [.int wy.1, .int z.1])) := Evl.Ex.new hqp
              have hqp11 : upd H10 qp (.tup [.int wy.1, .int z.1]) qp = some (.tup ((pk (wy.1, z.1)).map kV)) := upd_same
              have i11 := i10.go e11
              have dqp : Dp K (hid [Lr, Lt, Lf, Lp, D] (upd H10 qp (.tup [.int wy.1, .int z.1]))) (.ref qp) (encP (wy.1, z.1)) := Dp.newT hqp (notin_of i10.st hqp) (.cons (.int _) (.cons (.int _) .nil))
              have hr11 := e11 _ _ (e10 _ _ hr9)
              have hrd11 := hrd.ex (Ex.hid (e10.trans e11))
              have hqz11 := e11 _ _ hqz'
              have e111 := e110.trans e11
              generalize upd H10 qp (.tup [.int wy.1, .int z.1]) = H11 at e11 hqp11 i11 dqp hr11 hrd11 hqz11 e111
              walk_at "rc"
              refine rd_cut (fun σ H12 => σ = [some (.ref a), some (.ref b), some (.ref qb), some (.ref st), some (.ref D), some (.ref Lp), some (.ref Lf), some (.ref Lt), some (.int p.1), some (.int p.2), some (.ref Lr), some (.ref aw), some (.ref qz), some (.ref qp)] ∧ ∃ more2 : List (Int × Int), IT K [Lr, Lt, Lf, Lp, D] H H12 D Lp Lf Lt (ps ++ (more ++ more2)) ((ps.take k).map (finC ls r1 r2)) ((ps.take k).map (rowC ls r1 r2 ps)) ∧ Ex H1 H12 ∧ (ps ++ (more ++ more2)).Nodup ∧ (∀ p ∈ ps ++ (more ++ more2), (0 ≤ p.1 ∧ p.1 < (r1.fin.length : Int)) ∧ 0 ≤ p.2 ∧ p.2 < (r2.fin.length : Int)) ∧
                H12 Lr = some (.lst rv) ∧ DpAll K (hid [Lr, Lt, Lf, Lp, D] H12) rv (((row.take j).map (wayC ls r2 (ps ++ more) p.2)).map encW) ∧ H12 qz = some (.tup [.int z.1, .str z.2]) ∧ H12 qp = some (.tup ((pk (wy.1, z.1)).map kV)) ∧ (wy.1, z.1) ∈ ps ++ (more ++ more2)) (fun N hN => ?_) ?_
              · obtain ⟨kvs, hd11, hdp⟩ := i11.d
                obtain ⟨pv11, hp11, hpd11⟩ := i11.lp
                walk_at "rc"
                refine ⟨D, _, rfl, DGet.t hd11 hqp11, ?_⟩
                walk_at "rc"
                by_cases hmem : (wy.1, z.1) ∈ ps ++ more
                · rw [hdp.y _ hmem]
                  refine rd_itef rfl ?_
                  walk_at "rc"
                  exact hN _ _ ⟨rfl, [], same ▸ i11, e111, same ▸ nd9, same ▸ bx9, hr11, hrd11, hqz11, hqp11, same ▸ hmem⟩
                · rw [hdp.n _ hmem]
                  refine rd_itet rfl ?_
                  have pvl : pv11.length = (ps ++ more).length := by
                    have := hpd11.len
                    rw [List.length_map] at this
                    exact this
                  have bx2 : ∀ p ∈ (ps ++ more) ++ [(wy.1, z.1)], (0 ≤ p.1 ∧ p.1 < (r1.fin.length : Int)) ∧ 0 ≤ p.2 ∧ p.2 < (r2.fin.length : Int) := fun x hx => by
                    rcases List.mem_append.mp hx with y | y
                    · exact bx9 x y
                    · rw [List.mem_singleton.mp y]; exact ⟨wbx, zz1, zz2⟩
                  have nd2 : ((ps ++ more) ++ [(wy.1, z.1)]).Nodup := List.nodup_append.mpr ⟨nd9, List.nodup_cons.mpr ⟨List.not_mem_nil, List.nodup_nil⟩, fun x hx y hy e => hmem (by rw [List.mem_singleton.mp hy] at e; rw [← e]; exact hx)⟩
                  have pN2 := boxN _ nd2 bx2
                  rw [List.length_append, List.length_singleton] at pN2
                  have kl := hdp.l
                  walk_at "rs"
                  walk_at "rc"
                  refine rd_lenL (SqL.of hp11) ?_
                  walk_at "rc"
                  rw [pvl]
                  refine ⟨D, _, rfl, DPut.t hd11 hqp11 (by omega), ?_⟩
                  have dn := i11.dne
                  have hp12 : upd H11 D (.dT (putK kvs (pk (wy.1, z.1)) (.int ((ps ++ more).length : Nat)))) Lp = some (.lst pv11) := by rw [upd_ne (Ne.symm dn.1)]; exact hp11
                  walk_at "rc"
                  refine ⟨.inl ⟨rfl, _, SqL.of hp12⟩, ?_⟩
                  walk_at "rc"
                  refine ⟨Lp, pv11, .ref qp, rfl, rfl, hp12, by omega, ?_⟩
                  have iP := i11.pair hmem hd11 hdp hp11 hpd11 dqp
                  have nn : ∀ {b : Addr} {o : HO}, b ≠ D → b ≠ Lp → H11 b = some o → upd (upd H11 D (.dT (putK kvs (pk (wy.1, z.1)) (.int ((ps ++ more).length : Nat))))) Lp (.lst (pv11 ++ [.ref qp])) b = some o := fun h1 h2 h3 => by rw [upd_ne h2, upd_ne h1]; exact h3
                  have ea : ps ++ more ++ [(wy.1, z.1)] = ps ++ (more ++ [(wy.1, z.1)]) := List.append_assoc ..
                  have kk : Kp [Lr, Lt, Lf, Lp, D] H11 (upd (upd H11 D (.dT (putK kvs (pk (wy.1, z.1)) (.int ((ps ++ more).length : Nat))))) Lp (.lst (pv11 ++ [.ref qp]))) := (Kp.put (by simp)).trans (Kp.put (by simp))
                  refine hN _ _ ⟨rfl, [(wy.1, z.1)], ea ▸ iP, Evl.Ex.mut (Evl.Ex.mut e111 (Evl.fresh_back (e2) hD)) (Evl.fresh_back (e2.trans e3) hLp), ea ▸ nd2, ea ▸ bx2, nn (Ne.symm nrD) (Ne.symm nrP) hr11, hrd11.ex kk.ex, nn (fun z => by rw [z, hd11] at hqz11; cases hqz11) (fun z => by rw [z, hp11] at hqz11; cases hqz11) hqz11, nn (fun z => by rw [z, hd11] at hqp11; cases hqp11) (fun z => by rw [z, hp11] at hqp11; cases hqp11) hqp11, ?_⟩
                  rw [← ea]
                  exact List.mem_append.mpr (.inr List.mem_cons_self)
              · rintro σ H12 ⟨rfl, more2, i12, e112, nd12, bx12, hr12, hrd12, hqz12, hqp12, hmem⟩
                obtain ⟨kvs, hd12, hdp12⟩ := i12.d
                walk_at "rc"
                refine ⟨.inl ⟨rfl, _, SqL.of hr12⟩, ?_⟩
                walk_at "rc"
                have gd := DGet.t (k := pk (wy.1, z.1)) hd12 hqp12
                rw [hdp12.y _ hmem] at gd
                refine ⟨D, _, rfl, gd, ?_⟩
                walk_at "rc"
                refine rd_ixT (v := .str z.2) (Evl.st_of hqz12) (atI_nat (j := 1) rfl) ?_
                walk_at "rc"
                refine ⟨by show 2 ≤ sizeLine; decide, fun qr hqr => ?_⟩
                have e13 : Ex H12 (upd H12 qr (.tup [.int ((ps ++ (more ++ more2)).idxOf (wy.1, z.1) : Nat), .str z.2])) := Evl.Ex.new hqr
                have ew : wayC ls r2 (ps ++ (more ++ more2)) p.2 (some wy) = some ((((ps ++ (more ++ more2)).idxOf (wy.1, z.1) : Nat) : Int), z.2) := by
                  show (thenF ls r2 p.2 wy.2).map _ = _
                  rw [hz']; rfl
                have dqr : Dp K (hid [Lr, Lt, Lf, Lp, D] (upd H12 qr (.tup [.int ((ps ++ (more ++ more2)).idxOf (wy.1, z.1) : Nat), .str z.2]))) (.ref qr) (encW (wayC ls r2 (ps ++ (more ++ more2)) p.2 (some wy))) := by
                  rw [ew]
                  exact Dp.newT hqr (notin_of i12.st hqr) (.cons (.int _) (.cons (.str _) .nil))
                exact grow more2 _ _ _ _ _ (i12.go e13) (e112.trans e13) nd12 bx12 (e13 _ _ hr12) (hrd12.ex (Ex.hid e13)) dqr (fun w e y hy => by
                  cases e
                  rw [hz'] at hy
                  cases hy
                  exact hmem)
        · rintro σ H9 ⟨more, k11, k12, k13, rv, rfl, i9, e19, nd9, bx9, hr9, hrd, cl9⟩
          rw [List.length_map, List.take_length] at hrd cl9
          have hi' : D ∈ [Lt, Lf, Lp, D] ∧ Lp ∈ [Lt, Lf, Lp, D] ∧ Lf ∈ [Lt, Lf, Lp, D] ∧ Lt ∈ [Lt, Lf, Lp, D] := ⟨by simp, by simp, by simp, by simp⟩
          have j9 := i9.show' hi'
          have dLr := Dp.frz (ds := (row.map (wayC ls r2 (ps ++ more) p.2)).map encW) hr9 nrS hrd
          obtain ⟨fv9, hf9, hfd9⟩ := j9.lf
          have B9 := hB.ex j9.ex
          have hst2 : p.1.toNat < r1.fin.length := by omega
          have fl9 : fv9.length = k := by
            have := hfd9.len
            rw [List.length_map, List.length_map, List.length_take] at this
            omega
          walk_at "rc"
          refine ⟨.inl ⟨rfl, _, SqL.of hf9⟩, ?_⟩
          walk_at "rc"
          refine ⟨a, _, dx1, _, _, rfl, j9.ex _ _ hm1, T.cl_Rewriter, T.na_Rewriter_finals, rfl, ?_⟩
          walk_at "rc"
          rw [ep1]
          refine rd_ixDT j9.ex hF1 (d := encO r1.fin[p.1.toNat]) (by rw [List.getElem?_map, List.getElem?_eq_getElem hst2]; rfl) fun v5 hv5 => ?_
          rw [← ep1]
          walk_at "rc"
          refine ⟨v5, b, p.2, ls, r2, r1.fin[p.1.toNat], rfl, hv5.ex j9.ex, B9, g2, bd2, p20, p21, fun s hs => ?_, fun H10 e10 => ?_⟩
          · have hm := mem_fin (r := r1) (hs ▸ List.getElem_mem hst2)
            exact ⟨g1.2.2.2 _ hm, bd1.t _ hm⟩
          have eF : finC ls r1 r2 p = endC ls r2 p.2 r1.fin[p.1.toNat] := by
            unfold finC
            rw [List.getD_eq_getElem?_getD, List.getElem?_eq_getElem hst2]
            rfl
          rw [← eF]
          have j10 := j9.go e10
          walk_at "rc"
          have dfe : Dp K (hid [Lt, Lf, Lp, D] H10) (match finC ls r1 r2 p with | none => .non | some u => .str u) (encO (finC ls r1 r2 p)) := by
            cases finC ls r1 r2 p with
            | none => exact .non
            | some u => exact .str u
          refine ⟨Lf, fv9, _, rfl, rfl, e10 _ _ hf9, by omega, ?_⟩
          have j11 := j10.fin (e10 _ _ hf9) (hfd9.ex (Ex.hid e10)) dfe
          have dLr11 := (dLr.ex (Ex.hid e10)).ex (Kp.put (H := H10) (q := Lf) (o := .lst (fv9 ++ [match finC ls r1 r2 p with | none => .non | some u => .str u])) (S := [Lt, Lf, Lp, D]) (by simp)).ex
          have e111 : Ex H1 (upd H10 Lf (.lst (fv9 ++ [match finC ls r1 r2 p with | none => .non | some u => .str u]))) := Evl.Ex.mut (e19.trans e10) (Evl.fresh_back ((e2.trans e3).trans e4) hLf)
          generalize upd H10 Lf (.lst (fv9 ++ [match finC ls r1 r2 p with | none => .non | some u => .str u])) = H11 at j11 dLr11 e111
          obtain ⟨tv11, ht11, htd11⟩ := j11.lt
          have tl11 : tv11.length = k := by
            have := htd11.len
            rw [List.length_map, List.length_map, List.length_take] at this
            omega
          walk_at "rc"
          refine ⟨.inl ⟨rfl, _, SqL.of ht11⟩, ?_⟩
          walk_at "rc"
          refine ⟨Lt, tv11, .ref Lr, rfl, rfl, ht11, by omega, ?_⟩
          have j12 := j11.tab ht11 htd11 dLr11
          have tk : (ps ++ more).take (k + 1) = ps.take k ++ [p] := by
            rw [List.take_append_of_le_length (by omega), List.take_succ, hpk]
            rfl
          have eA : (ps.take k).map (finC ls r1 r2) ++ [finC ls r1 r2 p] = ((ps ++ more).take (k + 1)).map (finC ls r1 r2) := by rw [tk, List.map_append]; rfl
          have eB : (ps.take k).map (rowC ls r1 r2 ps) ++ [row.map (wayC ls r2 (ps ++ more) p.2)] = ((ps ++ more).take (k + 1)).map (rowC ls r1 r2 (ps ++ more)) := by
            rw [tk, List.map_append]
            have e1 : (ps.take k).map (rowC ls r1 r2 (ps ++ more)) = (ps.take k).map (rowC ls r1 r2 ps) := List.map_congr_left fun x hx => rowC_pre (cl x hx)
            have e2 : [p].map (rowC ls r1 r2 (ps ++ more)) = [row.map (wayC ls r2 (ps ++ more) p.2)] := by
              show [(r1.tab.getD p.1.toNat []).map _] = _
              rw [erow]
            rw [e1, e2]
          rw [eA, eB] at j12
          have lm : (ps ++ more).length = ps.length + more.length := List.length_append
          refine ⟨m - 1, by omega, ps ++ more, k + 1, _, _, _, _, _, _, rfl, j12, Evl.Ex.mut e111 (Evl.fresh_back (((e2.trans e3).trans e4).trans e5) hLt), by omega, nd9, bx9, ?_, fun x hx => ?_, by omega⟩
          · rw [List.getElem?_append_left (by omega)]
            exact h0
          · rw [tk] at hx
            rcases List.mem_append.mp hx with y | y
            · exact fun w hw z hz => List.mem_append.mpr (.inl (cl x y w hw z hz))
            · rw [List.mem_singleton.mp y]
              exact fun w hw z hz => cl9 w (by rw [← erow]; exact hw) z hz
      · have hkk : k = ps.length := by omega
        subst hkk
        have hp0 : 0 < ps.length := (List.getElem?_eq_some_iff.mp h0).1
        rw [List.take_length] at cl
        rw [List.take_length] at htd hfd
        obtain ⟨z11, z12, z13, z14⟩ := thenF_in g2 s2 (Int.le_refl 0) (by omega) lt1 hz0
        walk_at "rc"
        refine ⟨a, _, dx1, _, _, rfl, it.ex _ _ hm1, T.cl_Rewriter, T.na_Rewriter_letters, rfl, ?_⟩
        walk_at "rc"
        refine ⟨b, _, dx2, _, _, rfl, it.ex _ _ hm2, T.cl_Rewriter, T.na_Rewriter_lead, rfl, ?_⟩
        walk_at "rc"
        refine rd_ixT (v := .str z0.2) (Evl.ex_t e17 tq) (atI_nat (j := 1) rfl) ?_
        have sl2 : sizeLine ≥ 1000000 := by decide
        have zl : z0.2.length ≤ 300 * 300 := Nat.le_trans z13 (Nat.mul_le_mul (by omega) b2)
        refine rd_addS (x := r2.lead) (y := z0.2) (by omega) ?_
        walk_at "rc"
        intro x dx hx hdx ne
        have ex6 := upd2_ex (C := T.C_Rewriter) hx hdx
        have g12 := comp_good g1 g2 s1 s2 bx cl (by omega) hz0
        have s12 : SmB (B2 + B1 * B2) (max (n1 * n2) ls.length) (compC ls r1 r2 (r2.lead ++ z0.2) ps) := by
          refine ⟨fun t ht => (comp_texts g1 g2 s1 s2 bx hz0 t ht).2, ?_, ?_, fun row hr => ?_⟩
          · show (ps.map _).length ≤ _
            rw [List.length_map]; omega
          · show (ps.map _).length ≤ _
            rw [List.length_map]; omega
          · rw [(g12.2.2.1 row hr).1]; omega
        have h0l : 0 < ps.length := by omega
        refine ⟨x, dx, _, _, ls, compC ls r1 r2 (r2.lead ++ z0.2) ps, (ps.map (rowC ls r1 r2 ps)).map rowL, rfl, by omega, s12.bnd b3 (by omega), upd_same, .inl ((Dp.lst (SqL.of hf7) (hfd.ex hid_ex)).ex ex6), .inl ((Dp.lst (SqL.of ht7) (htd.ex hid_ex)).ex ex6), rowsD_L _, fun _ H' kx hrw => ⟨rfl, ?_⟩, fun ng => absurd g12 ng⟩
        exact q x _ H' (it.ex.trans (made_ex hx hdx ne kx)) hrw g12 s12 fun t ht => comp_right nd g1 (fun p hp => (bx p hp).1) cl h0 hz0 ht
end
/-! ### all texts of few letters -/
def spTexts : Sp := fun vs H Q _ => ∃ (ls : Str) (most b : Nat), vs = [.str ls, .int (most : Int)] ∧ ls.length ≤ b ∧ 0 < b ∧ b ≤ 3 ∧ most ≤ 9 ∧ (most + 1) * b ^ most < 100000 ∧ ∀ (p : Addr) (ts : List Str) (H' : Hp), Ex H H' → H' p = some (.lst (ts.map V.str)) → (∀ t ∈ ts, isT ls t ∧ t.length ≤ most) → ts.length < 100000 → Q (.ref p) H'
theorem pow_le3 {l k m : Nat} (h : l ≤ 3) (hk : k ≤ m) : l ^ k ≤ 3 ^ m := Nat.le_trans (Nat.pow_le_pow_left h k) (Nat.pow_le_pow_right (by decide) hk)
theorem ok_texts (T : Txt K mg) : FnOk P w K mg base CX0 1 T.a_texts T.d_texts ["letters", "most"] spTexts := by
  refine T.f_texts.ok sc_texts (fun vs H Q E h => ?_) (fun cdv A outer s H vs Q E hr h => ?_)
  · obtain ⟨_, _, _, rfl, _⟩ := h; rfl
  · obtain ⟨ls, most, b, rfl, lb, b0, b3, m9, mb, q⟩ := h
    have l3 : ls.length ≤ 3 := Nat.le_trans lb b3
    have sl : sizeLine ≥ 1000000 := by decide
    have p9 : (3 : Nat) ^ 9 = 19683 := by decide
    refine ⟨_, (pss_cons (ps_set (i := 2) sc_texts.nd rfl (by first | exact Or.inl rfl | exact Or.inr rfl) (pe_lst (pa_cons pe_str pa_nil)))
  (pss_cons (ps_set (i := 3) sc_texts.nd rfl (by first | exact Or.inl rfl | exact Or.inr rfl) (pe_lst (pa_cons pe_str pa_nil)))
  (pss_cons (ps_for PassesOwn.never rfl (pi_range1 (by rfl) T.nb_range (pa_cons (pv 1) pa_nil)) (pg_name (i := 4) sc_texts.nd rfl (by first | exact Or.inl rfl | exact Or.inr rfl))
    (pss_cons (ps_set (i := 5) sc_texts.nd rfl (by first | exact Or.inl rfl | exact Or.inr rfl) (pe_lst pa_nil))
  (pss_cons (ps_for PassesOwn.never rfl (kAny K rfl (pv 2)) (pg_name (i := 6) sc_texts.nd rfl (by first | exact Or.inl rfl | exact Or.inr rfl))
    (pss_one (ps_set (i := 5) sc_texts.nd rfl (by first | exact Or.inl rfl | exact Or.inr rfl) (pe_op (kAdd K) (pv 5) (pe_lc (own := [("letter", 7)]) (g := gName 7) (tt := tYes) (by rfl) sc_texts.nd (kAny K rfl (pv 0)) (blkOk_by (own := [("letter", 7)]) (N := ["letters", "most", "last", "rows", "k", "longer", "text", "letter"]) (sc := defScope s_texts) (by decide +kernel)) (fun _ _ _ _ _ => (pg_name (i := 7) sc_texts.nd rfl (by first | exact Or.inl rfl | exact Or.inr rfl))) (fun _ _ _ _ _ => pts_nil) (fun _ _ _ _ _ => (pe_op (kAdd K) (pv 6) (pv 7))))))))
  (pss_cons (ps_set (i := 2) sc_texts.nd rfl (by first | exact Or.inl rfl | exact Or.inr rfl) (pv 5))
  (pss_one (ps_set (i := 3) sc_texts.nd rfl (by first | exact Or.inl rfl | exact Or.inr rfl) (pe_op (kAdd K) (pv 3) (pv 2))))))))
  (pss_one (ps_ret (pv 3)))))), ?_⟩
    walk_at "rc"
    refine ⟨by decide, fun p1 hp1 => ?_⟩
    have e1 : Ex H (upd H p1 (.lst [.str ""])) := Evl.Ex.new hp1
    have h1 : upd H p1 (.lst [.str ""]) p1 = some (.lst (([""] : List Str).map V.str)) := upd_same
    generalize upd H p1 (.lst [.str ""]) = H1 at e1 h1
    walk_at "rc"
    refine ⟨by decide, fun p2 hp2 => ?_⟩
    have e2 : Ex H1 (upd H1 p2 (.lst [.str ""])) := Evl.Ex.new hp2
    have h2 : upd H1 p2 (.lst [.str ""]) p2 = some (.lst (([""] : List Str).map V.str)) := upd_same
    generalize upd H1 p2 (.lst [.str ""]) = H2 at e2 h2
    walk_at "rc"
    walk_at "rs"
    walk_at "rc"
    refine ⟨(most : Int), rfl, by omega, by omega, fo_range (n := (most : Int).toNat) (fun k σ H' => ∃ (la ro : Addr) (ws ts : List Str) (k4 k5 k6 k7 : Option V), σ = [some (.str ls), some (.int (most : Int)), some (.ref la), some (.ref ro), k4, k5, k6, k7] ∧ Ex H H' ∧ H' la = some (.lst (ws.map V.str)) ∧ H' ro = some (.lst (ts.map V.str)) ∧ (∀ t ∈ ws, isT ls t ∧ t.length ≤ k) ∧ (∀ t ∈ ts, isT ls t ∧ t.length ≤ k) ∧ ws.length ≤ b ^ k ∧ ts.length ≤ (k + 1) * b ^ k)
      ⟨p1, p2, [""], [""], _, _, _, _, rfl, e1.trans e2, e2 _ _ h1, h2, fun t ht => by rw [List.mem_singleton.mp ht]; exact ⟨(fun c hc => nomatch hc), Nat.zero_le _⟩, fun t ht => by rw [List.mem_singleton.mp ht]; exact ⟨(fun c hc => nomatch hc), Nat.zero_le _⟩, by rw [Nat.pow_zero]; decide, by rw [Nat.pow_zero]; decide⟩ ?_ ?_⟩
    · rintro k σ H3 hk ⟨la, ro, ws, ts, k4, k5, k6, k7, rfl, e3, hla, hro, hws, hts, lw, lt⟩
      have hk9 : k < 9 := by omega
      have pk9 : b ^ k ≤ 3 ^ 8 := pow_le3 b3 (by omega)
      have p8 : (3 : Nat) ^ 8 = 6561 := by decide
      walk_at "rc"
      refine ⟨by decide, fun lo hlo => ?_⟩
      have e4 : Ex H3 (upd H3 lo (.lst [])) := Evl.Ex.new hlo
      have h4 : upd H3 lo (.lst []) lo = some (.lst (([] : List Str).map V.str)) := upd_same
      generalize upd H3 lo (.lst []) = H4 at e4 h4
      walk_at "rc"
      walk_at "rs"
      walk_at "rc"
      refine rd_anyL (fun Q q => ⟨_, rfl, q⟩) (SqL.of (e4 _ _ hla)) (fo_list (fun i σ H' => ∃ (lo : Addr) (us : List Str) (k6 k7 : Option V), σ = [some (.str ls), some (.int (most : Int)), some (.ref la), some (.ref ro), some (.int (k : Nat)), some (.ref lo), k6, k7] ∧ Ex H3 H' ∧ H' lo = some (.lst (us.map V.str)) ∧ (∀ t ∈ us, isT ls t ∧ t.length ≤ k + 1) ∧ us.length ≤ i * b)
        ⟨lo, [], _, _, rfl, e4, h4, (fun t ht => nomatch ht), by simp⟩ (fun i σ H' _ ⟨_, _, _, _, _, e, _, _, _⟩ => SqL.of (e _ _ hla)) ?_ ?_)
      · rintro i x σ H5 hi ⟨lo, us, k6, k7, rfl, e5, hlo5, hus, lu⟩
        rw [List.getElem?_map] at hi
        obtain ⟨t, ht, rfl⟩ := Option.map_eq_some_iff.mp hi
        have htm := hws t (List.mem_of_getElem? ht)
        have hiw := (List.getElem?_eq_some_iff.mp ht).1
        walk_at "rc"
        refine rd_anyS (fun Q q => ⟨_, rfl, q⟩) ?_
        refine lc_F (K := K) (S := []) (P := fun i x => ∃ c, ls.cps.toList[i]? = some c ∧ x = V.str ⟨#[c]⟩) tr_ex (fun b hb => nomatch hb) walk_str str_Y (by show ls.length < 100000; omega) (fun _ _ => True.intro) (fun _ => true) (fun i => .str (t ++ (⟨#[ls.cps.toList.getD i 0]⟩ : Str))) (hg_name fun v => rfl) (fun L i σ2 Hc hi p2 hL nL t1 hs1 up N hN => rd_yes (hN Hc (Evl.Ex.refl Hc))) (fun L i σ2 Hc hi p2 hp2 hL nL t1 hs1 up N hN => ?_) fun L vs H6 e6 hL nL hvs hds => ?_
        · obtain ⟨x, ⟨c, hc, rfl⟩, rfl⟩ := p2
          walk_at "rc"
          have e : ls.cps.toList.getD i 0 = c := by rw [List.getD_eq_getElem?_getD, hc]; rfl
          refine rd_addS (x := t) (y := ⟨#[c]⟩) (by show t.length + 1 ≤ sizeLine; omega) ?_
          refine hN _ Hc (Evl.Ex.refl Hc) ?_
          rw [e]
          exact .str _
        · have ev : ((List.range ls.cps.size).filter (fun _ => true)).map (fun i => PyData.str (t ++ (⟨#[ls.cps.toList.getD i 0]⟩ : Str))) = (ls.cps.toList.map fun c => t ++ (⟨#[c]⟩ : Str)).map PyData.str := by
            have := getD_range ls.cps.toList 0 (fun _ => true) (fun c => PyData.str (t ++ (⟨#[c]⟩ : Str)))
            rw [List.filter_eq_self.mpr (fun _ _ => rfl)] at this ⊢
            rw [List.map_map]
            rw [List.filter_eq_self.mpr (fun _ _ => rfl)] at this
            exact this
          rw [ev] at hds
          have ee := dp_strs hds
          subst ee
          have lsl : ls.cps.toList.length = ls.length := rfl
          have lib : i * b ≤ 6561 * 3 := Nat.mul_le_mul (by omega) b3
          refine rd_cat (e6 _ _ hlo5) hvs (by rw [List.length_map, List.length_map, List.length_map]; omega) fun p7 hp7 => ?_
          walk_at "rc"
          refine ⟨p7, us ++ ls.cps.toList.map fun c => t ++ (⟨#[c]⟩ : Str), _, _, rfl, ex_upd (e5.trans e6) hp7, by rw [upd_same, List.map_append], fun u hu => ?_, by rw [List.length_append, List.length_map, Nat.succ_mul i b]; exact Nat.add_le_add lu lb⟩
          rcases List.mem_append.mp hu with y | y
          · exact hus u y
          · obtain ⟨c, hc, rfl⟩ := List.mem_map.mp y
            refine ⟨fun d hd => ?_, by rw [str_len]; show t.length + 1 ≤ k + 1; omega⟩
            rw [tl_app] at hd
            rcases List.mem_append.mp hd with z | z
            · exact htm.1 d z
            · rw [List.mem_singleton.mp z]; exact hc
      · rintro σ H5 ⟨lo, us, k6, k7, rfl, e5, hlo5, hus, lu⟩
        rw [List.length_map] at lu
        walk_at "rc"
        have hro5 := e5 _ _ hro
        have p1k : b ^ (k + 1) = b ^ k * b := Nat.pow_succ ..
        have lu' : us.length ≤ b ^ (k + 1) := by rw [p1k]; exact Nat.le_trans lu (Nat.mul_le_mul_right b lw)
        have lu2 : us.length ≤ 19683 := Nat.le_trans lu' (p9 ▸ pow_le3 b3 (by omega))
        have lt' : ts.length ≤ 9 * 6561 := Nat.le_trans lt (Nat.mul_le_mul (by omega) (by omega))
        refine rd_cat hro5 hlo5 (by rw [List.length_map, List.length_map]; omega) fun p6 hp6 => ?_
        walk_at "rc"
        refine ⟨lo, p6, us, ts ++ us, _, _, _, _, rfl, ex_upd (e3.trans e5) hp6, at_upd hp6 hlo5, by rw [upd_same, List.map_append], hus, fun t ht => ?_, lu', ?_⟩
        · rcases List.mem_append.mp ht with y | y
          · exact ⟨(hts t y).1, Nat.le_succ_of_le (hts t y).2⟩
          · exact hus t y
        · rw [List.length_append]
          have a1 : (k + 1 + 1) * b ^ (k + 1) = (k + 1) * b ^ k * b + b ^ (k + 1) := by rw [Nat.succ_mul, p1k, Nat.mul_assoc]
          have a2 : (k + 1) * b ^ k ≤ (k + 1) * b ^ k * b := Nat.le_mul_of_pos_right _ b0
          rw [a1]
          exact Nat.add_le_add (Nat.le_trans lt a2) lu'
    · rintro σ H3 ⟨la, ro, ws, ts, k4, k5, k6, k7, rfl, e3, hla, hro, hws, hts, lw, lt⟩
      rw [Int.toNat_natCast] at hts lt
      walk_at "rc"
      exact q ro ts H3 e3 hro hts (Nat.lt_of_le_of_lt lt mb)
/-! ### the law's own helpers -/
/-- parts as the law holds them -/
def partsL (r : Parts) : PyData := .tuple [.str r.lead, .list (r.fin.map encO), .list (r.tab.map rowL)]
def spMaker : Sp := fun vs H Q _ => ∃ (p : Addr) (ls : Str) (most : Nat) (S : List Addr), vs = [.str ls, .ref p, .int (most : Int)] ∧ 0 < ls.length ∧ ls.length ≤ 10 ∧ 0 < most ∧ most ≤ 10 ∧ StAt H p ∧ p ∈ S ∧ (∀ b ∈ S, ∃ o, H b = some o) ∧
  ∀ (v : V) (r : Parts) (H' : Hp), Dp K (hid S H') v (partsL r) → goodR ls r → SmB 2 (max most ls.length) r → Dr p H H' → Q v H'
theorem ok_maker (T : Txt K mg) : FnOk P w K mg base CX0 3 T.a_maker T.d_maker ["letters", "state", "most"] (spMaker (K := K)) := by
  refine T.f_maker.ok sc_maker (fun vs H Q E h => ?_) (fun cdv A outer s H vs Q E hr h => ?_)
  · obtain ⟨_, _, _, _, rfl, _⟩ := h; rfl
  · obtain ⟨p, ls, most, S, rfl, l0, l1, m0, m1, hS, hp, hs, q⟩ := h
    refine ⟨_, (pss_cons (ps_set (i := 3) sc_maker.nd rfl (by first | exact Or.inl rfl | exact Or.inr rfl) (pe_op (kAdd K) pe_int (pe_callE (ok_next T) (hr.mono (by decide)) T.o_next (pa_cons (pv 1) (pa_cons (pv 2) pa_nil)))))
  (pss_cons (ps_setLc (i := 4) (own := [("k", 5)]) (g := gName 5) (tt := tYes) (by rfl) sc_maker.nd rfl rfl (sw_true rfl rfl rfl (by decide +kernel)) (pi_range1 (by rfl) T.nb_range (pa_cons (pv 3) pa_nil)) (blkOk_by (own := [("k", 5)]) (N := ["letters", "state", "most", "many", "finals", "k", "table", "row", "letter", "way"]) (sc := defScope s_maker) (by decide +kernel)) (fun _ _ _ _ _ => (pg_name (i := 5) sc_maker.nd rfl (by first | exact Or.inl rfl | exact Or.inr rfl))) (fun _ _ _ _ _ => pts_nil) (fun _ _ _ _ _ => (pe_ifExp (pt_cmpR (kEq K rfl hr.units) (pe_callE (ok_next T) (hr.mono (by decide)) T.o_next (pa_cons (pv 1) (pa_cons pe_int pa_nil))) pe_int (by first | rfl | exact nomark _)) pe_non (pe_callE (ok_word T) (hr.mono (by decide)) T.o_word (pa_cons (pv 0) (pa_cons (pv 1) (pa_cons pe_int pa_nil)))))))
  (pss_cons (ps_set (i := 6) sc_maker.nd rfl (by first | exact Or.inl rfl | exact Or.inr rfl) (pe_lst pa_nil))
  (pss_cons (ps_for PassesOwn.never rfl (pi_range1 (by rfl) T.nb_range (pa_cons (pv 3) pa_nil)) (pg_name (i := 5) sc_maker.nd rfl (by first | exact Or.inl rfl | exact Or.inr rfl))
    (pss_cons (ps_set (i := 7) sc_maker.nd rfl (by first | exact Or.inl rfl | exact Or.inr rfl) (pe_lst pa_nil))
  (pss_cons (ps_for PassesOwn.never rfl (kAny K rfl (pv 0)) (pg_name (i := 8) sc_maker.nd rfl (by first | exact Or.inl rfl | exact Or.inr rfl))
    (pss_cons (ps_set (i := 9) sc_maker.nd rfl (by first | exact Or.inl rfl | exact Or.inr rfl) (pe_tup (pa_cons (pe_callE (ok_next T) (hr.mono (by decide)) T.o_next (pa_cons (pv 1) (pa_cons (pv 3) pa_nil))) (pa_cons (pe_callE (ok_word T) (hr.mono (by decide)) T.o_word (pa_cons (pv 0) (pa_cons (pv 1) (pa_cons pe_int pa_nil)))) pa_nil))))
  (pss_one (ps_expr (kBm K rfl (pe_bm PySem.F.plainAttrs_list PySem.F.slot_list_append PySem.F.type_list_append mt_append (pv 7) (pa_cons (pe_ifExp (pt_cmpR (kEq K rfl hr.units) (pe_callE (ok_next T) (hr.mono (by decide)) T.o_next (pa_cons (pv 1) (pa_cons pe_int pa_nil))) pe_int (by first | rfl | exact nomark _)) pe_non (pv 9)) pa_nil)))))))
  (pss_one (ps_expr (kBm K rfl (pe_bm PySem.F.plainAttrs_list PySem.F.slot_list_append PySem.F.type_list_append mt_append (pv 6) (pa_cons (pv 7) pa_nil))))))))
  (pss_one (ps_ret (pe_tup (pa_cons (pe_callE (ok_word T) (hr.mono (by decide)) T.o_word (pa_cons (pv 0) (pa_cons (pv 1) (pa_cons pe_int pa_nil)))) (pa_cons (pv 4) (pa_cons (pv 6) pa_nil)))))))))), ?_⟩
    walk_at "rc"
    refine ⟨p, most, rfl, by omega, hS, fun n0 H1 r0 r1 S1 o1 i1 => ?_⟩
    have d1 : Dr p H H1 := ⟨S1, o1, i1.2⟩
    obtain ⟨n1, rfl⟩ := Int.eq_ofNat_of_zero_le r0
    have en : (1 : Int) + (n1 : Int) = ((1 + n1 : Nat) : Int) := by omega
    refine rd_addI ?_
    rw [en]
    have hn : 1 + n1 ≤ 10 := by omega
    have hn0 : 1 + n1 ≤ most := by omega
    generalize hnn : 1 + n1 = n at hn hn0
    have n0 : 0 < n := by omega
    have hs1 : ∀ b ∈ S, ∃ o, H1 b = some o := fun b hb => d1.st' (hs b hb)
    walk_at "rc"
    refine ⟨(n : Int), rfl, by omega, by omega, ?_⟩
    rw [Int.toNat_natCast]
    refine lc_R (K := K) (S := S) (P := fun i x => x = V.int (i : Nat)) (tr_dr S1 hp) hs1 walk_range0 rng_Y (by omega) (fun _ _ => True.intro) (fun i d => ∃ o : Option Str, d = encO o ∧ ∀ s, o = some s → isT ls s ∧ s.length ≤ 2) (hg_name fun v => rfl) (fun L i σ2 Hc hi p2 hL nL dc hs up N hN => ?_) fun Lf uf H2 ds d2 hLf nLf huf hdf hlf hRf => ?_
    · obtain ⟨v, rfl, rfl⟩ := p2
      refine rd_ife ?_
      walk_at "rc"
      refine ⟨p, 4, rfl, by decide, dc.st, fun r H3 q0 q1 S3 o3 i3 => ?_⟩
      have d3 : Dr p Hc H3 := ⟨S3, o3, i3.2⟩
      walk_at "rc"
      refine rd_iteD (fun _ => ?_) (fun _ => ?_)
      · exact hN _ _ _ d3 .non ⟨none, rfl, fun s z => by cases z⟩
      · walk_at "rc"
        refine ⟨p, ls, 2, rfl, l0, by omega, by decide, S3, fun t H4 ht tl d4 => ?_⟩
        exact hN _ _ _ (d3.trans d4) (.str t) ⟨some t, rfl, fun s z => by cases z; exact ⟨ht, tl⟩⟩
    obtain ⟨fin, rfl, hfin⟩ := map_ofD (f := encO) ds hRf
    rw [List.length_map] at hlf
    have dH2 := d1.trans d2
    have S2 := d2.st
    have hs2 : ∀ b ∈ S, ∃ o, H2 b = some o := fun b hb => d2.st' (hs1 b hb)
    have fF : Dp K (hid S H2) (.ref Lf) (.list (fin.map encO)) := Dp.frz huf nLf hdf
    walk_at "rc"
    refine ⟨by decide, fun Lt hLt => ?_⟩
    have nLt : Lt ∉ S := notin_of hs2 hLt
    have d3 : Dr p H2 (upd H2 Lt (.lst [])) := (Dr.refl S2).put S2 hLt
    have hLt3 : upd H2 Lt (.lst []) Lt = some (.lst []) := upd_same
    have fF3 := fF.ex (Kp.up (M := S) (S := Lt :: S) (d3.kp hp) fun b hb hn => by
      rcases List.mem_cons.mp hb with z | z
      · rw [z]; exact hLt
      · exact absurd z hn)
    generalize upd H2 Lt (.lst []) = H3 at d3 hLt3 fF3
    walk_at "rc"
    walk_at "rs"
    walk_at "rc"
    have pl : Lt ≠ p := fun z => nLt (z ▸ hp)
    refine ⟨(n : Int), rfl, by omega, by omega, fo_range (n := (n : Int).toNat) (fun i σ H' => (∃ k5 k7 k8 k9 : Option V, σ = [some (.str ls), some (.ref p), some (.int (most : Int)), some (.int (n : Nat)), some (.ref Lf), k5, some (.ref Lt), k7, k8, k9]) ∧ Dr p H2 H' ∧ Dp K (hid (Lt :: S) H') (.ref Lf) (.list (fin.map encO)) ∧
      ∃ us tab, H' Lt = some (.lst us) ∧ DpAll K (hid (Lt :: S) H') us (tab.map rowL) ∧ tab.length = i ∧ ∀ row ∈ tab, row.length = ls.length ∧ ∀ w, some w ∈ row → (0 ≤ w.1 ∧ w.1 < (n : Int)) ∧ isT ls w.2 ∧ w.2.length ≤ 2)
      ⟨⟨none, none, none, none, rfl⟩, d3, fF3, [], [], hLt3, .nil, rfl, fun row hr => nomatch hr⟩ ?_ ?_⟩
    · rintro i σ H4 hi ⟨⟨k5, k7, k8, k9, rfl⟩, d4, fF4, us, tab, hu4, ht4, tl4, tg4⟩
      have S4 := d4.st
      have hs4 : ∀ b ∈ Lt :: S, ∃ o, H4 b = some o := fun b hb => by
        rcases List.mem_cons.mp hb with z | z
        · rw [z]; exact ⟨_, hu4⟩
        · exact d4.st' (hs2 b z)
      have hp1 : p ∈ Lt :: S := List.mem_cons_of_mem _ hp
      walk_at "rc"
      refine ⟨by decide, fun Lr hLr => ?_⟩
      have nLr : Lr ∉ Lt :: S := notin_of hs4 hLr
      have d5 : Dr p H4 (upd H4 Lr (.lst [])) := (Dr.refl S4).put S4 hLr
      have hLr5 : upd H4 Lr (.lst []) Lr = some (.lst []) := upd_same
      have d45 : Dr p H2 (upd H4 Lr (.lst [])) := d4.put S2 (d4.back S2 hLr)
      generalize upd H4 Lr (.lst []) = H5 at d5 hLr5 d45
      walk_at "rc"
      walk_at "rs"
      walk_at "rc"
      refine rd_anyS (fun Q q => ⟨_, rfl, q⟩) (fo_str (fun j σ H' => (∃ k8 k9 : Option V, σ = [some (.str ls), some (.ref p), some (.int (most : Int)), some (.int (n : Nat)), some (.ref Lf), some (.int (i : Nat)), some (.ref Lt), some (.ref Lr), k8, k9]) ∧ Dr p H4 H' ∧
        ∃ vs row, H' Lr = some (.lst vs) ∧ DpAll K (hid (Lr :: Lt :: S) H') vs (row.map encW) ∧ row.length = j ∧ ∀ w, some w ∈ row → (0 ≤ w.1 ∧ w.1 < (n : Int)) ∧ isT ls w.2 ∧ w.2.length ≤ 2)
        ⟨⟨_, _, rfl⟩, d5, [], [], hLr5, .nil, rfl, fun w hw => nomatch hw⟩ ?_ ?_)
      · rintro j c σ H6 hj ⟨⟨k8, k9, rfl⟩, d6, vs, row, hv6, hr6, rl6, rg6⟩
        have S6 := d6.st
        have hp2 : p ∈ Lr :: Lt :: S := List.mem_cons_of_mem _ hp1
        have hs6 : ∀ b ∈ Lr :: Lt :: S, ∃ o, H6 b = some o := fun b hb => by
          rcases List.mem_cons.mp hb with z | z
          · rw [z]; exact ⟨_, hv6⟩
          · exact d6.st' (hs4 b z)
        have nrp : Lr ≠ p := fun z => nLr (z ▸ hp1)
        walk_at "rc"
        refine ⟨p, (n : Int), rfl, by omega, S6, fun a H7 a0 a1 S7 o7 i7 => ?_⟩
        have d7 : Dr p H6 H7 := ⟨S7, o7, i7.2⟩
        walk_at "rc"
        refine ⟨p, ls, 2, rfl, l0, by omega, by decide, S7, fun t H8 ht tl d8 => ?_⟩
        walk_at "rc"
        refine ⟨by show 2 ≤ sizeLine; decide, fun qa hqa => ?_⟩
        have d68 := d7.trans d8
        have nq : qa ∉ Lr :: Lt :: S := notin_of (fun b hb => d68.st' (hs6 b hb)) hqa
        have fq : Dp K (hid (Lr :: Lt :: S) (upd H8 qa (.tup [.int a, .str t]))) (.ref qa) (encW (some (a, t))) := Dp.newT hqa nq (.cons (.int a) (.cons (.str t) .nil))
        have d9 : Dr p H6 (upd H8 qa (.tup [.int a, .str t])) := d68.put S6 (d68.back S6 hqa)
        generalize upd H8 qa (.tup [.int a, .str t]) = H9 at fq d9
        walk_at "rc"
        have hv9 := d9.old _ _ nrp hv6
        refine ⟨.inl ⟨rfl, _, SqL.of hv9⟩, ?_⟩
        walk_at "rc"
        have fin' : ∀ (wy : Way) (v : V) (H10 : Hp), Dr p H6 H10 → Dp K (hid (Lr :: Lt :: S) H10) v (encW wy) → (∀ w, wy = some w → (0 ≤ w.1 ∧ w.1 < (n : Int)) ∧ isT ls w.2 ∧ w.2.length ≤ 2) → ∀ N : L2.St → Hp → Prop, ∀ σ', (∀ (vs' : List V) (row' : List Way), (upd H10 Lr (.lst vs')) Lr = some (.lst vs') → DpAll K (hid (Lr :: Lt :: S) (upd H10 Lr (.lst vs'))) vs' (row'.map encW) → row'.length = j + 1 → (∀ w, some w ∈ row' → (0 ≤ w.1 ∧ w.1 < (n : Int)) ∧ isT ls w.2 ∧ w.2.length ≤ 2) → Dr p H4 (upd H10 Lr (.lst vs')) → N σ' (upd H10 Lr (.lst vs'))) → rAppend (.ref Lr) [v] H10 fun _ H' => N σ' H' := by
          intro wy v H10 d10 fv hw N σ' hN
          refine ⟨Lr, vs, v, rfl, rfl, d10.old _ _ nrp hv6, ?_, hN _ (row ++ [wy]) upd_same ?_ (by rw [List.length_append, rl6]; rfl) (fun w hw' => ?_) ((d6.trans d10).put S4 hLr)⟩
          · have e1 := hr6.len
            have e2 := (List.getElem?_eq_some_iff.mp hj).1
            have e3 : ls.cps.toList.length = ls.length := rfl
            rw [List.length_map, rl6] at e1
            rw [e1]
            exact Nat.lt_of_lt_of_le (show j < 100 by omega) (by decide)
          · rw [List.map_append]
            exact ((hr6.ex (d10.kp hp2).ex).snoc fv).ex (Kp.put List.mem_cons_self).ex
          · rcases List.mem_append.mp hw' with z | z
            · exact rg6 w z
            · exact hw w (List.mem_singleton.mp z).symm
        refine rd_ife ?_
        walk_at "rc"
        refine ⟨p, 6, rfl, by decide, d9.st, fun b H10 b0 b1 S10 o10 i10 => ?_⟩
        have d10 : Dr p H9 H10 := ⟨S10, o10, i10.2⟩
        walk_at "rc"
        refine rd_iteD (fun _ => ?_) (fun _ => ?_)
        · walk_at "rc"
          exact fin' none .non H10 (d9.trans d10) .non (fun w z => by cases z) _ _ fun vs' row' z1 z2 z3 z4 z5 => ⟨⟨_, _, rfl⟩, z5, vs', row', z1, z2, z3, z4⟩
        · walk_at "rc"
          exact fin' (some (a, t)) _ H10 (d9.trans d10) (fq.ex (d10.kp hp2).ex) (fun w z => by cases z; exact ⟨⟨a0, a1⟩, ht, tl⟩) _ _ fun vs' row' z1 z2 z3 z4 z5 => ⟨⟨_, _, rfl⟩, z5, vs', row', z1, z2, z3, z4⟩
      · rintro σ H6 ⟨⟨k8, k9, rfl⟩, d6, vs, row, hv6, hr6, rl6, rg6⟩
        have hu6 := d6.old _ _ pl hu4
        have k6 := d6.kp hp1
        walk_at "rc"
        refine ⟨.inl ⟨rfl, _, SqL.of hu6⟩, ?_⟩
        walk_at "rc"
        have fr : Dp K (hid (Lt :: S) H6) (.ref Lr) (rowL row) := Dp.frz hv6 nLr hr6
        refine ⟨Lt, us, _, rfl, rfl, hu6, ?_, ⟨_, _, _, _, rfl⟩, (d4.trans d6).put S2 hLt, (fF4.ex k6.ex).ex (Kp.put List.mem_cons_self).ex, _, tab ++ [row], upd_same, ?_, by rw [List.length_append, tl4]; rfl, fun row' hr' => ?_⟩
        · have e1 := ht4.len
          rw [List.length_map, tl4] at e1
          rw [e1]
          exact Nat.lt_of_lt_of_le (show i < 100 by omega) (by decide)
        · rw [List.map_append]
          exact ((ht4.ex k6.ex).snoc fr).ex (Kp.put List.mem_cons_self).ex
        · rcases List.mem_append.mp hr' with z | z
          · exact tg4 row' z
          · rw [List.mem_singleton.mp z]
            exact ⟨rl6, rg6⟩
    · rintro σ H4 ⟨⟨k5, k7, k8, k9, rfl⟩, d4, fF4, us, tab, hu4, ht4, tl4, tg4⟩
      rw [Int.toNat_natCast] at tl4
      have fT : Dp K (hid S H4) (.ref Lt) (.list (tab.map rowL)) := Dp.frz hu4 nLt ht4
      have fF5 := fF4.ex hid_tail
      walk_at "rc"
      refine ⟨p, ls, 2, rfl, l0, by omega, by decide, d4.st, fun t H5 ht tl d5 => ?_⟩
      walk_at "rc"
      refine ⟨by show 3 ≤ sizeLine; decide, fun qa hqa => ?_⟩
      have d45 := d4.trans d5
      have nq : qa ∉ S := notin_of (fun b hb => d45.st' (hs2 b hb)) hqa
      have hD : Dp K (hid S (upd H5 qa (.tup [.str t, .ref Lf, .ref Lt]))) (.ref qa) (partsL ⟨t, fin, tab⟩) := Dp.newT hqa nq (.cons (.str t) (.cons (fF5.ex (d5.kp hp).ex) (.cons (fT.ex (d5.kp hp).ex) .nil)))
      have tx : ∀ x ∈ allTexts ⟨t, fin, tab⟩, isT ls x ∧ x.length ≤ 2 := fun x hx => by
        rcases List.mem_append.mp hx with z | z
        · rcases List.mem_cons.mp z with z | z
          · rw [z]; exact ⟨ht, tl⟩
          · obtain ⟨o, ho, e⟩ := List.mem_filterMap.mp z
            exact hfin o ho x e
        · obtain ⟨row, hr, hx⟩ := List.mem_flatMap.mp z
          obtain ⟨w, hw, rfl⟩ := List.mem_map.mp hx
          exact ((tg4 row hr).2 w (mem_ways.mp hw)).2
      refine q _ ⟨t, fin, tab⟩ _ hD ⟨?_, ?_, fun row hr => ?_, fun x hx => (tx x hx).1⟩ ⟨fun x hx => (tx x hx).2, ?_, ?_, fun row hr => ?_⟩ ((dH2.trans d45).put hS ((dH2.trans d45).back hS hqa))
      · show 0 < fin.length
        omega
      · show tab.length = fin.length
        omega
      · obtain ⟨a, b⟩ := tg4 row hr
        exact ⟨a, fun w hw => by
          have := (b w (mem_ways.mp hw)).1
          refine ⟨this.1, ?_⟩
          show w.1 < (fin.length : Int)
          omega⟩
      · show fin.length ≤ _
        omega
      · show tab.length ≤ _
        omega
      · have := (tg4 row hr).1
        omega
def spLRew : Sp := fun vs H Q _ => ∃ (ls t : Str) (v : V) (r : Parts), vs = [.str ls, v, .str t] ∧ Dp K H v (partsL r) ∧ goodR ls r ∧ Bnd r ∧ isT ls t ∧ t.length ≤ 10000 ∧ Q (match rwM ls r t.cps.toList with | none => .non | some u => .str u) H
theorem ok_rewrite (T : Txt K mg) : FnOk P w K mg base CX0 1 T.a_rewrite T.d_rewrite ["letters", "parts", "text"] (spLRew (K := K)) := by
  refine T.f_rewrite.ok sc_rewrite (fun vs H Q E h => ?_) (fun cdv A outer s H vs Q E hr h => ?_)
  · obtain ⟨_, _, _, _, rfl, _⟩ := h; rfl
  · obtain ⟨ls, t, v, r, rfl, hv, g, bd, ht, tl, q⟩ := h
    have g0 := g.1
    have rf := Evl.Ex.refl H
    have z1 : (0 : Int) < r.fin.length := by omega
    have tll : t.cps.toList.length = t.length := rfl
    refine ⟨_, (pss_cons (ps_set (i := 3) sc_rewrite.nd rfl (by first | exact Or.inl rfl | exact Or.inr rfl) pe_int)
  (pss_cons (ps_set (i := 4) sc_rewrite.nd rfl (by first | exact Or.inl rfl | exact Or.inr rfl) (pe_ix (kIx K) (pv 1) pe_int (fun _ _ => rfl)))
  (pss_cons (ps_for PassesOwn.never rfl (kAny K rfl (pv 2)) (pg_name (i := 5) sc_rewrite.nd rfl (by first | exact Or.inl rfl | exact Or.inr rfl))
    (pss_cons (ps_set (i := 6) sc_rewrite.nd rfl (by first | exact Or.inl rfl | exact Or.inr rfl) (pe_ix (kIx K) (pe_ix (kIx K) (pe_ix (kIx K) (pv 1) pe_int (fun _ _ => rfl)) (pv 3) (fun _ _ => rfl)) (kBm K rfl (pe_bm PySem.F.plainAttrs_str PySem.F.slot_str_index PySem.F.type_str_index mt_strIdx (pv 0) (pa_cons (pv 5) pa_nil))) (fun _ _ => rfl)))
  (pss_cons (ps_if (pt_cmpR op_isN (pv 6) pe_non (by first | rfl | exact nomark _))
    (pss_one (ps_ret pe_non))
    pss_nil)
  (pss_cons (ps_set (i := 3) sc_rewrite.nd rfl (by first | exact Or.inl rfl | exact Or.inr rfl) (pe_ix (kIx K) (pv 6) pe_int (fun _ _ => rfl)))
  (pss_one (ps_set (i := 4) sc_rewrite.nd rfl (by first | exact Or.inl rfl | exact Or.inr rfl) (pe_op (kAdd K) (pv 4) (pe_ix (kIx K) (pv 6) pe_int (fun _ _ => rfl)))))))))
  (pss_cons (ps_if (pt_cmpR op_isN (pe_ix (kIx K) (pe_ix (kIx K) (pv 1) pe_int (fun _ _ => rfl)) (pv 3) (fun _ _ => rfl)) pe_non (by first | rfl | exact nomark _))
    (pss_one (ps_ret pe_non))
    pss_nil)
  (pss_one (ps_ret (pe_op (kAdd K) (pv 4) (pe_ix (kIx K) (pe_ix (kIx K) (pv 1) pe_int (fun _ _ => rfl)) (pv 3) (fun _ _ => rfl))))))))), ?_⟩
    walk_at "rc"
    refine rd_ixDT rf hv (i := 0) rfl fun v0 hv0 => ?_
    cases Dp.str_iff hv0
    walk_at "rc"
    walk_at "rs"
    walk_at "rc"
    refine rd_anyS (fun Q q => ⟨_, rfl, q⟩) (fo_str (fun i σ H' => ∃ (z : Int × List Str) (k5 k6 : Option V), σ = [some (.str ls), some v, some (.str t), some (.int z.1), some (.str (r.lead ++ catS z.2)), k5, k6] ∧ rwL ls r.tab 0 (t.cps.toList.take i) = some z ∧ H' = H)
      ⟨(0, []), none, none, by rw [show catS [] = "" from rfl, str_nil]; rfl, rfl, rfl⟩ ?_ ?_)
    · rintro i c σ H1 hi ⟨z, k5, k6, rfl, hz, rfl⟩
      have hil : i < t.cps.toList.length := (List.getElem?_eq_some_iff.mp hi).1
      have hcm := isT_mem ht hi
      obtain ⟨rin, zl, zm⟩ := rwL_in g (Int.le_refl 0) z1 t.cps.toList ht i (Nat.le_of_lt hil) z hz
      obtain ⟨row, hrow, hcell, hcw⟩ := cell_in g rin.1 rin.2 hcm
      have ez : z.1 = (z.1.toNat : Int) := (Int.toNat_of_nonneg rin.1).symm
      have nx : rwL ls r.tab 0 (t.cps.toList.take (i + 1)) = (cellR ls r.tab z.1 c).map fun w => (w.1, z.2 ++ [w.2]) := by
        rw [rwL_take hi, hz]
        rfl
      walk_at "rc"
      refine rd_ixDT rf hv (i := 2) rfl fun v2 hv2 => ?_
      walk_at "rc"
      rw [ez]
      refine rd_ixDL rf hv2 (d := rowL row) (by rw [List.getElem?_map, hrow]; rfl) fun v3 hv3 => ?_
      walk_at "rc"
      refine ⟨rfl, ?_⟩
      walk_at "rc"
      refine rd_idx hcm ?_
      refine rd_ixDL rf hv3 (d := encW (cellR ls r.tab z.1 c)) (by rw [List.getElem?_map, hcell]; rfl) fun v4 hv4 => ?_
      walk_at "rc"
      walk_at "rs"
      walk_at "rc"
      cases hcc : cellR ls r.tab z.1 c with
      | none =>
        rw [hcc] at hv4 nx
        cases Dp.non_iff hv4
        refine rd_itet (by decide) ?_
        walk_at "rc"
        have e : rwM ls r t.cps.toList = none := by unfold rwM rwF; rw [rwL_none nx]; rfl
        rw [e] at q
        exact q
      | some wy =>
        rw [hcc] at hv4 nx
        have wb := bd.t _ (hcw wy hcc).2
        obtain ⟨a2, vs2, rfl, g1, g2⟩ := Dp.tupv hv4
        refine rd_itef (decide_eq_false fun z => nomatch z) ?_
        walk_at "rc"
        refine rd_ixDT rf hv4 (i := 0) rfl fun v5 hv5 => ?_
        cases Dp.int_iff hv5
        walk_at "rc"
        refine rd_ixDT rf hv4 (i := 1) rfl fun v6 hv6 => ?_
        cases Dp.str_iff hv6
        have lb := bd.t _ (mem_lead (r := r))
        have cl := cat_len (B := 1000) z.2 fun v hv => bd.t v (zm v hv)
        have sl : sizeLine ≥ 16000000 := by decide
        refine rd_addS (by rw [str_len]; omega) ?_
        walk_at "rc"
        rw [show r.lead ++ catS z.2 ++ wy.2 = r.lead ++ catS (z.2 ++ [wy.2]) from by rw [cat_snoc, ← str_assoc]]
        exact ⟨(wy.1, z.2 ++ [wy.2]), _, _, rfl, nx, rfl⟩
    · rintro σ H1 ⟨z, k5, k6, rfl, hz, rfl⟩
      obtain ⟨rin, zl, zm⟩ := rwL_in g (Int.le_refl 0) z1 t.cps.toList ht t.length (by omega) z hz
      rw [← tll, List.take_length] at hz
      obtain ⟨n, hn⟩ := Int.eq_ofNat_of_zero_le rin.1
      have hnl : n < r.fin.length := by omega
      have e : rwM ls r t.cps.toList = (r.fin[n]).map fun u => r.lead ++ catS z.2 ++ u := by
        unfold rwM rwF
        rw [hz]
        show ((r.fin.getD z.1.toNat none).map fun u => r.lead ++ catS z.2 ++ u) = _
        rw [hn, Int.toNat_natCast, List.getD_eq_getElem?_getD, List.getElem?_eq_getElem hnl]
        rfl
      rw [e] at q
      walk_at "rc"
      walk_at "rs"
      walk_at "rc"
      refine rd_ixDT rf hv (i := 1) rfl fun v1 hv1 => ?_
      walk_at "rc"
      rw [hn]
      refine rd_ixDL rf hv1 (d := encO r.fin[n]) (by rw [List.getElem?_map, List.getElem?_eq_getElem hnl]; rfl) fun v2 hv2 => ?_
      walk_at "rc"
      cases ho : r.fin[n] with
      | none =>
        rw [ho] at hv2 q
        cases Dp.non_iff hv2
        refine rd_itet (by decide) ?_
        walk_at "rc"
        exact q
      | some u =>
        rw [ho] at hv2 q
        cases Dp.str_iff hv2
        have lu := bd.t u (mem_fin (ho ▸ List.getElem_mem hnl))
        have lb := bd.t _ (mem_lead (r := r))
        have cl := cat_len (B := 1000) z.2 fun v hv => bd.t v (zm v hv)
        have sl : sizeLine ≥ 16000000 := by decide
        refine rd_itef (decide_eq_false fun z => nomatch z) ?_
        walk_at "rc"
        refine rd_ixDT rf hv (i := 1) rfl fun v3 hv3 => ?_
        walk_at "rc"
        refine rd_ixDL rf hv3 (d := encO r.fin[n]) (by rw [List.getElem?_map, List.getElem?_eq_getElem hnl]; rfl) fun v4 hv4 => ?_
        rw [ho] at hv4
        cases Dp.str_iff hv4
        refine rd_addS (by rw [str_len]; omega) ?_
        exact q
/-! ### what is compared -/
theorem rw_isT {ls : Str} {r : Parts} (g : goodR ls r) (bd : Bnd r) {t : Str} (ht : isT ls t) (tl : t.length ≤ 10000) {u : Str} (h : rwM ls r t.cps.toList = some u) : isT ls u := by
  have g0 := g.1
  unfold rwM at h
  obtain ⟨z, hz, h⟩ := Option.bind_eq_some_iff.mp h
  obtain ⟨w, hw, rfl⟩ := Option.map_eq_some_iff.mp h
  obtain ⟨a, b, _, c⟩ := rwF_in g bd (Int.le_refl 0) (by omega) ht tl hz
  intro d hd
  rw [tl_app, tl_app] at hd
  rcases List.mem_append.mp hd with hd | hd
  · rcases List.mem_append.mp hd with hd | hd
    · exact g.2.2.2 _ mem_lead d hd
    · exact c d hd
  · have hm : some w ∈ r.fin := by
      rw [List.getD_eq_getElem?_getD] at hw
      cases hq : r.fin[z.1.toNat]? with
      | none => rw [hq] at hw; cases hw
      | some o =>
        rw [hq] at hw
        have e : o = some w := hw
        exact e ▸ List.mem_of_getElem? hq
    exact g.2.2.2 _ (mem_fin hm) d hd
theorem isT_ok {am : Nat} {ls t : Str} (al : Alpha ls am) (h : isT ls t) : okS t := okS_sub al.ok h
theorem lay_O {am : Nat} {ls : Str} {o : Option Str} (al : Alpha ls am) (h : ∀ u, o = some u → isT ls u) : Lay (encO o) := by
  cases o with
  | none => exact Ly.none.lay (by decide)
  | some u => exact (Ly.str (isT_ok al (h u rfl))).lay (by decide)
theorem lay_pic {am : Nat} {ls : Str} {r : Parts} (al : Alpha ls am) (g : goodR ls r) : Lay (picR ls r) := by
  have tx := g.2.2.2
  refine (Ly.tuple (n := 5) fun d hd => ?_).lay (by decide)
  rcases List.mem_cons.mp hd with z | hd
  · rw [z]; exact (Ly.str al.ok).mono (by decide)
  rcases List.mem_cons.mp hd with z | hd
  · rw [z]; exact (Ly.str (isT_ok al (tx _ mem_lead))).mono (by decide)
  rcases List.mem_cons.mp hd with z | hd
  · rw [z]
    refine (Ly.tuple (n := 0) fun e he => ?_).mono (by decide)
    obtain ⟨o, ho, rfl⟩ := List.mem_map.mp he
    cases o with
    | none => exact Ly.none
    | some s => exact Ly.str (isT_ok al (tx _ (mem_fin ho)))
  · rw [List.mem_singleton.mp hd]
    refine (Ly.tuple (n := 2) fun e he => ?_).mono (by decide)
    obtain ⟨row, hr, rfl⟩ := List.mem_map.mp he
    refine Ly.tuple (n := 1) fun e he => ?_
    obtain ⟨o, ho, rfl⟩ := List.mem_map.mp he
    cases o with
    | none => exact Ly.none.mono (by decide)
    | some w =>
      refine Ly.tuple (n := 0) fun e he => ?_
      rcases List.mem_cons.mp he with z | he
      · rw [z]; exact Ly.int
      · rw [List.mem_singleton.mp he]; exact Ly.str (isT_ok al (tx _ (mem_way hr ho)))
theorem dp_enc {H : Hp} (o : Option Str) : Dp K H (match o with | none => .non | some u => .str u) (encO o) := by
  cases o with
  | none => exact .non
  | some u => exact .str u
theorem noL_fin (fin : List (Option Str)) : noList (.tuple (fin.map encO)) = true := noList_all fun d hd => by
  obtain ⟨o, _, rfl⟩ := List.mem_map.mp hd
  cases o <;> rfl
theorem noL_tab (tab : List (List Way)) : noList (.tuple (tab.map encRow)) = true := noList_all fun d hd => by
  obtain ⟨row, _, rfl⟩ := List.mem_map.mp hd
  refine noList_all fun d hd => ?_
  obtain ⟨o, _, rfl⟩ := List.mem_map.mp hd
  cases o <;> rfl
theorem RwAt.hid' {C : Addr} {H : Hp} {m : Addr} {ls : Str} {r : Parts} {S : List Addr} (h : RwAt K C H m ls r) (hS : ∀ b ∈ S, ∃ xs, H b = some (.lst xs)) : RwAt K C (hid S H) m ls r := by
  obtain ⟨dx, tf, tt, h1, h2, h3⟩ := h
  refine ⟨dx, tf, tt, ?_, Dp.hidT (fun b hb => .inr (hS b hb)) _ (noL_fin _) h2, Dp.hidT (fun b hb => .inr (hS b hb)) _ (noL_tab _) h3⟩
  rw [hid_at fun hb => ?_]
  · exact h1
  · obtain ⟨xs, z⟩ := hS m hb
    rw [z] at h1; cases h1
/-! ### the law -/
theorem hide_hid {L : Addr} {H : Hp} : hide L H = hid [L] H := by
  funext b
  by_cases h : b = L
  · rw [h]
    show (if L = L then none else H L) = (if L ∈ [L] then none else H L)
    rw [if_pos rfl, if_pos List.mem_cons_self]
  · rw [hide_ne h, hid_at (fun z => h (List.mem_singleton.mp z))]
theorem rd_iteC {c : Bool} {a b : Nat} {σ : L2.St} {H : Hp} {Q : VK} (h : ∀ n : Nat, n = a ∨ n = b → Q (.int (n : Int)) H) : if c = true then tC (.int (a : Int)) σ H Q else tC (.int (b : Int)) σ H Q := by
  cases c with
  | true => exact iteT (h a (.inl rfl))
  | false => exact iteF (h b (.inr rfl))
theorem rw_len {ls : Str} {r : Parts} {B n : Nat} (g : goodR ls r) (sm : SmB B n r) {t u : Str} (ht : isT ls t) (h : rwM ls r t.cps.toList = some u) : u.length ≤ B + t.length * B + B := by
  have g0 := g.1
  unfold rwM at h
  obtain ⟨z, hz, h⟩ := Option.bind_eq_some_iff.mp h
  obtain ⟨w, hw, rfl⟩ := Option.map_eq_some_iff.mp h
  obtain ⟨_, _, c, _⟩ := thenF_in g sm (Int.le_refl 0) (by omega) ht hz
  have a := sm.t _ (mem_lead (r := r))
  have b := sm.t _ (mem_fin (fin_mem hw))
  rw [str_len, str_len]
  omega
def ov (o : Option Str) : V := match o with | none => .non | some u => .str u
theorem ov_non (o : Option Str) : decide (ov o = .non) = o.isNone := by cases o <;> rfl
def spLaw (K : PySem.W.Frag) : Sp := fun vs H Q _ => ∃ (a : Addr) (ns : List Int), vs = [.ref a] ∧ SqL K H a (ns.map V.int) ∧ ns.length ≤ 63 ∧ ∀ H', Q (.bl true) H'
abbrev lvLaw := 10
theorem ok_law (T : Txt K mg) : FnOk P w K mg base CX0 lvLaw T.a_law T.d_law ["script"] (spLaw K) := by
  refine T.f_law.ok sc_law (fun vs H Q E h => ?_) (fun cdv A outer s H vs Q E hr h => ?_)
  · obtain ⟨_, _, rfl, _⟩ := h; rfl
  · obtain ⟨a, ns, rfl, hs, hn, q⟩ := h
    refine ⟨_, (pss_cons (ps_set (i := 1) sc_law.nd rfl (by first | exact Or.inl rfl | exact Or.inr rfl) (pe_callE (ok_state T) (hr.mono (by decide)) T.o_state (pa_cons (pv 0) (pa_cons pe_int (pa_cons pe_int pa_nil)))))
  (pss_cons (ps_set (i := 2) sc_law.nd rfl (by first | exact Or.inl rfl | exact Or.inr rfl) (pe_callE (ok_letters T) (hr.mono (by decide)) T.o_letters (pa_cons (pv 1) (pa_cons pe_int pa_nil))))
  (pss_cons (ps_setLc (i := 3) (own := [("k", 4)]) (g := gName 4) (tt := tYes) (by rfl) sc_law.nd rfl rfl (sw_true rfl rfl rfl (by decide +kernel)) (pi_range1 (by rfl) T.nb_range (pa_cons pe_int pa_nil)) (blkOk_by (own := [("k", 4)]) (N := ["script", "state", "letters", "rows", "k", "a", "b", "c", "parts", "ab", "left", "right", "text", "made"]) (sc := defScope s_law) (by decide +kernel)) (fun _ _ _ _ _ => (pg_name (i := 4) sc_law.nd rfl (by first | exact Or.inl rfl | exact Or.inr rfl))) (fun _ _ _ _ _ => pts_nil) (fun _ _ _ _ _ => (pe_callE (ok_maker T) (hr.mono (by decide)) T.o_maker (pa_cons (pv 2) (pa_cons (pv 1) (pa_cons pe_int pa_nil))))))
  (pss_cons (ps_asg (pe_lc (own := [("parts", 8)]) (g := gName 8) (tt := tYes) (by rfl) sc_law.nd (kAny K rfl (pv 3)) (blkOk_by (own := [("parts", 8)]) (N := ["script", "state", "letters", "rows", "k", "a", "b", "c", "parts", "ab", "left", "right", "text", "made"]) (sc := defScope s_law) (by decide +kernel)) (fun _ _ _ _ _ => (pg_name (i := 8) sc_law.nd rfl (by first | exact Or.inl rfl | exact Or.inr rfl))) (fun _ _ _ _ _ => pts_nil) (fun _ _ _ _ _ => (pe_makeR T.mk_Rewriter (ok_Rewriter_init T) (hr.mono (by decide)) T.g_Rewriter T.b_Rewriter_init takes0 (pa_cons (pv 2) (pa_cons (pe_ix (kIx K) (pv 8) pe_int (fun _ _ => rfl)) (pa_cons (pe_ix (kIx K) (pv 8) pe_int (fun _ _ => rfl)) (pa_cons (pe_ix (kIx K) (pv 8) pe_int (fun _ _ => rfl)) pa_nil))))))) (kGl K rfl (pg_lst (n := 3) (by rfl) (pgs_cons (pg_name (i := 5) sc_law.nd rfl (by first | exact Or.inl rfl | exact Or.inr rfl)) (pgs_cons (pg_name (i := 6) sc_law.nd rfl (by first | exact Or.inl rfl | exact Or.inr rfl)) (pgs_cons (pg_name (i := 7) sc_law.nd rfl (by first | exact Or.inl rfl | exact Or.inr rfl)) pgs_nil))))))
  (pss_cons (ps_set (i := 9) sc_law.nd rfl (by first | exact Or.inl rfl | exact Or.inr rfl) (pe_callR (ok_in_turn T) (hr.mono (by decide)) T.o_in_turn takes0 (pa_cons (pv 5) (pa_cons (pv 6) pa_nil))))
  (pss_cons (ps_set (i := 10) sc_law.nd rfl (by first | exact Or.inl rfl | exact Or.inr rfl) (pe_callR (ok_in_turn T) (hr.mono (by decide)) T.o_in_turn takes0 (pa_cons (pv 9) (pa_cons (pv 7) pa_nil))))
  (pss_cons (ps_set (i := 11) sc_law.nd rfl (by first | exact Or.inl rfl | exact Or.inr rfl) (pe_callR (ok_in_turn T) (hr.mono (by decide)) T.o_in_turn takes0 (pa_cons (pv 5) (pa_cons (pe_callR (ok_in_turn T) (hr.mono (by decide)) T.o_in_turn takes0 (pa_cons (pv 6) (pa_cons (pv 7) pa_nil))) pa_nil))))
  (pss_cons (ps_for PassesOwn.never rfl (kAny K rfl (pe_callE (ok_texts T) (hr.mono (by decide)) T.o_texts (pa_cons (pv 2) (pa_cons (pe_ifExp (pt_cmpR (kEq K rfl hr.units) (pe_callB (kLen K) (by rfl) T.nb_len (by decide +kernel) (pa_cons (pv 2) pa_nil)) pe_int (by first | rfl | exact nomark _)) pe_int pe_int) pa_nil)))) (pg_name (i := 12) sc_law.nd rfl (by first | exact Or.inl rfl | exact Or.inr rfl))
    (pss_cons (ps_set (i := 13) sc_law.nd rfl (by first | exact Or.inl rfl | exact Or.inr rfl) (pe_callE (ok_rewrite T) (hr.mono (by decide)) T.o_rewrite (pa_cons (pv 2) (pa_cons (pe_ix (kIx K) (pv 3) pe_int (fun _ _ => rfl)) (pa_cons (pv 12) pa_nil)))))
  (pss_cons (ps_if (pt_cmpR op_notN (pv 13) pe_non (by first | rfl | exact nomark _))
    (pss_one (ps_set (i := 13) sc_law.nd rfl (by first | exact Or.inl rfl | exact Or.inr rfl) (pe_callE (ok_rewrite T) (hr.mono (by decide)) T.o_rewrite (pa_cons (pv 2) (pa_cons (pe_ix (kIx K) (pv 3) pe_int (fun _ _ => rfl)) (pa_cons (pv 13) pa_nil))))))
    pss_nil)
  (pss_cons (ps_if (pt_cmpR (kNe K rfl hr.units) (pe_meth (pv 9) T.cl_Rewriter T.m_Rewriter_rewrite (ok_Rewriter_rewrite T) (hr.mono (by decide)) T.b_Rewriter_rewrite .nil pass0 (pa_cons (pv 12) pa_nil)) (pv 13) (by first | rfl | exact nomark _))
    (pss_one (ps_ret pe_bl))
    pss_nil)
  (pss_cons (ps_if (pt_cmpR op_notN (pv 13) pe_non (by first | rfl | exact nomark _))
    (pss_one (ps_set (i := 13) sc_law.nd rfl (by first | exact Or.inl rfl | exact Or.inr rfl) (pe_callE (ok_rewrite T) (hr.mono (by decide)) T.o_rewrite (pa_cons (pv 2) (pa_cons (pe_ix (kIx K) (pv 3) pe_int (fun _ _ => rfl)) (pa_cons (pv 13) pa_nil))))))
    pss_nil)
  (pss_one (ps_if (PW.pt (pw_or (pt_cmpR (kNe K rfl hr.units) (pe_meth (pv 10) T.cl_Rewriter T.m_Rewriter_rewrite (ok_Rewriter_rewrite T) (hr.mono (by decide)) T.b_Rewriter_rewrite .nil pass0 (pa_cons (pv 12) pa_nil)) (pv 13) (by first | rfl | exact nomark _)) (pw_or1 (pt_cmpR (kNe K rfl hr.units) (pe_meth (pv 11) T.cl_Rewriter T.m_Rewriter_rewrite (ok_Rewriter_rewrite T) (hr.mono (by decide)) T.b_Rewriter_rewrite .nil pass0 (pa_cons (pv 12) pa_nil)) (pv 13) (by first | rfl | exact nomark _)))))
    (pss_one (ps_ret pe_bl))
    pss_nil)))))))
  (pss_one (ps_ret (pe_cmpR (kEq K rfl hr.units) (pe_meth0 (pv 5) T.cl_Rewriter T.m_Rewriter_picture (ok_Rewriter_picture T) (hr.mono (by decide)) T.b_Rewriter_picture .nil pass0) (pe_meth0 (pe_makeR T.mk_Rewriter (ok_Rewriter_init T) (hr.mono (by decide)) T.g_Rewriter T.b_Rewriter_init takes0 (pa_cons (pv 2) (pa_cons (pe_ix (kIx K) (pe_ix (kIx K) (pv 3) pe_int (fun _ _ => rfl)) pe_int (fun _ _ => rfl)) (pa_cons (pe_ix (kIx K) (pe_ix (kIx K) (pv 3) pe_int (fun _ _ => rfl)) pe_int (fun _ _ => rfl)) (pa_cons (pe_ix (kIx K) (pe_ix (kIx K) (pv 3) pe_int (fun _ _ => rfl)) pe_int (fun _ _ => rfl)) pa_nil))))) T.cl_Rewriter T.m_Rewriter_picture (ok_Rewriter_picture T) (hr.mono (by decide)) T.b_Rewriter_picture .nil pass0) (by first | rfl | exact nomark _)))))))))))), ?_⟩
    walk_at "rc"
    refine ⟨a, ns, 0, 8, rfl, hs, by decide, by decide, by decide, by decide, fun p H1 hp e1 S1 => ?_⟩
    walk_at "rc"
    refine ⟨p, 3, rfl, by decide, by decide, S1, fun ls H2 al d2 => ?_⟩
    have l0 := al.l0
    have l1 := al.l1
    have S2 := d2.st
    walk_at "rc"
    refine ⟨3, rfl, by decide, by decide, ?_⟩
    refine lc_R (K := K) (S := [p]) (P := fun i x => x = V.int (i : Nat)) (n := 3) (tr_dr S2 List.mem_cons_self) (st1 S2.some.choose_spec) walk_range0 rng_Y (by decide) (fun _ _ => True.intro) (fun i d => ∃ r, d = partsL r ∧ goodR ls r ∧ SmB 2 4 r) (hg_name fun v => rfl) (fun L i σ2 Hc hi p2 hL nL dc hs2 up N hN => ?_) fun L us H3 ds d3 hL nL hus hds hlen hR => ?_
    · obtain ⟨v, rfl, rfl⟩ := p2
      walk_at "rc"
      refine ⟨p, ls, 4, L :: [p], rfl, l0, by omega, by decide, by decide, dc.st, List.mem_cons_of_mem _ List.mem_cons_self, hs2, fun v r H' hv g sm d => ?_⟩
      exact hN v _ H' d hv ⟨r, rfl, g, sm.mono (Nat.le_refl _) (by omega)⟩
    obtain ⟨rs3, rfl, hrs⟩ := map_ofD (f := partsL) (S := fun r => goodR ls r ∧ SmB 2 4 r) ds fun i v h => hR i v h
    rw [List.length_map] at hlen
    match rs3, hlen with
    | [r1, r2, r3], _ =>
    obtain ⟨g1, s1⟩ := hrs r1 (by simp)
    obtain ⟨g2, s2⟩ := hrs r2 (by simp)
    obtain ⟨g3, s3⟩ := hrs r3 (by simp)
    have dR : Dp K H3 (.ref L) (.list [partsL r1, partsL r2, partsL r3]) := .lst (SqL.of hus) (hds.ex hid_ex)
    clear hR hrs hds
    obtain ⟨La, vs, eL, hsv, hdv⟩ := Dp.lstv dR
    cases eL
    have hvl : vs.length = 3 := hdv.len
    walk_at "rc"
    refine rd_anyL (fun Q q => ⟨_, rfl, q⟩) hsv ?_
    have gr : ∀ i, i < 3 → ∃ r, ([r1, r2, r3] : List Parts)[i]? = some r ∧ goodR ls r ∧ SmB 2 4 r ∧ Dp K H3 (vs.getD i .non) (partsL r) := fun i hi => by
      have h3 : ∀ (r : Parts), ([partsL r1, partsL r2, partsL r3] : List PyData)[i]? = some (partsL r) → Dp K H3 (vs.getD i .non) (partsL r) := fun r hr => by
        obtain ⟨v, h1, h2⟩ := hdv.get hr
        rw [List.getD_eq_getElem?_getD, h1]
        exact h2
      rcases (show i = 0 ∨ i = 1 ∨ i = 2 by omega) with z | z | z <;> subst z
      · exact ⟨r1, rfl, g1, s1, h3 r1 rfl⟩
      · exact ⟨r2, rfl, g2, s2, h3 r2 rfl⟩
      · exact ⟨r3, rfl, g3, s3, h3 r3 rfl⟩
    have yl : ∀ (i : Nat) (H : Hp) (x : V) (H' : Hp), i < vs.length → YAt vs i H x H' → H' = H ∧ x = vs.getD i .non := fun i H x H' _ y => ⟨y.1, by rw [List.getD_eq_getElem?_getD, y.2]; rfl⟩
    refine lc_new (fun i v H => ∃ (x : Addr) (r : Parts), v = .ref x ∧ ([r1, r2, r3] : List Parts)[i]? = some r ∧ RwAt K T.C_Rewriter H x ls r) walk_list yl (by rw [hvl]; decide) (fun Hc e => Evl.ex_l e hsv) (fun i v Ha Hb e ⟨x, r, a, b, c⟩ => ⟨x, r, a, b, c.ex e⟩) (fun L2 i Hc hi hL2 hvs e N hN => ?_) fun L2 ws H4 hL2 e4 hws hwl hW => ?_
    · obtain ⟨r, hr, g, sm, dp⟩ := gr i (by rw [hvl] at hi; exact hi)
      obtain ⟨us2, hus2⟩ := hvs
      generalize vs.getD i .non = v0 at dp
      walk_at "rc"
      refine rd_ixDT e dp (i := 0) rfl fun w0 hw0 => ?_
      cases Dp.str_iff hw0
      walk_at "rc"
      refine rd_ixDT e dp (i := 1) rfl fun w1 hw1 => ?_
      walk_at "rc"
      refine rd_ixDT e dp (i := 2) rfl fun w2 hw2 => ?_
      walk_at "rc"
      intro x dx hx hdx ne
      have ex6 := upd2_ex (C := T.C_Rewriter) hx hdx
      refine ⟨x, dx, w1, w2, ls, r, r.tab.map rowL, rfl, by omega, sm.bnd (by decide) (by decide), upd_same, .inl (hw1.ex (e.trans ex6)), .inl (hw2.ex (e.trans ex6)), rowsD_L _, fun _ H' kx hrw => ⟨rfl, ?_⟩, fun ng => absurd g ng⟩
      have eH := made_ex hx hdx ne kx
      refine hN _ H' eH ⟨x, r, rfl, hr, ?_⟩
      rw [hide_hid]
      exact hrw.hid' fun b hb => ⟨us2, by rw [List.mem_singleton.mp hb]; exact eH _ _ hus2⟩
    rw [hvl] at hwl
    obtain ⟨x1, q1, e1', f1, A4⟩ := hW 0 _ (List.getElem?_eq_getElem (show 0 < ws.length by rw [hwl]; decide))
    obtain ⟨x2, q2, e2', f2, B4⟩ := hW 1 _ (List.getElem?_eq_getElem (show 1 < ws.length by rw [hwl]; decide))
    obtain ⟨x3, q3, e3', f3, C4⟩ := hW 2 _ (List.getElem?_eq_getElem (show 2 < ws.length by rw [hwl]; decide))
    cases Option.some.inj f1
    cases Option.some.inj f2
    cases Option.some.inj f3
    match ws, hwl with
    | [w1, w2, w3], _ =>
    have e1' : w1 = .ref x1 := e1'
    have e2' : w2 = .ref x2 := e2'
    have e3' : w3 = .ref x3 := e3'
    subst e1' e2' e3'
    have A4 := A4.ex hide_ex
    have B4 := B4.ex hide_ex
    have C4 := C4.ex hide_ex
    refine ⟨L2, _, rfl, SqL.of hws, rfl, ?_⟩
    walk_at "rc"
    -- two in turn, three in turn
    have A5 := A4
    refine ⟨x1, x2, ls, r1, r2, 2, 2, 4, 4, rfl, l0, by omega, A4, B4, g1, g2, s1, s2, by decide, by decide, by decide, by decide, by decide, by decide, by decide, fun y12 r12 H5 e5 R12 g12 s12 m12 => ?_⟩
    have s12' : SmB 6 16 r12 := s12.mono (by decide) (by omega)
    walk_at "rc"
    refine ⟨y12, x3, ls, r12, r3, 6, 2, 16, 4, rfl, l0, by omega, R12, C4.ex e5, g12, g3, s12', s3, by decide, by decide, by decide, by decide, by decide, by decide, by decide, fun yL rL H6 e6 RL gL sL mL => ?_⟩
    walk_at "rc"
    refine ⟨x2, x3, ls, r2, r3, 2, 2, 4, 4, rfl, l0, by omega, B4.ex (e5.trans e6), C4.ex (e5.trans e6), g2, g3, s2, s3, by decide, by decide, by decide, by decide, by decide, by decide, by decide, fun y23 r23 H7 e7 R23 g23 s23 m23 => ?_⟩
    have s23' : SmB 6 16 r23 := s23.mono (by decide) (by omega)
    walk_at "rc"
    refine ⟨x1, y23, ls, r1, r23, 2, 6, 4, 16, rfl, l0, by omega, A4.ex ((e5.trans e6).trans e7), R23, g1, g23, s1, s23', by decide, by decide, by decide, by decide, by decide, by decide, by decide, fun yR rR H8 e8 RR gR sR mR => ?_⟩
    have e58 := (e5.trans e6).trans (e7.trans e8)
    have R12' := R12.ex ((e6.trans e7).trans e8)
    have RL' := RL.ex (e7.trans e8)
    have dR8 := dR.ex (e4.trans e58)
    have A8 := A4.ex e58
    have bd1 := s1.bnd (by decide) (by decide)
    have bd2 := s2.bnd (by decide) (by decide)
    have bd3 := s3.bnd (by decide) (by decide)
    have bd12 := s12'.bnd (by decide) (by decide)
    have bd23 := s23'.bnd (by decide) (by decide)
    have bdL := sL.bnd (by decide) (by omega)
    have bdR := sR.bnd (by decide) (by omega)
    obtain ⟨dxa, tfa, tta, hma, _⟩ := id A8
    obtain ⟨dx12, _, _, hm12, _⟩ := id R12'
    obtain ⟨dxL, _, _, hmL, _⟩ := id RL'
    obtain ⟨dxR, _, _, hmR, _⟩ := id RR
    walk_at "rc"
    walk_at "rs"
    walk_at "rc"
    refine rd_anyL' ?_
    walk_at "rc"
    have sl : sizeLine ≥ 1000 := by decide
    have mst : ∀ (most : Nat), most ≤ 5 → ∀ N : VK, (∀ (pt : Addr) (ts : List Str) (H' : Hp), Ex H8 H' → H' pt = some (.lst (ts.map V.str)) → (∀ t ∈ ts, isT ls t ∧ t.length ≤ 5) → ts.length < 100000 → N (.ref pt) H') → spTexts [.str ls, .int (most : Int)] H8 N E0 := fun most hm N hN =>
      ⟨ls, most, 3, rfl, l1, by decide, by decide, by omega, by
        have : (most + 1) * 3 ^ most ≤ 6 * 3 ^ 5 := Nat.mul_le_mul (by omega) (Nat.pow_le_pow_right (by decide) hm)
        exact Nat.lt_of_le_of_lt this (by decide), fun pt ts H' e h1 h2 h3 => hN pt ts H' e h1 (fun t ht => ⟨(h2 t ht).1, Nat.le_trans (h2 t ht).2 hm⟩) h3⟩
    refine rd_ife ?_
    walk_at "rc"
    refine rd_lenS (by omega) ?_
    walk_at "rc"
    refine rd_iteC (a := 4) (b := 5) fun most hmost => ?_
    walk_at "rc"
    refine mst most (by omega) _ fun pt ts H9 e9 hpt hts htl => ?_
    refine ⟨pt, rfl, ⟨_, SqL.of hpt⟩, ?_⟩
    refine fo_list (fun i σ H' => (∃ k4 k8 k12 k13 : Option V, σ = [some (.ref a), some (.ref p), some (.str ls), some (.ref L), k4, some (.ref x1), some (.ref x2), some (.ref x3), k8, some (.ref y12), some (.ref yL), some (.ref yR), k12, k13]) ∧ Ex H9 H') ⟨⟨_, _, _, _, rfl⟩, Evl.Ex.refl H9⟩ (fun i σ H' _ p => SqL.of (p.2 _ _ hpt)) ?_ ?_
    · rintro i x σ H10 hi ⟨⟨k4, k8, k12, k13, rfl⟩, e10⟩
      rw [List.getElem?_map] at hi
      obtain ⟨t, ht, rfl⟩ := Option.map_eq_some_iff.mp hi
      obtain ⟨tT, tl⟩ := hts t (List.mem_of_getElem? ht)
      have e810 := e9.trans e10
      have dR10 := dR8.ex e810
      have len1 : ∀ u, rwM ls r1 t.cps.toList = some u → isT ls u ∧ u.length ≤ 14 := fun u hu => ⟨rw_isT g1 bd1 tT (by omega) hu, by have := rw_len g1 s1 tT hu; omega⟩
      have len12 : ∀ u w, rwM ls r1 t.cps.toList = some u → rwM ls r2 u.cps.toList = some w → isT ls w ∧ w.length ≤ 32 := fun u w hu hw => by
        obtain ⟨a1, a2⟩ := len1 u hu
        exact ⟨rw_isT g2 bd2 a1 (by omega) hw, by have := rw_len g2 s2 a1 hw; omega⟩
      walk_at "rc"
      refine rd_ixDL (Evl.Ex.refl _) (dR8.ex e810) (i := 0) (d := partsL r1) rfl fun v hv => ?_
      walk_at "rc"
      refine ⟨ls, t, v, r1, rfl, hv, g1, bd1, tT, by omega, ?_⟩
      walk_at "rc"
      refine rd_cut (fun σ H' => (∃ k4 k8 : Option V, σ = [some (.ref a), some (.ref p), some (.str ls), some (.ref L), k4, some (.ref x1), some (.ref x2), some (.ref x3), k8, some (.ref y12), some (.ref yL), some (.ref yR), some (.str t), some (ov ((rwM ls r1 t.cps.toList).bind fun u => rwM ls r2 u.cps.toList))]) ∧ H' = H10) (fun N hN => ?_) ?_
      · walk_at "rc"
        cases ho : rwM ls r1 t.cps.toList with
        | none =>
          rw [ho] at hN
          refine rd_itef (by show (!decide (V.non = V.non)) = false; decide) ?_
          walk_at "rc"
          exact hN _ _ ⟨⟨_, _, rfl⟩, rfl⟩
        | some u =>
          rw [ho] at hN
          obtain ⟨u1, u2⟩ := len1 u ho
          refine rd_itet (by show (!decide (V.str u = V.non)) = true; rw [decide_eq_false (fun z => nomatch z)]; rfl) ?_
          walk_at "rc"
          refine rd_ixDL (Evl.Ex.refl _) (dR8.ex e810) (i := 1) (d := partsL r2) rfl fun v hv => ?_
          walk_at "rc"
          refine ⟨ls, u, v, r2, rfl, hv, g2, bd2, u1, by omega, ?_⟩
          walk_at "rc"
          exact hN _ _ ⟨⟨_, _, rfl⟩, rfl⟩
      rintro σ H11 ⟨⟨k4, k8, rfl⟩, rfl⟩
      have due12 : rwM ls r12 t.cps.toList = (rwM ls r1 t.cps.toList).bind fun u => rwM ls r2 u.cps.toList := m12 _ tT
      have ok12 : ∀ w, ((rwM ls r1 t.cps.toList).bind fun u => rwM ls r2 u.cps.toList) = some w → isT ls w ∧ w.length ≤ 32 := fun w hw => by
        obtain ⟨u, hu, hw⟩ := Option.bind_eq_some_iff.mp hw
        exact len12 u w hu hw
      have lo12 := lay_O (o := (rwM ls r1 t.cps.toList).bind fun u => rwM ls r2 u.cps.toList) al fun u hu => (ok12 u hu).1
      walk_at "rc"
      walk_at "rs"
      walk_at "rc"
      refine ⟨y12, dx12, _, rfl, e810 _ _ hm12, rfl, ?_⟩
      walk_at "rc"
      refine ⟨y12, ls, t, r12, rfl, R12'.ex e810, g12, bd12, tT, by omega, fun H12 e12 => ?_⟩
      rw [due12]
      walk_at "rc"
      refine rd_neD (Evl.Ex.refl H12) (Evl.Ex.refl H12) (dp_enc _) (dp_enc _) lo12 ?_
      have e812 := e810.trans e12
      walk_at "rc"
      refine rd_cut (fun σ H' => (∃ k4 k8 : Option V, σ = [some (.ref a), some (.ref p), some (.str ls), some (.ref L), k4, some (.ref x1), some (.ref x2), some (.ref x3), k8, some (.ref y12), some (.ref yL), some (.ref yR), some (.str t), some (ov (((rwM ls r1 t.cps.toList).bind fun u => rwM ls r2 u.cps.toList).bind fun u => rwM ls r3 u.cps.toList))]) ∧ H' = H12) (fun N hN => ?_) ?_
      · walk_at "rc"
        rw [ov_non]
        cases ho : (rwM ls r1 t.cps.toList).bind fun u => rwM ls r2 u.cps.toList with
        | none =>
          rw [ho] at hN
          refine rd_itef rfl ?_
          walk_at "rc"
          exact hN _ _ ⟨⟨_, _, rfl⟩, rfl⟩
        | some u =>
          rw [ho] at hN
          obtain ⟨u1, u2⟩ := ok12 u ho
          refine rd_itet rfl ?_
          walk_at "rc"
          refine rd_ixDL (Evl.Ex.refl _) (dR8.ex e812) (i := 2) (d := partsL r3) rfl fun v hv => ?_
          walk_at "rc"
          refine ⟨ls, u, v, r3, rfl, hv, g3, bd3, u1, by omega, ?_⟩
          walk_at "rc"
          exact hN _ _ ⟨⟨_, _, rfl⟩, rfl⟩
      rintro σ H13 ⟨⟨k4, k8, rfl⟩, rfl⟩
      have dueL : rwM ls rL t.cps.toList = ((rwM ls r1 t.cps.toList).bind fun u => rwM ls r2 u.cps.toList).bind fun u => rwM ls r3 u.cps.toList := by rw [mL _ tT, due12]
      have dueR : rwM ls rR t.cps.toList = ((rwM ls r1 t.cps.toList).bind fun u => rwM ls r2 u.cps.toList).bind fun u => rwM ls r3 u.cps.toList := by
        rw [mR _ tT]
        cases ho : rwM ls r1 t.cps.toList with
        | none => rfl
        | some u => exact m23 _ (len1 u ho).1
      have lo3 := lay_O (o := ((rwM ls r1 t.cps.toList).bind fun u => rwM ls r2 u.cps.toList).bind fun u => rwM ls r3 u.cps.toList) al fun u hu => by
        obtain ⟨w, hw, hu⟩ := Option.bind_eq_some_iff.mp hu
        obtain ⟨w1, w2⟩ := ok12 w hw
        exact rw_isT g3 bd3 w1 (by omega) hu
      walk_at "rc"
      refine ⟨yL, dxL, _, rfl, e812 _ _ hmL, rfl, ?_⟩
      walk_at "rc"
      refine ⟨yL, ls, t, rL, rfl, RL'.ex e812, gL, bdL, tT, by omega, fun H14 e14 => ?_⟩
      rw [dueL]
      walk_at "rc"
      refine rd_neD (Evl.Ex.refl H14) (Evl.Ex.refl H14) (dp_enc _) (dp_enc _) lo3 ?_
      walk_at "rc"
      refine ⟨yR, dxR, _, rfl, (e812.trans e14) _ _ hmR, rfl, ?_⟩
      walk_at "rc"
      refine ⟨yR, ls, t, rR, rfl, RR.ex (e812.trans e14), gR, bdR, tT, by omega, fun H15 e15 => ?_⟩
      rw [dueR]
      walk_at "rc"
      refine rd_neD (Evl.Ex.refl H15) (Evl.Ex.refl H15) (dp_enc _) (dp_enc _) lo3 ?_
      walk_at "rc"
      exact ⟨⟨_, _, _, _, rfl⟩, e10.trans (e12.trans (e14.trans e15))⟩
    · rintro σ H10 ⟨⟨k4, k8, k12, k13, rfl⟩, e10⟩
      have e810 := e9.trans e10
      have dR10 := dR8.ex e810
      walk_at "rc"
      refine ⟨x1, dxa, _, rfl, e810 _ _ hma, rfl, ?_⟩
      walk_at "rc"
      refine ⟨x1, ls, r1, rfl, A8.ex e810, fun pc H11 e11 hpc => ?_⟩
      walk_at "rc"
      refine rd_ixDL (Evl.Ex.refl _) (dR10.ex e11) (i := 0) (d := partsL r1) rfl fun v1 hv1 => ?_
      walk_at "rc"
      refine rd_ixDT (Evl.Ex.refl _) hv1 (i := 0) rfl fun w0 hw0 => ?_
      cases Dp.str_iff hw0
      walk_at "rc"
      refine rd_ixDL (Evl.Ex.refl _) (dR10.ex e11) (i := 0) (d := partsL r1) rfl fun v2 hv2 => ?_
      walk_at "rc"
      refine rd_ixDT (Evl.Ex.refl _) hv2 (i := 1) rfl fun w1 hw1 => ?_
      walk_at "rc"
      refine rd_ixDL (Evl.Ex.refl _) (dR10.ex e11) (i := 0) (d := partsL r1) rfl fun v3 hv3 => ?_
      walk_at "rc"
      refine rd_ixDT (Evl.Ex.refl _) hv3 (i := 2) rfl fun w2 hw2 => ?_
      walk_at "rc"
      intro x dx hx hdx ne
      have ex6 := upd2_ex (C := T.C_Rewriter) hx hdx
      refine ⟨x, dx, w1, w2, ls, r1, r1.tab.map rowL, rfl, by omega, bd1, upd_same, .inl (hw1.ex ex6), .inl (hw2.ex ex6), rowsD_L _, fun _ H' kx hrw => ⟨rfl, ?_⟩, fun ng => absurd g1 ng⟩
      have eH := made_ex hx hdx ne kx
      obtain ⟨dxn, _, _, hmn, _⟩ := id hrw
      walk_at "rc"
      refine ⟨x, dxn, _, rfl, hmn, rfl, ?_⟩
      walk_at "rc"
      refine ⟨x, ls, r1, rfl, hrw, fun pc2 H13 e13 hpc2 => ?_⟩
      refine rd_eqD (eH.trans e13) (Evl.Ex.refl _) hpc hpc2 (lay_pic al g1) ?_
      exact q _
end
theorem all_mk {l : PySem.W.OpenLaw} {w : World} {K : PySem.W.Frag} {h : Heap} {mg : Str → Option Value} {fa : Addr} (X : K.In h) (G : h.Ns mainGlobals mg) (hfa : mg "law" = some (.ref fa))
    {a_is_text : Addr} {od_is_text an_is_text : Option Addr} {sl_is_text : Array (Option Value)} {oc_is_text kV_is_text dc_is_text pm_is_text cd_is_text ct_is_text : Value}
    {a_in_turn : Addr} {od_in_turn an_in_turn : Option Addr} {sl_in_turn : Array (Option Value)} {oc_in_turn kV_in_turn dc_in_turn pm_in_turn cd_in_turn ct_in_turn : Value}
    {a__final : Addr} {od__final an__final : Option Addr} {sl__final : Array (Option Value)} {oc__final kV__final dc__final pm__final cd__final ct__final : Value}
    {a_cell : Addr} {od_cell an_cell : Option Addr} {sl_cell : Array (Option Value)} {oc_cell kV_cell dc_cell pm_cell cd_cell ct_cell : Value}
    {a_numbers : Addr} {od_numbers an_numbers : Option Addr} {sl_numbers : Array (Option Value)} {oc_numbers kV_numbers dc_numbers pm_numbers cd_numbers ct_numbers : Value}
    {a_state : Addr} {od_state an_state : Option Addr} {sl_state : Array (Option Value)} {oc_state kV_state dc_state pm_state cd_state ct_state : Value}
    {a_next : Addr} {od_next an_next : Option Addr} {sl_next : Array (Option Value)} {oc_next kV_next dc_next pm_next cd_next ct_next : Value}
    {a_letters : Addr} {od_letters an_letters : Option Addr} {sl_letters : Array (Option Value)} {oc_letters kV_letters dc_letters pm_letters cd_letters ct_letters : Value}
    {a_texts : Addr} {od_texts an_texts : Option Addr} {sl_texts : Array (Option Value)} {oc_texts kV_texts dc_texts pm_texts cd_texts ct_texts : Value}
    {a_word : Addr} {od_word an_word : Option Addr} {sl_word : Array (Option Value)} {oc_word kV_word dc_word pm_word cd_word ct_word : Value}
    {a_maker : Addr} {od_maker an_maker : Option Addr} {sl_maker : Array (Option Value)} {oc_maker kV_maker dc_maker pm_maker cd_maker ct_maker : Value}
    {a_rewrite : Addr} {od_rewrite an_rewrite : Option Addr} {sl_rewrite : Array (Option Value)} {oc_rewrite kV_rewrite dc_rewrite pm_rewrite cd_rewrite ct_rewrite : Value}
    {a_law : Addr} {od_law an_law : Option Addr} {sl_law : Array (Option Value)} {oc_law kV_law dc_law pm_law cd_law ct_law : Value}
    {C_AnytextError C_MachineError C_BadRewriter : Addr}
    {a_init T_init : Addr} {od_init an_init : Option Addr} {sl_init : Array (Option Value)} {oc_init kV_init dc_init pm_init cd_init ct_init : Value} {dd_init : Option Addr} {nn_init : Nat} {sm_init : Array (Option Value)} {oc2_init : Value}
    {nm_BadRewriter q_BadRewriter : Str} {N_BadRewriter : Addr} {bs_BadRewriter : List Value} {sn_BadRewriter : List Str} {sb_BadRewriter : List Value} {ab_BadRewriter : Bool} {col_BadRewriter : Option Bool} {dd_BadRewriter : Option Addr} {m0_BadRewriter m1_BadRewriter m2_BadRewriter m3_BadRewriter m5_BadRewriter : Option Value}
    {C_Rewriter : Addr}
    {a_Rewriter_init : Addr} {od_Rewriter_init an_Rewriter_init : Option Addr} {sl_Rewriter_init : Array (Option Value)} {oc_Rewriter_init kV_Rewriter_init dc_Rewriter_init pm_Rewriter_init cd_Rewriter_init ct_Rewriter_init : Value}
    {a_Rewriter_check : Addr} {od_Rewriter_check an_Rewriter_check : Option Addr} {sl_Rewriter_check : Array (Option Value)} {oc_Rewriter_check kV_Rewriter_check dc_Rewriter_check pm_Rewriter_check cd_Rewriter_check ct_Rewriter_check : Value}
    {a_Rewriter_rewrite : Addr} {od_Rewriter_rewrite an_Rewriter_rewrite : Option Addr} {sl_Rewriter_rewrite : Array (Option Value)} {oc_Rewriter_rewrite kV_Rewriter_rewrite dc_Rewriter_rewrite pm_Rewriter_rewrite cd_Rewriter_rewrite ct_Rewriter_rewrite : Value}
    {a_Rewriter_rewrite_from : Addr} {od_Rewriter_rewrite_from an_Rewriter_rewrite_from : Option Addr} {sl_Rewriter_rewrite_from : Array (Option Value)} {oc_Rewriter_rewrite_from kV_Rewriter_rewrite_from dc_Rewriter_rewrite_from pm_Rewriter_rewrite_from cd_Rewriter_rewrite_from ct_Rewriter_rewrite_from : Value}
    {a_Rewriter_picture : Addr} {od_Rewriter_picture an_Rewriter_picture : Option Addr} {sl_Rewriter_picture : Array (Option Value)} {oc_Rewriter_picture kV_Rewriter_picture dc_Rewriter_picture pm_Rewriter_picture cd_Rewriter_picture ct_Rewriter_picture : Value}
    (n_is_text : PySem.W.nsIn K mainGlobals "is_text" = some (some (.ref a_is_text)))
    (l_is_text : K.lookup a_is_text = some ⟨oc_is_text, od_is_text, .func (PySem.W.fnOf "is_text" "is_text" (defArgs s_is_text) (defBody s_is_text) (defScope s_is_text) .none kV_is_text dc_is_text pm_is_text an_is_text cd_is_text ct_is_text), sl_is_text⟩)
    (c_is_text : PySem.W.codeIn K cd_is_text "is_text" = true)
    (k_is_text : PySem.W.keepIn K (.ref a_is_text) = true)
    (n_in_turn : PySem.W.nsIn K mainGlobals "in_turn" = some (some (.ref a_in_turn)))
    (l_in_turn : K.lookup a_in_turn = some ⟨oc_in_turn, od_in_turn, .func (PySem.W.fnOf "in_turn" "in_turn" (defArgs s_in_turn) (defBody s_in_turn) (defScope s_in_turn) .none kV_in_turn dc_in_turn pm_in_turn an_in_turn cd_in_turn ct_in_turn), sl_in_turn⟩)
    (c_in_turn : PySem.W.codeIn K cd_in_turn "in_turn" = true)
    (k_in_turn : PySem.W.keepIn K (.ref a_in_turn) = true)
    (n__final : PySem.W.nsIn K mainGlobals "_final" = some (some (.ref a__final)))
    (l__final : K.lookup a__final = some ⟨oc__final, od__final, .func (PySem.W.fnOf "_final" "_final" (defArgs s__final) (defBody s__final) (defScope s__final) .none kV__final dc__final pm__final an__final cd__final ct__final), sl__final⟩)
    (c__final : PySem.W.codeIn K cd__final "_final" = true)
    (k__final : PySem.W.keepIn K (.ref a__final) = true)
    (n_cell : PySem.W.nsIn K mainGlobals "_law_cell" = some (some (.ref a_cell)))
    (l_cell : K.lookup a_cell = some ⟨oc_cell, od_cell, .func (PySem.W.fnOf "_law_cell" "_law_cell" (defArgs s_cell) (defBody s_cell) (defScope s_cell) .none kV_cell dc_cell pm_cell an_cell cd_cell ct_cell), sl_cell⟩)
    (c_cell : PySem.W.codeIn K cd_cell "_law_cell" = true)
    (k_cell : PySem.W.keepIn K (.ref a_cell) = true)
    (n_numbers : PySem.W.nsIn K mainGlobals "_law_numbers" = some (some (.ref a_numbers)))
    (l_numbers : K.lookup a_numbers = some ⟨oc_numbers, od_numbers, .func (PySem.W.fnOf "_law_numbers" "_law_numbers" (defArgs s_numbers) (defBody s_numbers) (defScope s_numbers) .none kV_numbers dc_numbers pm_numbers an_numbers cd_numbers ct_numbers), sl_numbers⟩)
    (c_numbers : PySem.W.codeIn K cd_numbers "_law_numbers" = true)
    (k_numbers : PySem.W.keepIn K (.ref a_numbers) = true)
    (n_state : PySem.W.nsIn K mainGlobals "_law_state" = some (some (.ref a_state)))
    (l_state : K.lookup a_state = some ⟨oc_state, od_state, .func (PySem.W.fnOf "_law_state" "_law_state" (defArgs s_state) (defBody s_state) (defScope s_state) .none kV_state dc_state pm_state an_state cd_state ct_state), sl_state⟩)
    (c_state : PySem.W.codeIn K cd_state "_law_state" = true)
    (k_state : PySem.W.keepIn K (.ref a_state) = true)
    (n_next : PySem.W.nsIn K mainGlobals "_law_next" = some (some (.ref a_next)))
    (l_next : K.lookup a_next = some ⟨oc_next, od_next, .func (PySem.W.fnOf "_law_next" "_law_next" (defArgs s_next) (defBody s_next) (defScope s_next) .none kV_next dc_next pm_next an_next cd_next ct_next), sl_next⟩)
    (c_next : PySem.W.codeIn K cd_next "_law_next" = true)
    (k_next : PySem.W.keepIn K (.ref a_next) = true)
    (n_letters : PySem.W.nsIn K mainGlobals "_law_letters" = some (some (.ref a_letters)))
    (l_letters : K.lookup a_letters = some ⟨oc_letters, od_letters, .func (PySem.W.fnOf "_law_letters" "_law_letters" (defArgs s_letters) (defBody s_letters) (defScope s_letters) .none kV_letters dc_letters pm_letters an_letters cd_letters ct_letters), sl_letters⟩)
    (c_letters : PySem.W.codeIn K cd_letters "_law_letters" = true)
    (k_letters : PySem.W.keepIn K (.ref a_letters) = true)
    (n_texts : PySem.W.nsIn K mainGlobals "_law_texts" = some (some (.ref a_texts)))
    (l_texts : K.lookup a_texts = some ⟨oc_texts, od_texts, .func (PySem.W.fnOf "_law_texts" "_law_texts" (defArgs s_texts) (defBody s_texts) (defScope s_texts) .none kV_texts dc_texts pm_texts an_texts cd_texts ct_texts), sl_texts⟩)
    (c_texts : PySem.W.codeIn K cd_texts "_law_texts" = true)
    (k_texts : PySem.W.keepIn K (.ref a_texts) = true)
    (n_word : PySem.W.nsIn K mainGlobals "_law_word" = some (some (.ref a_word)))
    (l_word : K.lookup a_word = some ⟨oc_word, od_word, .func (PySem.W.fnOf "_law_word" "_law_word" (defArgs s_word) (defBody s_word) (defScope s_word) .none kV_word dc_word pm_word an_word cd_word ct_word), sl_word⟩)
    (c_word : PySem.W.codeIn K cd_word "_law_word" = true)
    (k_word : PySem.W.keepIn K (.ref a_word) = true)
    (n_maker : PySem.W.nsIn K mainGlobals "_law_maker" = some (some (.ref a_maker)))
    (l_maker : K.lookup a_maker = some ⟨oc_maker, od_maker, .func (PySem.W.fnOf "_law_maker" "_law_maker" (defArgs s_maker) (defBody s_maker) (defScope s_maker) .none kV_maker dc_maker pm_maker an_maker cd_maker ct_maker), sl_maker⟩)
    (c_maker : PySem.W.codeIn K cd_maker "_law_maker" = true)
    (k_maker : PySem.W.keepIn K (.ref a_maker) = true)
    (n_rewrite : PySem.W.nsIn K mainGlobals "_law_rewrite" = some (some (.ref a_rewrite)))
    (l_rewrite : K.lookup a_rewrite = some ⟨oc_rewrite, od_rewrite, .func (PySem.W.fnOf "_law_rewrite" "_law_rewrite" (defArgs s_rewrite) (defBody s_rewrite) (defScope s_rewrite) .none kV_rewrite dc_rewrite pm_rewrite an_rewrite cd_rewrite ct_rewrite), sl_rewrite⟩)
    (c_rewrite : PySem.W.codeIn K cd_rewrite "_law_rewrite" = true)
    (k_rewrite : PySem.W.keepIn K (.ref a_rewrite) = true)
    (n_law : PySem.W.nsIn K mainGlobals "law" = some (some (.ref a_law)))
    (l_law : K.lookup a_law = some ⟨oc_law, od_law, .func (PySem.W.fnOf "law" "law" (defArgs s_law) (defBody s_law) (defScope s_law) .none kV_law dc_law pm_law an_law cd_law ct_law), sl_law⟩)
    (c_law : PySem.W.codeIn K cd_law "law" = true)
    (k_law : PySem.W.keepIn K (.ref a_law) = true)
    (n_AnytextError : PySem.W.nsIn K mainGlobals "AnytextError" = some (some (.ref C_AnytextError)))
    (n_MachineError : PySem.W.nsIn K mainGlobals "MachineError" = some (some (.ref C_MachineError)))
    (n_BadRewriter : PySem.W.nsIn K mainGlobals "BadRewriter" = some (some (.ref C_BadRewriter)))
    (ini_BadRewriter : PySem.W.findIn K (.ref C_BadRewriter) "__init__" = some (some (.ref a_init)))
    (l_init : K.lookup a_init = some ⟨oc_init, od_init, .func (PySem.W.fnOf "__init__" "AnytextError.__init__" (defArgs s_init) (defBody s_init) (defScope s_init) (.ref T_init) kV_init dc_init pm_init an_init cd_init ct_init), sl_init⟩)
    (c_init : PySem.W.codeIn K cd_init "AnytextError.__init__" = true)
    (k_init : PySem.W.keepIn K (.ref a_init) = true)
    (ti_init : PySem.W.typeIn K (.ref a_init) = some (.type "function"))
    (lt_init : K.lookup T_init = some ⟨oc2_init, dd_init, .seq #[.none] nn_init, sm_init⟩)
    (l_BadRewriter : K.lookup C_BadRewriter = some (excClassObj nm_BadRewriter q_BadRewriter C_BadRewriter N_BadRewriter bs_BadRewriter [.ref C_MachineError, .ref C_AnytextError, .type "ValueError", .type "Exception", .type "BaseException", .type "object"] true sn_BadRewriter sb_BadRewriter ab_BadRewriter col_BadRewriter dd_BadRewriter m0_BadRewriter m1_BadRewriter m2_BadRewriter m3_BadRewriter m5_BadRewriter "ValueError.__new__"))
    (sa_BadRewriter : PySem.W.findIn K (.ref C_BadRewriter) "__setattr__" = some (some (.builtin "object.__setattr__")))
    (ga_BadRewriter : PySem.W.findIn K (.ref C_BadRewriter) "__getattribute__" = some (some (.builtin "BaseException.__getattribute__")))
    (gg_BadRewriter : PySem.W.findIn K (.ref C_BadRewriter) "__getattr__" = some none)
    (nw_BadRewriter : PySem.W.findIn K (.ref C_BadRewriter) "what" = some none)
    (cc_BadRewriter : PySem.W.findIn K (.ref C_BadRewriter) "__class__" = some (some (.builtin "object.__class__")))
    (mo_BadRewriter : PySem.W.mroIn K C_BadRewriter (.type "object") = some true)
    (se_BadRewriter : PySem.W.subIn K (.ref C_BadRewriter) (.ref C_BadRewriter) = some true)
    (kC_BadRewriter : PySem.W.keepIn K (.ref C_BadRewriter) = true)
    (i_BadRewriter : PySem.W.isClsIn K C_BadRewriter = true)
    (t_BadRewriter : PySem.W.typeIn K (.ref C_BadRewriter) = some (.type "type"))
    (e_BadRewriter : PySem.W.subIn K (.ref C_BadRewriter) (.type "BaseException") = some true)
    (h_BadRewriter : PySem.W.hasDictIn K C_BadRewriter = true)
    (sp_B : PySem.W.specialIn K (.builtin "object.__class__") "__get__" = some (some (.builtin "getset_descriptor.__get__")))
    (tk_B : PySem.W.takesIn K (.builtin "object.__class__") = some true)
    (n_Rewriter : PySem.W.nsIn K mainGlobals "Rewriter" = some (some (.ref C_Rewriter)))
    (pg_Rewriter : PySem.W.plainGet K C_Rewriter Str.empty = true)
    (hd_Rewriter : PySem.W.hasDictIn K C_Rewriter = true)
    (po_Rewriter : PySem.W.plainOver K C_Rewriter = true)
    (sa_Rewriter : PySem.W.findIn K (.ref C_Rewriter) "__setattr__" = some (some (.builtin "object.__setattr__")))
    (mk_Rewriter : PySem.W.makesIn K C_Rewriter = true)
    (kc_Rewriter : PySem.W.keepIn K (.ref C_Rewriter) = true)
    (na_Rewriter_letters : PySem.W.findIn K (.ref C_Rewriter) "letters" = some none)
    (na_Rewriter_lead : PySem.W.findIn K (.ref C_Rewriter) "lead" = some none)
    (na_Rewriter_finals : PySem.W.findIn K (.ref C_Rewriter) "finals" = some none)
    (na_Rewriter_table : PySem.W.findIn K (.ref C_Rewriter) "table" = some none)
    (i_Rewriter_init : PySem.W.findIn K (.ref C_Rewriter) "__init__" = some (some (.ref a_Rewriter_init)))
    (q_Rewriter_init : PySem.W.isFn K (.ref a_Rewriter_init) = true)
    (l_Rewriter_init : K.lookup a_Rewriter_init = some ⟨oc_Rewriter_init, od_Rewriter_init, .func (PySem.W.fnOf "__init__" "Rewriter.__init__" (defArgs s_Rewriter_init) (defBody s_Rewriter_init) (defScope s_Rewriter_init) .none kV_Rewriter_init dc_Rewriter_init pm_Rewriter_init an_Rewriter_init cd_Rewriter_init ct_Rewriter_init), sl_Rewriter_init⟩)
    (c_Rewriter_init : PySem.W.codeIn K cd_Rewriter_init "Rewriter.__init__" = true)
    (k_Rewriter_init : PySem.W.keepIn K (.ref a_Rewriter_init) = true)
    (i_Rewriter_check : PySem.W.findIn K (.ref C_Rewriter) "check" = some (some (.ref a_Rewriter_check)))
    (q_Rewriter_check : PySem.W.isFn K (.ref a_Rewriter_check) = true)
    (l_Rewriter_check : K.lookup a_Rewriter_check = some ⟨oc_Rewriter_check, od_Rewriter_check, .func (PySem.W.fnOf "check" "Rewriter.check" (defArgs s_Rewriter_check) (defBody s_Rewriter_check) (defScope s_Rewriter_check) .none kV_Rewriter_check dc_Rewriter_check pm_Rewriter_check an_Rewriter_check cd_Rewriter_check ct_Rewriter_check), sl_Rewriter_check⟩)
    (c_Rewriter_check : PySem.W.codeIn K cd_Rewriter_check "Rewriter.check" = true)
    (k_Rewriter_check : PySem.W.keepIn K (.ref a_Rewriter_check) = true)
    (i_Rewriter_rewrite : PySem.W.findIn K (.ref C_Rewriter) "rewrite" = some (some (.ref a_Rewriter_rewrite)))
    (q_Rewriter_rewrite : PySem.W.isFn K (.ref a_Rewriter_rewrite) = true)
    (l_Rewriter_rewrite : K.lookup a_Rewriter_rewrite = some ⟨oc_Rewriter_rewrite, od_Rewriter_rewrite, .func (PySem.W.fnOf "rewrite" "Rewriter.rewrite" (defArgs s_Rewriter_rewrite) (defBody s_Rewriter_rewrite) (defScope s_Rewriter_rewrite) .none kV_Rewriter_rewrite dc_Rewriter_rewrite pm_Rewriter_rewrite an_Rewriter_rewrite cd_Rewriter_rewrite ct_Rewriter_rewrite), sl_Rewriter_rewrite⟩)
    (c_Rewriter_rewrite : PySem.W.codeIn K cd_Rewriter_rewrite "Rewriter.rewrite" = true)
    (k_Rewriter_rewrite : PySem.W.keepIn K (.ref a_Rewriter_rewrite) = true)
    (i_Rewriter_rewrite_from : PySem.W.findIn K (.ref C_Rewriter) "rewrite_from" = some (some (.ref a_Rewriter_rewrite_from)))
    (q_Rewriter_rewrite_from : PySem.W.isFn K (.ref a_Rewriter_rewrite_from) = true)
    (l_Rewriter_rewrite_from : K.lookup a_Rewriter_rewrite_from = some ⟨oc_Rewriter_rewrite_from, od_Rewriter_rewrite_from, .func (PySem.W.fnOf "rewrite_from" "Rewriter.rewrite_from" (defArgs s_Rewriter_rewrite_from) (defBody s_Rewriter_rewrite_from) (defScope s_Rewriter_rewrite_from) .none kV_Rewriter_rewrite_from dc_Rewriter_rewrite_from pm_Rewriter_rewrite_from an_Rewriter_rewrite_from cd_Rewriter_rewrite_from ct_Rewriter_rewrite_from), sl_Rewriter_rewrite_from⟩)
    (c_Rewriter_rewrite_from : PySem.W.codeIn K cd_Rewriter_rewrite_from "Rewriter.rewrite_from" = true)
    (k_Rewriter_rewrite_from : PySem.W.keepIn K (.ref a_Rewriter_rewrite_from) = true)
    (i_Rewriter_picture : PySem.W.findIn K (.ref C_Rewriter) "picture" = some (some (.ref a_Rewriter_picture)))
    (q_Rewriter_picture : PySem.W.isFn K (.ref a_Rewriter_picture) = true)
    (l_Rewriter_picture : K.lookup a_Rewriter_picture = some ⟨oc_Rewriter_picture, od_Rewriter_picture, .func (PySem.W.fnOf "picture" "Rewriter.picture" (defArgs s_Rewriter_picture) (defBody s_Rewriter_picture) (defScope s_Rewriter_picture) .none kV_Rewriter_picture dc_Rewriter_picture pm_Rewriter_picture an_Rewriter_picture cd_Rewriter_picture ct_Rewriter_picture), sl_Rewriter_picture⟩)
    (c_Rewriter_picture : PySem.W.codeIn K cd_Rewriter_picture "Rewriter.picture" = true)
    (k_Rewriter_picture : PySem.W.keepIn K (.ref a_Rewriter_picture) = true)
    (z_abs : PySem.W.nsIn K mainGlobals "abs" = some none)
    (z_all : PySem.W.nsIn K mainGlobals "all" = some none)
    (z_int : PySem.W.nsIn K mainGlobals "int" = some none)
    (z_len : PySem.W.nsIn K mainGlobals "len" = some none)
    (z_range : PySem.W.nsIn K mainGlobals "range" = some none)
    (z_tuple : PySem.W.nsIn K mainGlobals "tuple" = some none)
    : ∃ fd : FuncData, (∀ (s : Shared) (v : Value), BindsTo s fd ⟨[v], []⟩ [("script", v)]) ∧ ∀ base : Heap, K.In base → base.Ns mainGlobals mg → FnOk l.prog w K mg base CX0 lvLaw fa fd ["script"] (spLaw K) := by
  have e := hfa.symm.trans (PySem.W.mg_of X G n_law)
  cases e
  have f_is_text := fun_mk (st := s_is_text) l_is_text c_is_text k_is_text
  have b_is_text := f_is_text.binds (ps := ["letters", "text"]) fun _ _ _ _ _ _ us hl => match us, hl with | [_, _], _ => rfl
  have f_in_turn := fun_mk (st := s_in_turn) l_in_turn c_in_turn k_in_turn
  have b_in_turn := f_in_turn.binds (ps := ["first", "second"]) fun _ _ _ _ _ _ us hl => match us, hl with | [_, _], _ => rfl
  have f__final := fun_mk (st := s__final) l__final c__final k__final
  have b__final := f__final.binds (ps := ["text", "second", "place"]) fun _ _ _ _ _ _ us hl => match us, hl with | [_, _, _], _ => rfl
  have f_cell := fun_mk (st := s_cell) l_cell c_cell k_cell
  have b_cell := f_cell.binds (ps := ["script", "k"]) fun _ _ _ _ _ _ us hl => match us, hl with | [_, _], _ => rfl
  have f_numbers := fun_mk (st := s_numbers) l_numbers c_numbers k_numbers
  have b_numbers := f_numbers.binds (ps := ["cell", "many"]) fun _ _ _ _ _ _ us hl => match us, hl with | [_, _], _ => rfl
  have f_state := fun_mk (st := s_state) l_state c_state k_state
  have b_state := f_state.binds (ps := ["script", "start", "many"]) fun _ _ _ _ _ _ us hl => match us, hl with | [_, _, _], _ => rfl
  have f_next := fun_mk (st := s_next) l_next c_next k_next
  have b_next := f_next.binds (ps := ["state", "many"]) fun _ _ _ _ _ _ us hl => match us, hl with | [_, _], _ => rfl
  have f_letters := fun_mk (st := s_letters) l_letters c_letters k_letters
  have b_letters := f_letters.binds (ps := ["state", "most"]) fun _ _ _ _ _ _ us hl => match us, hl with | [_, _], _ => rfl
  have f_texts := fun_mk (st := s_texts) l_texts c_texts k_texts
  have b_texts := f_texts.binds (ps := ["letters", "most"]) fun _ _ _ _ _ _ us hl => match us, hl with | [_, _], _ => rfl
  have f_word := fun_mk (st := s_word) l_word c_word k_word
  have b_word := f_word.binds (ps := ["letters", "state", "most"]) fun _ _ _ _ _ _ us hl => match us, hl with | [_, _, _], _ => rfl
  have f_maker := fun_mk (st := s_maker) l_maker c_maker k_maker
  have b_maker := f_maker.binds (ps := ["letters", "state", "most"]) fun _ _ _ _ _ _ us hl => match us, hl with | [_, _, _], _ => rfl
  have f_rewrite := fun_mk (st := s_rewrite) l_rewrite c_rewrite k_rewrite
  have b_rewrite := f_rewrite.binds (ps := ["letters", "parts", "text"]) fun _ _ _ _ _ _ us hl => match us, hl with | [_, _, _], _ => rfl
  have f_law := fun_mk (st := s_law) l_law c_law k_law
  have b_law := f_law.binds (ps := ["script"]) fun _ _ _ _ _ _ us hl => match us, hl with | [_], _ => rfl
  have f_Rewriter_init := fun_mk (st := s_Rewriter_init) l_Rewriter_init c_Rewriter_init k_Rewriter_init
  have b_Rewriter_init := f_Rewriter_init.binds (ps := ["self", "letters", "lead", "finals", "table"]) fun _ _ _ _ _ _ us hl => match us, hl with | [_, _, _, _, _], _ => rfl
  have f_Rewriter_check := fun_mk (st := s_Rewriter_check) l_Rewriter_check c_Rewriter_check k_Rewriter_check
  have b_Rewriter_check := f_Rewriter_check.binds (ps := ["self"]) fun _ _ _ _ _ _ us hl => match us, hl with | [_], _ => rfl
  have f_Rewriter_rewrite := fun_mk (st := s_Rewriter_rewrite) l_Rewriter_rewrite c_Rewriter_rewrite k_Rewriter_rewrite
  have b_Rewriter_rewrite := f_Rewriter_rewrite.binds (ps := ["self", "text"]) fun _ _ _ _ _ _ us hl => match us, hl with | [_, _], _ => rfl
  have f_Rewriter_rewrite_from := fun_mk (st := s_Rewriter_rewrite_from) l_Rewriter_rewrite_from c_Rewriter_rewrite_from k_Rewriter_rewrite_from
  have b_Rewriter_rewrite_from := f_Rewriter_rewrite_from.binds (ps := ["self", "state", "text"]) fun _ _ _ _ _ _ us hl => match us, hl with | [_, _, _], _ => rfl
  have f_Rewriter_picture := fun_mk (st := s_Rewriter_picture) l_Rewriter_picture c_Rewriter_picture k_Rewriter_picture
  have b_Rewriter_picture := f_Rewriter_picture.binds (ps := ["self"]) fun _ _ _ _ _ _ us hl => match us, hl with | [_], _ => rfl
  have fI : FunD K "__init__" "AnytextError.__init__" (defArgs s_init) (defBody s_init) (defScope s_init) [.non] [] a_init _ := ⟨⟨oc_init, od_init, .ref T_init, kV_init, dc_init, pm_init, an_init, cd_init, ct_init, sl_init, rfl, l_init, c_init, .inr ⟨(fun z => nomatch z), T_init, _, [.none], nn_init, rfl, lt_init, rfl, .cons rfl .nil⟩, .inl rfl⟩, k_init⟩
  have bI0 := fI.binds1 (ps := ["self", "what"]) 2 1 (fun z => nomatch z) rfl fun T kV doc pm an cdv ct us its hu hi => match us, hu, its, hi with | [_, _], _, [_], _ => ⟨_, rfl, rfl⟩
  have bI : Binds K (PySem.W.fnOf "__init__" "AnytextError.__init__" (defArgs s_init) (defBody s_init) (defScope s_init) (.ref T_init) kV_init dc_init pm_init an_init cd_init ct_init) ["self", "what"] [] := by
    obtain ⟨ds, hv, hb⟩ := bI0
    cases hv
    exact hb
  let T : Txt K mg := {
    C_Rewriter := C_Rewriter, g_Rewriter := PySem.W.mg_of X G n_Rewriter, cl_Rewriter := ⟨pg_Rewriter, hd_Rewriter, po_Rewriter, sa_Rewriter⟩,
    na_Rewriter_letters := na_Rewriter_letters,
    na_Rewriter_lead := na_Rewriter_lead,
    na_Rewriter_finals := na_Rewriter_finals,
    na_Rewriter_table := na_Rewriter_table,
    a_Rewriter_init := a_Rewriter_init, d_Rewriter_init := _, f_Rewriter_init := f_Rewriter_init, b_Rewriter_init := b_Rewriter_init,
    mk_Rewriter := ⟨mk_Rewriter, i_Rewriter_init, q_Rewriter_init, kc_Rewriter⟩,
    a_Rewriter_check := a_Rewriter_check, d_Rewriter_check := _, f_Rewriter_check := f_Rewriter_check, b_Rewriter_check := b_Rewriter_check,
    m_Rewriter_check := ⟨i_Rewriter_check, q_Rewriter_check, k_Rewriter_check⟩,
    a_Rewriter_rewrite := a_Rewriter_rewrite, d_Rewriter_rewrite := _, f_Rewriter_rewrite := f_Rewriter_rewrite, b_Rewriter_rewrite := b_Rewriter_rewrite,
    m_Rewriter_rewrite := ⟨i_Rewriter_rewrite, q_Rewriter_rewrite, k_Rewriter_rewrite⟩,
    a_Rewriter_rewrite_from := a_Rewriter_rewrite_from, d_Rewriter_rewrite_from := _, f_Rewriter_rewrite_from := f_Rewriter_rewrite_from, b_Rewriter_rewrite_from := b_Rewriter_rewrite_from,
    m_Rewriter_rewrite_from := ⟨i_Rewriter_rewrite_from, q_Rewriter_rewrite_from, k_Rewriter_rewrite_from⟩,
    a_Rewriter_picture := a_Rewriter_picture, d_Rewriter_picture := _, f_Rewriter_picture := f_Rewriter_picture, b_Rewriter_picture := b_Rewriter_picture,
    m_Rewriter_picture := ⟨i_Rewriter_picture, q_Rewriter_picture, k_Rewriter_picture⟩,
    a_is_text := a_is_text, d_is_text := _, f_is_text := f_is_text, o_is_text := ⟨PySem.W.mg_of X G n_is_text, k_is_text, b_is_text⟩,
    a_in_turn := a_in_turn, d_in_turn := _, f_in_turn := f_in_turn, o_in_turn := ⟨PySem.W.mg_of X G n_in_turn, k_in_turn, b_in_turn⟩,
    a__final := a__final, d__final := _, f__final := f__final, o__final := ⟨PySem.W.mg_of X G n__final, k__final, b__final⟩,
    a_cell := a_cell, d_cell := _, f_cell := f_cell, o_cell := ⟨PySem.W.mg_of X G n_cell, k_cell, b_cell⟩,
    a_numbers := a_numbers, d_numbers := _, f_numbers := f_numbers, o_numbers := ⟨PySem.W.mg_of X G n_numbers, k_numbers, b_numbers⟩,
    a_state := a_state, d_state := _, f_state := f_state, o_state := ⟨PySem.W.mg_of X G n_state, k_state, b_state⟩,
    a_next := a_next, d_next := _, f_next := f_next, o_next := ⟨PySem.W.mg_of X G n_next, k_next, b_next⟩,
    a_letters := a_letters, d_letters := _, f_letters := f_letters, o_letters := ⟨PySem.W.mg_of X G n_letters, k_letters, b_letters⟩,
    a_texts := a_texts, d_texts := _, f_texts := f_texts, o_texts := ⟨PySem.W.mg_of X G n_texts, k_texts, b_texts⟩,
    a_word := a_word, d_word := _, f_word := f_word, o_word := ⟨PySem.W.mg_of X G n_word, k_word, b_word⟩,
    a_maker := a_maker, d_maker := _, f_maker := f_maker, o_maker := ⟨PySem.W.mg_of X G n_maker, k_maker, b_maker⟩,
    a_rewrite := a_rewrite, d_rewrite := _, f_rewrite := f_rewrite, o_rewrite := ⟨PySem.W.mg_of X G n_rewrite, k_rewrite, b_rewrite⟩,
    a_law := _, d_law := _, f_law := f_law, o_law := ⟨PySem.W.mg_of X G n_law, k_law, b_law⟩,
    a_init := a_init, d_init := _, T_init := T_init, f_init := fI, tI := ti_init, bI := bI,
    C_AnytextError := C_AnytextError,
    C_MachineError := C_MachineError,
    C_BadRewriter := C_BadRewriter,
    g_BadRewriter := PySem.W.mg_of X G n_BadRewriter,
    x_BadRewriter := ⟨⟨⟨nm_BadRewriter, q_BadRewriter, N_BadRewriter, bs_BadRewriter, _, sn_BadRewriter, sb_BadRewriter, ab_BadRewriter, col_BadRewriter, dd_BadRewriter, m0_BadRewriter, m1_BadRewriter, m2_BadRewriter, m3_BadRewriter, m5_BadRewriter, l_BadRewriter, by rfl⟩, sa_BadRewriter, e_BadRewriter, t_BadRewriter, kC_BadRewriter⟩, ⟨ga_BadRewriter, gg_BadRewriter, e_BadRewriter, h_BadRewriter⟩, nw_BadRewriter, ini_BadRewriter, i_BadRewriter, cc_BadRewriter, mo_BadRewriter, se_BadRewriter⟩,
    clsB := ⟨sp_B, tk_B⟩,
    nb_abs := PySem.W.mg_none_of X G z_abs,
    nb_all := PySem.W.mg_none_of X G z_all,
    nb_int := PySem.W.mg_none_of X G z_int,
    nb_len := PySem.W.mg_none_of X G z_len,
    nb_range := PySem.W.mg_none_of X G z_range,
    nb_tuple := PySem.W.mg_none_of X G z_tuple }
  exact ⟨T.d_law, fun s v => .of_eq rfl, fun base _ _ => ok_law T⟩
end AT
open PySem PySem.W PyProof.Rows
set_option maxRecDepth 100000 in
set_option maxHeartbeats 0 in
theorem PySem.Challenge.cw_anytext_k22_rewriters_in_turn_holds : PySem.Challenge.rw_anytext_k22_rewriters_in_turn.Holds := by
  w_on; o_law; k_head; (case hw => w_witness2)
  k_fill
  refine L2.walk_ofK (l := PySem.Challenge.rw_anytext_k22_rewriters_in_turn) (n := 63) (k := AT.lvLaw) (x := "script") (CX := L2.CX0) (sp := AT.spLaw) rfl (by decide) rfl ⟨rfl, by decide, by decide⟩ (fun w h Y => PySem.W.kIn_of Y) ?F (fun _ _ a ns hl _ hS => ⟨a, ns, rfl, hS, hl, fun _ => rfl⟩) fun _ _ _ _ z => z
  case F =>
    intro w mg fa h KX G hmg
    refine' AT.all_mk KX G hmg ?n_is_text ?l_is_text ?c_is_text ?k_is_text ?n_in_turn ?l_in_turn ?c_in_turn ?k_in_turn ?n__final ?l__final ?c__final ?k__final ?n_cell ?l_cell ?c_cell ?k_cell ?n_numbers ?l_numbers ?c_numbers ?k_numbers ?n_state ?l_state ?c_state ?k_state ?n_next ?l_next ?c_next ?k_next ?n_letters ?l_letters ?c_letters ?k_letters ?n_texts ?l_texts ?c_texts ?k_texts ?n_word ?l_word ?c_word ?k_word ?n_maker ?l_maker ?c_maker ?k_maker ?n_rewrite ?l_rewrite ?c_rewrite ?k_rewrite ?n_law ?l_law ?c_law ?k_law ?n_AnytextError ?n_MachineError ?n_BadRewriter ?ini_BadRewriter ?l_init ?c_init ?k_init ?ti_init ?lt_init ?l_BadRewriter ?sa_BadRewriter ?ga_BadRewriter ?gg_BadRewriter ?nw_BadRewriter ?cc_BadRewriter ?mo_BadRewriter ?se_BadRewriter ?kC_BadRewriter ?i_BadRewriter ?t_BadRewriter ?e_BadRewriter ?h_BadRewriter ?sp_B ?tk_B ?n_Rewriter ?pg_Rewriter ?hd_Rewriter ?po_Rewriter ?sa_Rewriter ?mk_Rewriter ?kc_Rewriter ?na_Rewriter_letters ?na_Rewriter_lead ?na_Rewriter_finals ?na_Rewriter_table ?i_Rewriter_init ?q_Rewriter_init ?l_Rewriter_init ?c_Rewriter_init ?k_Rewriter_init ?i_Rewriter_check ?q_Rewriter_check ?l_Rewriter_check ?c_Rewriter_check ?k_Rewriter_check ?i_Rewriter_rewrite ?q_Rewriter_rewrite ?l_Rewriter_rewrite ?c_Rewriter_rewrite ?k_Rewriter_rewrite ?i_Rewriter_rewrite_from ?q_Rewriter_rewrite_from ?l_Rewriter_rewrite_from ?c_Rewriter_rewrite_from ?k_Rewriter_rewrite_from ?i_Rewriter_picture ?q_Rewriter_picture ?l_Rewriter_picture ?c_Rewriter_picture ?k_Rewriter_picture ?z_abs ?z_all ?z_int ?z_len ?z_range ?z_tuple
    (case n_is_text => k_is); (case l_is_text => k_is); (case c_is_text => k_is); (case k_is_text => k_is); (case n_in_turn => k_is); (case l_in_turn => k_is)
    (case c_in_turn => k_is); (case k_in_turn => k_is); (case n__final => k_is); (case l__final => k_is); (case c__final => k_is); (case k__final => k_is)
    (case n_cell => k_is); (case l_cell => k_is); (case c_cell => k_is); (case k_cell => k_is); (case n_numbers => k_is); (case l_numbers => k_is)
    (case c_numbers => k_is); (case k_numbers => k_is); (case n_state => k_is); (case l_state => k_is); (case c_state => k_is); (case k_state => k_is)
    (case n_next => k_is); (case l_next => k_is); (case c_next => k_is); (case k_next => k_is); (case n_letters => k_is); (case l_letters => k_is)
    (case c_letters => k_is); (case k_letters => k_is); (case n_texts => k_is); (case l_texts => k_is); (case c_texts => k_is); (case k_texts => k_is)
    (case n_word => k_is); (case l_word => k_is); (case c_word => k_is); (case k_word => k_is); (case n_maker => k_is); (case l_maker => k_is)
    (case c_maker => k_is); (case k_maker => k_is); (case n_rewrite => k_is); (case l_rewrite => k_is); (case c_rewrite => k_is); (case k_rewrite => k_is)
    (case n_law => k_is); (case l_law => k_is); (case c_law => k_is); (case k_law => k_is); (case n_AnytextError => k_is); (case n_MachineError => k_is)
    (case n_BadRewriter => k_is); (case ini_BadRewriter => k_is); (case l_init => k_is); (case c_init => k_is); (case k_init => k_is); (case ti_init => k_is)
    (case lt_init => k_is); (case l_BadRewriter => k_is); (case sa_BadRewriter => k_is); (case ga_BadRewriter => k_is); (case gg_BadRewriter => k_is); (case nw_BadRewriter => k_is)
    (case cc_BadRewriter => k_is); (case mo_BadRewriter => k_is); (case se_BadRewriter => k_is); (case kC_BadRewriter => k_is); (case i_BadRewriter => k_is); (case t_BadRewriter => k_is)
    (case e_BadRewriter => k_is); (case h_BadRewriter => k_is); (case sp_B => k_is); (case tk_B => k_is); (case n_Rewriter => k_is); (case pg_Rewriter => k_is)
    (case hd_Rewriter => k_is); (case po_Rewriter => k_is); (case sa_Rewriter => k_is); (case mk_Rewriter => k_is); (case kc_Rewriter => k_is); (case na_Rewriter_letters => k_is)
    (case na_Rewriter_lead => k_is); (case na_Rewriter_finals => k_is); (case na_Rewriter_table => k_is); (case i_Rewriter_init => k_is); (case q_Rewriter_init => k_is); (case l_Rewriter_init => k_is)
    (case c_Rewriter_init => k_is); (case k_Rewriter_init => k_is); (case i_Rewriter_check => k_is); (case q_Rewriter_check => k_is); (case l_Rewriter_check => k_is); (case c_Rewriter_check => k_is)
    (case k_Rewriter_check => k_is); (case i_Rewriter_rewrite => k_is); (case q_Rewriter_rewrite => k_is); (case l_Rewriter_rewrite => k_is); (case c_Rewriter_rewrite => k_is); (case k_Rewriter_rewrite => k_is)
    (case i_Rewriter_rewrite_from => k_is); (case q_Rewriter_rewrite_from => k_is); (case l_Rewriter_rewrite_from => k_is); (case c_Rewriter_rewrite_from => k_is); (case k_Rewriter_rewrite_from => k_is); (case i_Rewriter_picture => k_is)
    (case q_Rewriter_picture => k_is); (case l_Rewriter_picture => k_is); (case c_Rewriter_picture => k_is); (case k_Rewriter_picture => k_is); (case z_abs => k_is); (case z_all => k_is)
    (case z_int => k_is); (case z_len => k_is); (case z_range => k_is); (case z_tuple => k_is)

