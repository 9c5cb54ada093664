import PyProof.Rows.All
import Wide.All
import OpenK.AllK
import Wide.FinOn
import HandS.ForMost
import HandS.ForExc
import HandS.Walk
import HandS.Evl
import HandS.ExcInit
import HandS.ExcField
import HandS.ExcIs
import HandS.IsInst
import HandS.RaiseMore
import HandS.TupAny
import HandS.TryOnly
import HandS.Defaults
import HandS.Steps
import KE.KExcIs
import HandS.TupMul
import PyProof.ReprRoads
import HandS.Replace
import KE.DataMinMax
import KE.DataCmp
import PyProof.StrBlock2
import PySem.Challenge.RW_anytext_k01_alphabets
set_option Elab.async false
set_option linter.all false
set_option maxRecDepth 100000
set_option maxHeartbeats 4000000
/-! own words: readings step by step, operators by several kinds of values -/
namespace AT
open PySem PySem.Spec PyProof.Rows L2
abbrev Ex := Evl.Ex
section
variable {X : Cx} {f : Value → Value → Sem Value} {r r' : R2}
theorem OpR.or (h : OpR X f r) (h' : OpR X f r') : OpR X f (fun x y H Q => r x y H Q ∨ r' x y H Q) := by
  intro pins s σ H x y v u Q I rx ry q
  rcases q with q | q
  · exact h pins s σ H x y v u Q I rx ry q
  · exact h' pins s σ H x y v u Q I rx ry q
theorem CallR.or {f : Value} {r r' : List V → Hp → VK → Prop} (h : CallR X f r) (h' : CallR X f r') : CallR X f (fun x H Q => r x H Q ∨ r' x H Q) := by
  intro pins s σ H x us Q I rx q
  rcases q with q | q
  · exact h pins s σ H x us Q I rx q
  · exact h' pins s σ H x us Q I rx q
end
/-! ### operators -/
/-- + of ints, of texts, of lists -/
def oAdd (K : PySem.W.Frag) : R2 := fun x y H Q => (rI0 (fun i j => .int (i + j)) x y H Q) ∨ (∃ i j : Str, x = .str i ∧ y = .str j ∧ i.length + j.length ≤ sizeLine ∧ Q (.str (i ++ j)) H) ∨ rCat x y H Q ∨ rCatT K x y H Q
theorem op_addP {X : Cx} : OpR X (binaryOp .Add) (oAdd X.K) := OpR.or op_add (OpR.or op_add_str (OpR.or op_cat op_catT))
def oSub : R2 := rI0 fun i j => .int (i - j)
theorem op_subP {X : Cx} : OpR X (binaryOp .Sub) oSub := op_sub
def oMul : R2 := rI CMul fun i j => .int (i * j)
theorem op_mulP {X : Cx} : OpR X (binaryOp .Mult) oMul := op_mul
def oMod : R2 := rI (fun _ j => j ≠ 0) fun i j => .int (i.fmod j)
theorem op_modP {X : Cx} : OpR X (binaryOp .Mod) oMod := op_modN
def oDiv : R2 := rI CDivN fun i j => .int (i.fdiv j)
theorem op_divP {X : Cx} : OpR X (binaryOp .FloorDiv) oDiv := op_fdivN
def oPow : R2 := rI CPow fun i j => .int (i ^ j.toNat)
theorem op_powP {X : Cx} : OpR X (binaryOp .Pow) oPow := op_pow
def oLt : R2 := rI0 fun i j => .bl (decide (i < j))
def oLe : R2 := rI0 fun i j => .bl (decide (i ≤ j))
def oGt : R2 := rI0 fun i j => .bl (decide (j < i))
def oGe : R2 := rI0 fun i j => .bl (decide (j ≤ i))
theorem op_ltP {X : Cx} : OpR X (compareOp .Lt) oLt := op_lt
theorem op_leP {X : Cx} : OpR X (compareOp .LtE) oLe := op_le
theorem op_gtP {X : Cx} : OpR X (compareOp .Gt) oGt := op_gt
theorem op_geP {X : Cx} : OpR X (compareOp .GtE) oGe := op_ge
/-- == of ints, bools, texts; of data -/
def oEq (K : PySem.W.Frag) : R2 := fun x y H Q => rEq x y H Q ∨ rEqD K x y H Q
def oNe (K : PySem.W.Frag) : R2 := fun x y H Q => rNe x y H Q ∨ rNeD K x y H Q
theorem op_eqP {X : Cx} (hu : X.A.units + 64 < cLine) : OpR X (compareOp .Eq) (oEq X.K) := OpR.or op_eq (op_eqD hu)
theorem op_neP {X : Cx} (hu : X.A.units + 64 < cLine) : OpR X (compareOp .NotEq) (oNe X.K) := OpR.or op_ne (op_neD hu)

/-! ### reading, step by step -/
section rd
variable {K : PySem.W.Frag} {σ : L2.St} {H : Hp} {Q : VK} {QB : Bool → Hp → Prop} {QL : List V → Hp → Prop} {D : Ends} {ta tb tc te to : TE} {tt uu : TT} {tl : TA} {t u : TS} {g : TG} {i : Nat} {v w x y : V} {r r' : R2} {QS : L2.St → Hp → Prop}
theorem rd_seq (h : t { D with nx := u D } σ H) : tSeq t u D σ H := h
theorem rd_asg (h : te σ H fun x H1 => g x σ H1 D.nx) : tAsg te g D σ H := h
theorem rd_name (h : QS (σ.set i (some v)) H) : gName i v σ H QS := h
theorem rd_var (e : σ[i]? = some (some v)) (h : Q v H) : tVar i σ H Q := ⟨v, e, h⟩
theorem rd_c (h : Q v H) : tC v σ H Q := h
theorem rd_op (h : ta σ H fun x H1 => tb σ H1 fun y H2 => r x y H2 Q) : tOp r ta tb σ H Q := h
theorem rd_ret (h : te σ H D.rt) : tRet te D σ H := h
theorem rd_retN (h : D.rt .non H) : tRetN D σ H := h
theorem rd_if (h : tt σ H fun b H1 => if b = true then t D σ H1 else u D σ H1) : tIfS tt t u D σ H := h
theorem rd_ife (h : tt σ H fun b H1 => if b = true then ta σ H1 Q else tb σ H1 Q) : tIf tt ta tb σ H Q := h
theorem rd_next (h : D.nx σ H) : tNext D σ H := h
theorem rd_drop (h : te σ H fun _ H1 => D.nx σ H1) : tDrop te D σ H := h
theorem rd_test (h : te σ H fun x H' => ∃ k, x = .bl k ∧ QB k H') : tTest te σ H QB := h
theorem rd_tB (h : te σ H fun x H' => ∃ k, x = .bl k ∧ QB k H') : tB te σ H QB := h
theorem rd_bl {b : Bool} {P : Bool → Prop} (h : P b) : ∃ k, V.bl b = .bl k ∧ P k := ⟨b, rfl, h⟩
theorem rd_not (h : tt σ H fun c H1 => QB (!c) H1) : tNot tt σ H QB := h
theorem rd_and (h : tt σ H fun c H1 => if c = true then uu σ H1 QB else QB false H1) : tAnd tt uu σ H QB := h
theorem rd_or (h : tt σ H fun c H1 => if c = true then QB true H1 else uu σ H1 QB) : tOr tt uu σ H QB := h
theorem rd_nil (h : QL [] H) : tNil σ H QL := h
theorem rd_cons (h : ta σ H fun x H1 => tl σ H1 fun xs H2 => QL (x :: xs) H2) : tCons ta tl σ H QL := h
theorem rd_lst (h : tl σ H fun xs H1 => xs.length ≤ sizeLine ∧ ∀ p, H1 p = none → Q (.ref p) (upd H1 p (.lst xs))) : tLst tl σ H Q := h
theorem rd_tup (h : tl σ H fun xs H1 => xs.length ≤ sizeLine ∧ ∀ p, H1 p = none → Q (.ref p) (upd H1 p (.tup xs))) : tTup tl σ H Q := h
theorem rd_cb {rc : List V → Hp → VK → Prop} (h : tl σ H fun vs H1 => rc vs H1 Q) : tCB rc tl σ H Q := h
theorem rd_chain (h : ta σ H fun x H1 => tb σ H1 fun y H2 => r x y H2 fun z H3 => ∃ k, z = .bl k ∧ if k = true then tc σ H3 fun w H4 => r' y w H4 Q else Q (.bl false) H3) : tChain r r' ta tb tc σ H Q := h
theorem rd_call {sp : Sp} {dvs : List V} {E : XK} (h : tl σ H fun vs H1 => sp (vs ++ dvs) H1 Q E) : tCall sp dvs E tl σ H Q := h
theorem rd_iteT {A B : Prop} (h : A) : if true = true then A else B := iteT h
theorem rd_iteF {A B : Prop} (h : B) : if false = true then A else B := iteF h
theorem rd_itet {A B : Prop} {c : Bool} (e : c = true) (h : A) : if c = true then A else B := by rw [e]; exact iteT h
theorem rd_itef {A B : Prop} {c : Bool} (e : c = false) (h : B) : if c = true then A else B := by rw [e]; exact iteF h
theorem rd_ite {A B : Prop} {c : Bool} (h1 : c = true → A) (h2 : c = false → B) : if c = true then A else B := by
  cases c with
  | true => exact iteT (h1 rfl)
  | false => exact iteF (h2 rfl)
theorem rd_iteD {A B p : Prop} [Decidable p] (h1 : p → A) (h2 : ¬ p → B) : if decide p = true then A else B := rd_ite (fun e => h1 (of_decide_eq_true e)) fun e => h2 (of_decide_eq_false e)
theorem rd_iteN {A B p : Prop} [Decidable p] (h1 : ¬ p → A) (h2 : p → B) : if (!decide p) = true then A else B := rd_ite (fun e => h1 (by simpa using e)) fun e => h2 (by simpa using e)
/-! ints -/
variable {a b : Int}
theorem rd_addI (h : Q (.int (a + b)) H) : oAdd K (.int a) (.int b) H Q := .inl ⟨a, b, rfl, rfl, h⟩
theorem rd_subI (h : Q (.int (a - b)) H) : oSub (.int a) (.int b) H Q := ⟨a, b, rfl, rfl, h⟩
theorem rd_mulI (c : CMul a b) (h : Q (.int (a * b)) H) : oMul (.int a) (.int b) H Q := ⟨a, b, rfl, rfl, c, h⟩
theorem rd_modI (c : b ≠ 0) (h : Q (.int (a.fmod b)) H) : oMod (.int a) (.int b) H Q := ⟨a, b, rfl, rfl, c, h⟩
theorem rd_divI (c : CDivN a b) (h : Q (.int (a.fdiv b)) H) : oDiv (.int a) (.int b) H Q := ⟨a, b, rfl, rfl, c, h⟩
theorem rd_powI (c : CPow a b) (h : Q (.int (a ^ b.toNat)) H) : oPow (.int a) (.int b) H Q := ⟨a, b, rfl, rfl, c, h⟩
theorem rd_lt (h : Q (.bl (decide (a < b))) H) : oLt (.int a) (.int b) H Q := ⟨a, b, rfl, rfl, h⟩
theorem rd_le (h : Q (.bl (decide (a ≤ b))) H) : oLe (.int a) (.int b) H Q := ⟨a, b, rfl, rfl, h⟩
theorem rd_gt (h : Q (.bl (decide (b < a))) H) : oGt (.int a) (.int b) H Q := ⟨a, b, rfl, rfl, h⟩
theorem rd_ge (h : Q (.bl (decide (b ≤ a))) H) : oGe (.int a) (.int b) H Q := ⟨a, b, rfl, rfl, h⟩
theorem rd_eqI (h : Q (.bl (decide (a = b))) H) : oEq K (.int a) (.int b) H Q := .inl ⟨rfl, by
  have e : decide (V.int a = V.int b) = decide (a = b) := decide_eq_decide.mpr ⟨fun z => V.int.inj z, fun z => by rw [z]⟩
  rw [e]; exact h⟩
theorem rd_neI (h : Q (.bl (!decide (a = b))) H) : oNe K (.int a) (.int b) H Q := .inl ⟨rfl, by
  have e : decide (V.int a = V.int b) = decide (a = b) := decide_eq_decide.mpr ⟨fun z => V.int.inj z, fun z => by rw [z]⟩
  rw [e]; exact h⟩
theorem rd_eqS {x y : Str} (h : Q (.bl (decide (x = y))) H) : oEq K (.str x) (.str y) H Q := .inl ⟨rfl, by
  have e : decide (V.str x = V.str y) = decide (x = y) := decide_eq_decide.mpr ⟨fun z => V.str.inj z, fun z => by rw [z]⟩
  rw [e]; exact h⟩
theorem rd_neS {x y : Str} (h : Q (.bl (!decide (x = y))) H) : oNe K (.str x) (.str y) H Q := .inl ⟨rfl, by
  have e : decide (V.str x = V.str y) = decide (x = y) := decide_eq_decide.mpr ⟨fun z => V.str.inj z, fun z => by rw [z]⟩
  rw [e]; exact h⟩
theorem rd_addS {x y : Str} (c : x.length + y.length ≤ sizeLine) (h : Q (.str (x ++ y)) H) : oAdd K (.str x) (.str y) H Q := .inr (.inl ⟨x, y, rfl, rfl, c, h⟩)
theorem rd_cat {l m : Addr} {xs ys : List V} (h1 : H l = some (.lst xs)) (h2 : H m = some (.lst ys)) (c : xs.length + ys.length ≤ sizeLine) (h : ∀ p, H p = none → Q (.ref p) (upd H p (.lst (xs ++ ys)))) : oAdd K (.ref l) (.ref m) H Q := .inr (.inr (.inl ⟨l, m, xs, ys, rfl, rfl, h1, h2, c, h⟩))
/-! calls of built-ins -/
end rd
/-! ### heaps -/
theorem ex_upd {H0 H : Hp} {p : Addr} {o : HO} (e : Ex H0 H) (h : H p = none) : Ex H0 (upd H p o) := fun a u q => by
  rw [upd_ne (ne_of_none (e a u q) h)]
  exact e a u q
theorem sq_upd {K : PySem.W.Frag} {H : Hp} {a p : Addr} {o : HO} {xs : List V} (hp : H p = none) (h : SqL K H a xs) : SqL K (upd H p o) a xs := Evl.ex_l (Evl.Ex.new hp) h
theorem sqt_upd {K : PySem.W.Frag} {H : Hp} {a p : Addr} {o : HO} {xs : List V} (hp : H p = none) (h : SqT K H a xs) : SqT K (upd H p o) a xs := Evl.ex_t (Evl.Ex.new hp) h
theorem at_upd {H : Hp} {a p : Addr} {o u : HO} (hp : H p = none) (h : H a = some u) : upd H p o a = some u := by
  rw [upd_ne (ne_of_none h hp)]; exact h

/-! ### more operators: in, len, slices, what is walked, repr -/
section
variable {X : Cx}
def oIn (K : PySem.W.Frag) : R2 := fun x y H Q => (∃ (c : Nat) (z : Str), x = .str ⟨#[c]⟩ ∧ y = .str z ∧ Q (.bl (decide (c ∈ z.cps.toList))) H) ∨ rIn K false x y H Q
def oNotIn (K : PySem.W.Frag) : R2 := fun x y H Q => (∃ (c : Nat) (z : Str), x = .str ⟨#[c]⟩ ∧ y = .str z ∧ Q (.bl (!decide (c ∈ z.cps.toList))) H) ∨ rIn K true x y H Q
theorem op_inP : OpR X (compareOp .In) (oIn X.K) := OpR.or op_in_sign op_in_seq
theorem op_notInP : OpR X (compareOp .NotIn) (oNotIn X.K) := OpR.or op_notIn_sign op_notIn_seq
def cLen (K : PySem.W.Frag) : List V → Hp → VK → Prop := fun xs H Q => (∃ x n, xs = [x] ∧ LenV K x H n ∧ Q (.int n) H) ∨ ∃ a kvs, xs = [V.ref a] ∧ H a = some (.dK kvs) ∧ Q (.int kvs.length) H
theorem call_lenP : CallR X (.builtin "len") (cLen X.K) := CallR.or call_len call_lenD
def cInt : List V → Hp → VK → Prop := fun xs H Q => (∃ i, xs = [.int i] ∧ Q (.int i) H) ∨ ∃ k, xs = [.bl k] ∧ Q (.int (if k then 1 else 0)) H
theorem call_intP : CallR X (.type "int") cInt := call_int1
def cAbs : List V → Hp → VK → Prop := fun xs H Q => ∃ i, xs = [.int i] ∧ Q (.int (if i < 0 then -i else i)) H
theorem call_absP : CallR X (.builtin "abs") cAbs := call_abs
def oSl (K : PySem.W.Frag) : V → Option Int → Option Int → Hp → VK → Prop := fun x lo hi H Q => rSlL K x lo hi H Q ∨ rSlS x lo hi H Q ∨ rSlA K x lo hi H Q
theorem sl_P : SlR X (oSl X.K) := SlR.or sl_list (SlR.or sl_str sl_tupA)
theorem PI.or {tg iter : Expr} {w w' : TI} (h : PI X tg iter w) (h' : PI X tg iter w') : PI X tg iter (fun σ H R => w σ H R ∨ w' σ H R) :=
  ⟨fun pins s σ H R I q => q.elim (h.run pins s σ H R I) (h'.run pins s σ H R I)⟩
def iAny (K : PySem.W.Frag) (te : TE) : TI := fun σ H R => iList K te σ H R ∨ iTup K te σ H R ∨ iStr te σ H R
theorem pi_any {tg e : Expr} {te : TE} (he : PE X e te) : PI X tg e (iAny X.K te) := PI.or (pi_list he) (PI.or (pi_tup he) (pi_str he))
theorem call_repr_bl : CallR X (.builtin "repr") (fun xs H Q => ∃ b, xs = [.bl b] ∧ Q (.str (if b then "True" else "False")) H) := by
  intro pins s σ H xs us Q I r h
  obtain ⟨b, rfl, q⟩ := h
  obtain ⟨u, rfl, ru⟩ := vals1 r
  cases (show u = Value.bool b from ru)
  exact PySem.P.repr_of_bool ⟨.str _, H, I.tok _, ⟨_, rfl⟩, q⟩
def cRepr : List V → Hp → VK → Prop := fun xs H Q => (∃ i, xs = [.int i] ∧ i.natAbs.log2 < 1920 ∧ Q (.str (toString i)) H) ∨ ∃ b, xs = [.bl b] ∧ Q (.str (if b then "True" else "False")) H
theorem call_reprP : CallR X (.builtin "repr") cRepr := CallR.or SkE.call_repr_int call_repr_bl
end
/-! ### own defs -/
/-- the def named x stands at f; all its parameters are written at a call -/
structure Own (K : PySem.W.Frag) (mg : Str → Option Value) (x : Str) (f : Addr) (fd : FuncData) (ps : List Str) : Prop where
  g : mg x = some (.ref f)
  k : PySem.W.keepIn K (.ref f) = true
  b : Binds K fd ps []
section
variable {X : Cx} {k : Nat} {f : Addr} {fd : FuncData} {ps : List Str} {sp : Sp} {x : Str} {p pos : Pos} {e : Expr} {es : List Expr} {t : TA}
def tCalled (sp : Sp) (t : TA) : TE := fun σ H Q => t σ H fun vs H1 => sp vs H1 Q E0
/-- a call of a def that raises nothing -/
theorem pe_callE (F : FnOk X.prog X.w X.K X.mg X.base CX0 k f fd ps sp) (hr : Room k X.A) (O : Own X.K X.mg x f fd ps) (ha : PA X (e :: es) t) (hg : Gl X x := by rfl)
    (hdb : (x == ("__debug__" : Str)) = false := by decide) (he : starEach (e :: es) X.env = (false, eval e X.env) :: starEach es X.env := by rfl) (hpl : (backTo pos (starEach es X.env)).any (·.1) = false := by rfl) :
    PE X (.Call (.Name x p) (e :: es) [] pos) (tCalled sp t) := pe_callS (E := fun _ => E0) F hr hg O.g O.k O.b (fun _ _ _ _ _ _ _ h => h.elim) ha hdb he hpl
def tCalledR (sp : Sp) (W : WX) (t : TA) : TE := fun σ H Q => t σ H fun vs H1 => sp vs H1 Q fun c d H2 => W c d σ H2
/-- a call of a def that may raise -/
theorem pe_callR {W : WX} (F : FnOk X.prog X.w X.K X.mg X.base (L2.CX X.prog X.w) k f fd ps sp) (hr : Room k X.A) (O : Own X.K X.mg x f fd ps) (tk : Takes X W) (ha : PA X (e :: es) t) (hg : Gl X x := by rfl)
    (hdb : (x == ("__debug__" : Str)) = false := by decide) (he : starEach (e :: es) X.env = (false, eval e X.env) :: starEach es X.env := by rfl) (hpl : (backTo pos (starEach es X.env)).any (·.1) = false := by rfl) :
    PE X (.Call (.Name x p) (e :: es) [] pos) (tCalledR sp W t) := pe_callS (E := WE W) F hr hg O.g O.k O.b (fun σ => passAt tk σ) ha hdb he hpl
end
/-! ### exceptions with the one attribute «what» -/
/-- the __init__ of the family: self.what = what -/
def spInit (K : PySem.W.Frag) : Sp := fun vs H Q _ => ∃ (a C : Addr) (v : V), vs = [.ref a, v] ∧ OexC K C ∧ PySem.W.findIn K (.ref C) "what" = some none ∧ H a = some (exo a C none) ∧
  ∀ dx, H dx = none → dx ≠ a → Q .non (upd (upd H dx (exd dx [("what", v)])) a (exo a C (some dx)))
/-- what the written part says of such a class -/
structure ErrX (K : PySem.W.Frag) (C fI : Addr) : Prop where
  ox : OexC K C
  xf : XfC K C
  nw : PySem.W.findIn K (.ref C) "what" = some none
  ini : PySem.W.findIn K (.ref C) "__init__" = some (some (.ref fI))
  cl : PySem.W.isClsIn K C = true
  cc : PySem.W.findIn K (.ref C) "__class__" = some (some (.builtin "object.__class__"))
  mo : PySem.W.mroIn K C (.type "object") = some true
  se : PySem.W.subIn K (.ref C) (.ref C) = some true
/-- of the builtin that tells an object's class -/
structure ClsB (K : PySem.W.Frag) : Prop where
  sp : PySem.W.specialIn K (.builtin "object.__class__") "__get__" = some (some (.builtin "getset_descriptor.__get__"))
  tk : PySem.W.takesIn K (.builtin "object.__class__") = some true
theorem mk_what {K : PySem.W.Frag} {C fI : Addr} {v : V} {H1 : Hp} {Q : XK} {vs : List V} (T : ErrX K C fI) (ev : vs = [v]) (h : ∀ d, H1 d = none → Q (.ref C) (some d) (upd H1 d (.xd [("what", v)]))) :
    vs.length ≤ 1000 ∧ ∀ a, H1 a = none → spInit K (.ref a :: (vs ++ [])) (upd H1 a (exo a C none))
      (fun u H2 => u = .non ∧ ∃ (d : Addr) (fs : List (Str × V)), H2 a = some (exo a C (some d)) ∧ H2 d = some (exd d fs) ∧ H1 d = none ∧ Q (.ref C) (some d) (upd (del H2 a) d (.xd fs))) (fun _ _ _ => False) := by
  subst ev
  refine ⟨by show 1 ≤ 1000; decide, fun a ha => ⟨a, C, v, rfl, T.ox, T.nw, upd_same, fun dx hdx ne => ⟨rfl, dx, [("what", v)], upd_same, ?_, ?_, ?_⟩⟩⟩
  · rw [upd_ne ne, upd_same]
  · rw [upd_ne ne] at hdx
    exact hdx
  · rw [upd_ne ne] at hdx
    have e : upd (del (upd (upd (upd H1 a (exo a C none)) dx (exd dx [("what", v)])) a (exo a C (some dx))) a) dx (.xd [("what", v)]) = upd H1 dx (.xd [("what", v)]) := by
      funext b
      by_cases h1 : b = dx
      · rw [h1, upd_same, upd_same]
      · rw [upd_ne h1, upd_ne h1]
        by_cases h2 : b = a
        · rw [h2, del_same, ha]
        · rw [del_ne h2, upd_ne h2, upd_ne h1, upd_ne h2]
    rw [e]
    exact h dx hdx
/-- raise C(e) -/
def tRaised (C : Addr) (W : WX) (ta : TA) : TS := fun _ σ H => ta σ H fun vs H1 => ∃ v, vs = [v] ∧ ∀ d, H1 d = none → W (.ref C) (some d) σ (upd H1 d (.xd [("what", v)]))
section
variable {X : Cx} {C fI : Addr} {fd : FuncData} {x : Str} {p pos pos2 : Pos} {e : Expr} {ta : TA} {W : WX}
theorem PA.imp {es : List Expr} {t t' : TA} (h : PA X es t) (hi : ∀ σ H Q, t' σ H Q → t σ H Q) : PA X es t' := ⟨fun pos pins s σ H Q I q => h.run pos pins s σ H Q I (hi σ H Q q)⟩
theorem PS.imp {st : Stmt} {t t' : TS} (h : PS X st t) (hi : ∀ D σ H, t' D σ H → t D σ H) : PS X st t' := ⟨fun pins s σ H D I q => h.run pins s σ H D I (hi D σ H q)⟩
/-- a reading is monotone in its wish -/
def MonoA (t : TA) : Prop := ∀ σ H (Q Q' : List V → Hp → Prop), (∀ vs H1, Q vs H1 → Q' vs H1) → t σ H Q → t σ H Q'
theorem ps_raiseW (hc : X.calm = true) (T : ErrX X.K C fI) (G : FnOk X.prog X.w X.K X.mg X.base CX0 1 fI fd ["self", "what"] (spInit X.K)) (tI : PySem.W.typeIn X.K (.ref fI) = some (.type "function")) (bI : Binds X.K fd ["self", "what"] []) (hr : Room 2 X.A) (hm : X.mg x = some (.ref C))
    (tk : Takes X W) (ha : PA X (e :: []) ta) (mo : MonoA ta) (hg : Gl X x := by rfl) (hdb : (x == ("__debug__" : Str)) = false := by decide)
    (he : starEach (e :: []) X.env = (false, eval e X.env) :: starEach [] X.env := by rfl) (hpl : (backTo pos (starEach [] X.env)).any (·.1) = false := by rfl) :
    PS X (.Raise (some (.Call (.Name x p) (e :: []) [] pos)) none pos2) (tRaised C W ta) := by
  refine PS.imp (ps_raise hc tk (pmk_oex (pos := pos) T.ox T.ini tI G hr bI .nil pass0 hg hm ha hdb he hpl)) fun D σ H q => ?_
  refine mo σ H _ _ (fun vs H1 q => ?_) q
  obtain ⟨v, ev, h⟩ := q
  exact mk_what (Q := fun c d H' => W c d σ H') T ev h
theorem MonoA.nil : MonoA tNil := fun _ _ _ _ h q => h _ _ q
theorem MonoA.one {te : TE} (m : ∀ σ H (Q Q' : VK), (∀ v H1, Q v H1 → Q' v H1) → te σ H Q → te σ H Q') : MonoA (tCons te tNil) := fun σ H Q Q' h q => m σ H _ _ (fun v H1 z => h _ _ z) q
theorem mono_var {i : Nat} : ∀ σ H (Q Q' : VK), (∀ v H1, Q v H1 → Q' v H1) → tVar i σ H Q → tVar i σ H Q' := fun _ _ _ _ h ⟨v, e, q⟩ => ⟨v, e, h _ _ q⟩
theorem mono_c {v : V} : ∀ σ H (Q Q' : VK), (∀ v H1, Q v H1 → Q' v H1) → tC v σ H Q → tC v σ H Q' := fun _ _ _ _ h q => h _ _ q
end
/-- isinstance(e, c), isinstance(e, (c, ..)): e the exception that the suite holds -/
def cIsE (K : PySem.W.Frag) (D a dd : Addr) : List V → Hp → VK → Prop := fun xs H Q => ∃ (fs : List (Str × V)) (b : Bool), H dd = some (.xd fs) ∧
  ((∃ (c : V) (cv : Value), xs = [.ref a, c] ∧ ClsV c cv ∧ PySem.W.kitOne K (.ref D) cv = some b) ∨ ∃ (tp : Addr) (cs : List V) (us : List Value), xs = [.ref a, .ref tp] ∧ H tp = some (.tup cs) ∧ Paired ClsV cs us ∧ PySem.W.kitAny K (.ref D) us = some b) ∧ Q (.bl b) H
theorem call_isX {X : Cx} {a D dd fI : Addr} {oe : Obj} {pn : List (Addr × Obj)} (T : ErrX X.K D fI) (B : ClsB X.K) (hz : Zc (.ref D) (some dd) oe) (hf : ∃ vs, oe.data = .fields vs) : CallR (X.suite a ((a, oe) :: pn)) (.builtin "isinstance") (cIsE X.K D a dd) := by
  intro pins s σ H xs us Q I r h
  obtain ⟨fs, b, hdd, hc, q⟩ := h
  obtain ⟨mA, hns, _⟩ := (show ObjOk X.prog X.w H s.heap dd (.xd fs) from I.hok dd _ hdd)
  obtain ⟨od, ho, _⟩ := lookIn_ns hns
  obtain ⟨hget, _⟩ := I.pin (a, oe) (List.mem_append.mpr (.inl List.mem_cons_self))
  obtain ⟨vs, hv⟩ := hf
  have J : PySem.W.InstAt s.heap a oe D (some od) := ⟨hget, hz.1, by unfold PySem.W.notCls; rw [hv] <;> rfl, by rw [hz.2]; exact ho⟩
  have Z : PySem.W.KitX X.K (.ref a) (.ref D) (fun h => PySem.W.InstAt h a oe D (some od)) := PySem.W.kitx_exc T.cl T.xf.ga T.xf.gg T.xf.exC T.cc B.sp B.tk T.mo
  rcases hc with ⟨c, cv, rfl, hcv, e⟩ | ⟨tp, cs, ws, rfl, hT, hcs, e⟩
  · obtain ⟨u1, u2, rfl, r1, r2⟩ := vals2 r
    cases (show u1 = Value.ref a from r1)
    have e2 := hcv.eq r2
    subst e2
    exact PySem.W.kia_one Z I.kIn J e (fun z => nomatch z) fun tk => ⟨.bl b, H, I.tok tk, rfl, q⟩
  · obtain ⟨u1, u2, rfl, r1, r2⟩ := vals2 r
    cases (show u1 = Value.ref a from r1)
    cases (show u2 = Value.ref tp from r2)
    obtain ⟨_, its, rv, o, h1, h2, n, h3⟩ := (show ObjOk X.prog X.w H s.heap tp (.tup cs) from I.hok tp _ hT)
    have e3 := ClsV.all hcs rv
    subst e3
    obtain ⟨oc, od', dt, sl⟩ := o
    simp only at h2 h3
    subst h2 h3
    exact PySem.W.kia_tup Z I.kIn J h1 e (fun z => nomatch z) fun tk => ⟨.bl b, H, I.tok tk, rfl, q⟩
/-- an own class or a class of Python's beside it: what isinstance says -/
theorem kit_ref {K : PySem.W.Frag} {D C fI : Addr} {b : Bool} (T : ErrX K D fI) (cl : PySem.W.isClsIn K C = true) (ty : PySem.W.typeIn K (.ref C) = some (.type "type")) (s : PySem.W.subIn K (.ref D) (.ref C) = some b) : PySem.W.kitOne K (.ref D) (.ref C) = some b := by
  by_cases e : D = C
  · subst e
    rw [T.se] at s
    obtain rfl : true = b := Option.some.inj s
    unfold PySem.W.kitOne
    rw [if_pos (by simp)]
  · unfold PySem.W.kitOne
    rw [if_neg (by simp [e])]
    show (if ((PySem.W.clsIn K C).isSome && PySem.W.typeIn K (.ref C) == some (.type "type")) = true then PySem.W.subIn K (.ref D) (.ref C) else none) = some b
    have e1 : (PySem.W.clsIn K C).isSome = true := cl
    rw [e1, ty, s]
    rfl
theorem kit_bt {K : PySem.W.Frag} {D : Addr} {n : String} {b : Bool} (m : PySem.W.kitMeta n = true) (s : PySem.W.subIn K (.ref D) (.type n) = some b) : PySem.W.kitOne K (.ref D) (.type n) = some b := by
  unfold PySem.W.kitOne
  rw [if_neg (by simp)]
  show (if PySem.W.kitMeta n = true then PySem.W.subIn K (.ref D) (.type n) else none) = some b
  rw [if_pos m, s]

theorem PSs.exi {ι : Type} {X : Cx} {st : List Stmt} {P : ι → Prop} {t : ι → TS} (h : ∀ i, P i → PSs X st (t i)) : PSs X st (fun D σ H => ∃ i, P i ∧ t i D σ H) :=
  ⟨fun pins s σ H D I ⟨i, p, q⟩ => (h i p).run pins s σ H D I q⟩
/-- what a suite knows of its exception: its class, its dict, where the family's __init__ stands -/
structure Caught (K : PySem.W.Frag) (cls : Value) (d : Option Addr) (i : Addr × Addr × Addr) : Prop where
  c : cls = .ref i.1
  e : d = some i.2.1
  x : ErrX K i.1 i.2.2
theorem Caught.z {K : PySem.W.Frag} {cls : Value} {d : Option Addr} {i : Addr × Addr × Addr} {oe : Obj} (h : Caught K cls d i) (hz : Zc cls d oe) : Zc (.ref i.1) (some i.2.1) oe := ⟨hz.1.trans h.c, hz.2.trans h.e⟩
/-! ### reading of calls -/
section
variable {K : PySem.W.Frag} {σ : L2.St} {H : Hp} {Q : VK} {D : Ends} {tl : TA} {te ta tb : TE} {a : Int} {v x : V} {n : Nat} {W : WX} {C : Addr}
theorem rd_called {sp : Sp} (h : tl σ H fun vs H1 => sp vs H1 Q E0) : tCalled sp tl σ H Q := h
theorem rd_calledR {sp : Sp} (h : tl σ H fun vs H1 => sp vs H1 Q fun c d H2 => W c d σ H2) : tCalledR sp W tl σ H Q := h
theorem rd_raised (h : tl σ H fun vs H1 => ∃ v, vs = [v] ∧ ∀ d, H1 d = none → W (.ref C) (some d) σ (upd H1 d (.xd [("what", v)]))) : tRaised C W tl D σ H := h
theorem rd_raised1 {P : V → Prop} (h : P v) : ∃ v', [v] = [v'] ∧ P v' := ⟨v, rfl, h⟩
theorem rd_int (h : Q (.int a) H) : cInt [.int a] H Q := .inl ⟨a, rfl, h⟩
theorem rd_abs (h : Q (.int (if a < 0 then -a else a)) H) : cAbs [.int a] H Q := ⟨a, rfl, h⟩
theorem rd_lenL {p : Addr} {xs : List V} (e : SqL K H p xs) (h : Q (.int (xs.length : Nat)) H) : cLen K [.ref p] H Q := .inl ⟨_, _, rfl, .inl ⟨xs, e, rfl⟩, h⟩
theorem rd_lenT {p : Addr} {xs : List V} (e : SqT K H p xs) (h : Q (.int (xs.length : Nat)) H) : cLen K [.ref p] H Q := .inl ⟨_, _, rfl, .inr ⟨xs, e, rfl⟩, h⟩
theorem rd_lenS {z : Str} (e : z.length ≤ sizeLine) (h : Q (.int (z.length : Nat)) H) : cLen K [.str z] H Q := .inl ⟨_, _, rfl, ⟨e, rfl⟩, h⟩
theorem rd_ixL {p : Addr} {xs : List V} (e : SqL K H p xs) (ha : atI xs a = some v) (h : Q v H) : rIx K (.ref p) (.int a) H Q := .inl ⟨p, xs, a, v, rfl, rfl, e, ha, h⟩
theorem rd_ixT {p : Addr} {xs : List V} (e : SqT K H p xs) (ha : atI xs a = some v) (h : Q v H) : rIx K (.ref p) (.int a) H Q := .inr (.inl ⟨p, xs, a, v, rfl, rfl, e, ha, h⟩)
theorem rd_ixS {z : Str} {c : Nat} (e : z.length ≤ sizeLine) (ha : atI z.cps.toList a = some c) (h : Q (.str ⟨#[c]⟩) H) : rIx K (.str z) (.int a) H Q := .inr (.inr ⟨z, a, c, rfl, rfl, e, ha, h⟩)
theorem rd_inS {c : Nat} {z : Str} (h : Q (.bl (decide (c ∈ z.cps.toList))) H) : oIn K (.str ⟨#[c]⟩) (.str z) H Q := .inl ⟨c, z, rfl, rfl, h⟩
theorem rd_niS {c : Nat} {z : Str} (h : Q (.bl (!decide (c ∈ z.cps.toList))) H) : oNotIn K (.str ⟨#[c]⟩) (.str z) H Q := .inl ⟨c, z, rfl, rfl, h⟩
theorem rd_rng1 {ta : TA} {R : It → Hp → Prop} (h : ta σ H fun vs H1 => ∃ j : Int, vs = [.int j] ∧ -(2 ^ 62) ≤ j ∧ j < 2 ^ 62 ∧ R (Itr 0 j.toNat) H1) : iRng1 ta σ H R := h
theorem rd_rng2 {ta : TA} {R : It → Hp → Prop} (h : ta σ H fun vs H1 => ∃ i j : Int, vs = [.int i, .int j] ∧ (-(2 ^ 62) ≤ i ∧ i < 2 ^ 62 ∧ -(2 ^ 62) ≤ j ∧ j < 2 ^ 62) ∧ R (Itr i (j - i).toNat) H1) : iRng2 ta σ H R := h
theorem rd_bm {T : String} {r : V → List V → Hp → VK → Prop} {to : TE} {t : TA} (h : to σ H fun x H1 => tyV K T x H1 ∧ t σ H1 fun xs H2 => r x xs H2 Q) : tBM K T r to t σ H Q := h
theorem rd_andV (h : ta σ H fun x H1 => ∃ c, x = .bl c ∧ if c = true then tb σ H1 Q else Q (.bl false) H1) : tAndV ta tb σ H Q := h
theorem rd_orV (h : ta σ H fun x H1 => ∃ c, x = .bl c ∧ if c = true then Q (.bl true) H1 else tb σ H1 Q) : tOrV ta tb σ H Q := h
theorem rd_sl {r : V → Option Int → Option Int → Hp → VK → Prop} {tl th : TO} (h : te σ H fun x H1 => tl σ H1 fun l H2 => th σ H2 fun u H3 => r x l u H3 Q) : tSl r te tl th σ H Q := h
theorem rd_noPart {Q : Option Int → Hp → Prop} (h : Q none H) : tNoPart σ H Q := h
theorem rd_part {Q : Option Int → Hp → Prop} (h : te σ H fun x H1 => ∃ i, x = .int i ∧ Q (some i) H1) : tPart te σ H Q := h
theorem rd_intv {P : Int → Prop} (h : P a) : ∃ i, V.int a = .int i ∧ P i := ⟨a, rfl, h⟩
theorem rd_slS {z : Str} {lo hi : Option Int} (e : z.length ≤ sizeLine) (h : Q (.str (cutS z lo hi)) H) : oSl K (.str z) lo hi H Q := .inr (.inl ⟨z, rfl, e, h⟩)
end

section
variable {CX : CXT} {P : Program} {w : World} {K : PySem.W.Frag} {mg : Str → Option Value} {base : Heap} {N : List Str} {q : Str} {sc : Scope} {f : Addr} {cdv : Value} {A : Around} {outer : List Env} {s : Shared} {H : Hp} {E : XK}
theorem cxK : (cxOf CX P w K mg base N q sc f cdv A outer s H E).nox.K = K := rfl
theorem cxK' : (cxOf CX P w K mg base N q sc f cdv A outer s H E).K = K := rfl
end

/-! ### loops and comprehensions -/
def forB (g : TG) (tb : TS) (D : Ends) (σ : L2.St) (J : It) (H : Hp) : Prop := tFor (fun _ H R => R J H) g tb D σ H
def lcB (g : TG) (tt : TT) (te : TE) (vs : List Nat) (σ : L2.St) (Q : VK) (J : It) (H : Hp) : Prop := tLc (fun _ H R => R J H) g tt te vs σ H Q
section
variable {K : PySem.W.Frag} {σ : L2.St} {H : Hp} {Q : VK} {D : Ends} {wi : TI} {g : TG} {tb : TS} {tt : TT} {te : TE} {vs : List Nat} {J : It} {n : Nat} {G : Hp → Prop} {Y : Nat → Hp → V → Hp → Prop} {R : It → Hp → Prop}
theorem rd_for (h : wi σ H (forB g tb D σ)) : tFor wi g tb D σ H := h
theorem rd_lc (h : wi σ H (lcB g tt te vs σ Q)) : tLc wi g tt te vs σ H Q := h
theorem fo_range {n : Nat} (Pv : Nat → L2.St → Hp → Prop) (h0 : Pv 0 σ H) (hs : ∀ (i : Nat) σ H, i < n → Pv i σ H → g (.int (i : Int)) σ H fun σ2 H2 => tb { D with nx := Pv (i + 1), ct := Pv (i + 1), bk := D.nx } σ2 H2) (hd : ∀ σ H, Pv n σ H → D.nx σ H) : forB g tb D σ (Itr 0 n) H :=
  for_range (lo := 0) Pv h0 (fun i σ H hi p => by rw [Int.zero_add]; exact hs i σ H hi p) hd
theorem fo_range2 {lo : Int} {n : Nat} (Pv : Nat → L2.St → Hp → Prop) (h0 : Pv 0 σ H) (hs : ∀ (i : Nat) σ H, i < n → Pv i σ H → g (.int (lo + (i : Int))) σ H fun σ2 H2 => tb { D with nx := Pv (i + 1), ct := Pv (i + 1), bk := D.nx } σ2 H2) (hd : ∀ σ H, Pv n σ H → D.nx σ H) : forB g tb D σ (Itr lo n) H :=
  for_range (lo := lo) Pv h0 hs hd
theorem fo_it (w : Walk J n G Y) (Pv : Nat → L2.St → Hp → Prop) (h0 : Pv 0 σ H) (hG : ∀ i σ H, i ≤ n → Pv i σ H → G H)
    (hs : ∀ i x σ H H', i < n → Pv i σ H → Y i H x H' → g x σ H' fun σ2 H2 => tb { D with nx := Pv (i + 1), ct := Pv (i + 1), bk := D.nx } σ2 H2) (hd : ∀ σ H, Pv n σ H → D.nx σ H) : forB g tb D σ J H := for_it w Pv h0 hG hs hd
/-- over a text -/
theorem fo_str {z : Str} (Pv : Nat → L2.St → Hp → Prop) (h0 : Pv 0 σ H) (hs : ∀ (i : Nat) c σ H, z.cps.toList[i]? = some c → Pv i σ H → g (.str ⟨#[c]⟩) σ H fun σ2 H2 => tb { D with nx := Pv (i + 1), ct := Pv (i + 1), bk := D.nx } σ2 H2) (hd : ∀ σ H, Pv z.length σ H → D.nx σ H) : forB g tb D σ (Its z) H :=
  fo_it walk_str Pv h0 (fun _ _ _ _ _ => True.intro) (fun i x σ H H' hi p y => by
    obtain ⟨rfl, c, e, rfl⟩ := y
    exact hs i c σ _ (by rw [Array.getElem?_toList]; exact e) p) hd
theorem fo_list {a : Addr} {xs : List V} (Pv : Nat → L2.St → Hp → Prop) (h0 : Pv 0 σ H) (hl : ∀ i σ H, i ≤ xs.length → Pv i σ H → SqL K H a xs) (hs : ∀ (i : Nat) x σ H, xs[i]? = some x → Pv i σ H → g x σ H fun σ2 H2 => tb { D with nx := Pv (i + 1), ct := Pv (i + 1), bk := D.nx } σ2 H2)
    (hd : ∀ σ H, Pv xs.length σ H → D.nx σ H) : forB g tb D σ (Itl K a) H := for_list Pv h0 hl hs hd
theorem fo_tup {a : Addr} {xs : List V} (Pv : Nat → L2.St → Hp → Prop) (h0 : Pv 0 σ H) (hl : ∀ i σ H, i ≤ xs.length → Pv i σ H → SqT K H a xs) (hs : ∀ (i : Nat) x σ H, xs[i]? = some x → Pv i σ H → g x σ H fun σ2 H2 => tb { D with nx := Pv (i + 1), ct := Pv (i + 1), bk := D.nx } σ2 H2)
    (hd : ∀ σ H, Pv xs.length σ H → D.nx σ H) : forB g tb D σ (Itt K a) H := for_tup Pv h0 hl hs hd
/-- what is walked -/
theorem rd_anyL {a : Addr} {xs : List V} {te : TE} (he : ∀ Q : VK, Q (.ref a) H → te σ H Q) (hs : SqL K H a xs) (h : R (Itl K a) H) : iAny K te σ H R := .inl (he _ ⟨a, rfl, ⟨xs, hs⟩, h⟩)
theorem rd_anyT {a : Addr} {xs : List V} {te : TE} (he : ∀ Q : VK, Q (.ref a) H → te σ H Q) (hs : SqT K H a xs) (h : R (Itt K a) H) : iAny K te σ H R := .inr (.inl (he _ ⟨a, rfl, ⟨xs, hs⟩, h⟩))
theorem rd_anyS {z : Str} {te : TE} (he : ∀ Q : VK, Q (.str z) H → te σ H Q) (h : R (Its z) H) : iAny K te σ H R := .inr (.inr (he _ ⟨z, rfl, h⟩))
/-- a comprehension whose parts leave the heap -/
theorem lc_pure {j : Nat} {xs : Nat → V} {f : Nat → Bool} {v : Nat → V} (w : Walk J n G Y) (hY : ∀ i H x H', i < n → Y i H x H' → H' = H ∧ x = xs i) (hG : ∀ Hc, Ex H Hc → G Hc) (hn : n < 100000)
    (ht : ∀ i Hc, i < n → Ex H Hc → Ans tt ((wipe σ [j]).set j (some (xs i))) Hc (f i)) (he : ∀ i Hc, i < n → Ex H Hc → f i = true → Val te ((wipe σ [j]).set j (some (xs i))) Hc (v i))
    (h : ∀ L, H L = none → Q (.ref L) (upd H L (.lst (Evl.given n f v)))) : lcB (gName j) tt te [j] σ Q J H := by
  intro L hL
  have hz : ∀ m, m ≤ n → (Evl.given m f v).length < sizeLine := fun m hm => Nat.lt_of_le_of_lt (Evl.given_len m f v) (Nat.lt_of_le_of_lt hm (Nat.lt_trans hn (by decide)))
  refine lc_it w (fun i Hc => i ≤ n ∧ Hc = upd H L (.lst (Evl.given i f v))) ⟨Nat.zero_le _, rfl⟩ (fun i Hc _ p => ?_) (fun i x Hc H' hi p y => ?_) fun Hc p => ?_
  · obtain ⟨_, rfl⟩ := p
    exact hG _ (Evl.Ex.new hL)
  · obtain ⟨hi1, rfl⟩ := p
    obtain ⟨rfl, rfl⟩ := hY _ _ _ _ hi y
    have e0 := Evl.Ex.new (o := .lst (Evl.given i f v)) hL
    refine ⟨by simp [wipe], ?_⟩
    refine ht i _ hi e0 _ ?_
    cases hf : f i with
    | true =>
      refine rd_iteT ?_
      refine he i _ hi e0 hf _ ?_
      refine ⟨_, upd_same, hz i (Nat.le_of_lt hi), hi, ?_⟩
      rw [upd_upd, Evl.given_yes hf]
    | false =>
      refine rd_iteF ⟨hi, ?_⟩
      rw [Evl.given_no hf]
  · obtain ⟨_, rfl⟩ := p
    exact h L hL
theorem rd_yes {QB : Bool → Hp → Prop} (h : QB true H) : tYes σ H QB := h
theorem ans_yes : Ans tYes σ H true := fun _ q => q
end
/-- the list that is given -/
theorem given_eq {α : Type} (l : List α) (p : α → Bool) (f : α → V) (q : Nat → Bool) (v : Nat → V) (hq : ∀ i x, l[i]? = some x → q i = p x) (hv : ∀ i x, l[i]? = some x → v i = f x) : ∀ n, n ≤ l.length → Evl.given n q v = ((l.take n).filter p).map f
  | 0, _ => rfl
  | n + 1, h => by
    have hx : l[n]? = some (l[n]'h) := List.getElem?_eq_getElem h
    have ih := given_eq l p f q v hq hv n (Nat.le_of_lt h)
    rw [List.take_succ, hx]
    cases e : p (l[n]'h) with
    | true =>
      rw [Evl.given_yes ((hq _ _ hx).trans e), ih, List.filter_append, List.map_append, hv _ _ hx]
      simp [e]
    | false =>
      rw [Evl.given_no ((hq _ _ hx).trans e), ih, List.filter_append, List.map_append]
      simp [e]

theorem rd_gsub {to ti : TE} {t : TSet} {v : V} {σ : L2.St} {H : Hp} {Q : L2.St → Hp → Prop} (h : to σ H fun o H1 => ti σ H1 fun i H2 => t o i v H2 fun H3 => Q σ H3) : gSub to ti t v σ H Q := h
theorem rd_while {tt : TT} {tb : TS} {D : Ends} {σ : L2.St} {H : Hp} (Pv : L2.St → Hp → Prop) (μ : L2.St → Hp → Nat) (h0 : Pv σ H)
    (hs : ∀ σ H, Pv σ H → tt σ H fun b H1 => if b = true then tb { D with nx := fun σ' H' => Pv σ' H' ∧ μ σ' H' < μ σ H, ct := fun σ' H' => Pv σ' H' ∧ μ σ' H' < μ σ H, bk := D.nx } σ H1 else D.nx σ H1)
    (mono : ∀ σ H Q Q', (∀ b H1, Q b H1 → Q' b H1) → tt σ H Q → tt σ H Q') : tWhile tt tb D σ H := while_by Pv μ h0 hs mono

/-! ### the same, the written part named -/
section
variable {X : Cx} (K : PySem.W.Frag) (hK : X.K = K := by rfl)
include hK
theorem kAdd : OpR X (binaryOp .Add) (oAdd K) := hK ▸ op_addP
theorem kEq (hu : X.A.units + 64 < cLine) : OpR X (compareOp .Eq) (oEq K) := hK ▸ op_eqP hu
theorem kNe (hu : X.A.units + 64 < cLine) : OpR X (compareOp .NotEq) (oNe K) := hK ▸ op_neP hu
theorem kIn : OpR X (compareOp .In) (oIn K) := hK ▸ op_inP
theorem kNotIn : OpR X (compareOp .NotIn) (oNotIn K) := hK ▸ op_notInP
theorem kLen : CallR X (.builtin "len") (cLen K) := hK ▸ call_lenP
theorem kSl : SlR X (oSl K) := hK ▸ sl_P
theorem kIx : IxR X (rIx K) := hK ▸ ix_seq
theorem kAny {tg e : Expr} {te : TE} (he : PE X e te) : PI X tg e (iAny K te) := hK ▸ pi_any he
theorem kAll (hc : X.calm = true := by rfl) : CallR X (.builtin "all") (rAll K) := hK ▸ cr_all hc
theorem kAnyOf (hc : X.calm = true := by rfl) : CallR X (.builtin "any") (rAny K) := hK ▸ cr_any hc
theorem kSum (hc : X.calm = true := by rfl) : CallR X (.builtin "sum") (rSum K) := hK ▸ cr_sum hc
end
section
variable {X : Cx} {x : Str} {pos : Pos}
theorem pe_globS {s : Str} {t : Tok} (hg : Gl X x) (hm : X.mg x = some (.str s t)) (hd : (x == ("__debug__" : Str)) = false := by decide) : PE X (.Name x pos) (tC (.str s)) := pe_glob hg hm ⟨t, rfl⟩ hd
theorem pe_globI {i : Int} {t : Tok} (hg : Gl X x) (hm : X.mg x = some (.int i t)) (hd : (x == ("__debug__" : Str)) = false := by decide) : PE X (.Name x pos) (tC (.int i)) := pe_glob hg hm ⟨t, rfl⟩ hd
theorem pe_globR {a : Addr} (hg : Gl X x) (hm : X.mg x = some (.ref a)) (hd : (x == ("__debug__" : Str)) = false := by decide) : PE X (.Name x pos) (tC (.ref a)) := pe_glob (v := .ref a) hg hm rfl hd
end

theorem rd_iteNF {A B : Prop} (h : A) : if (!false) = true then A else B := iteT h
theorem rd_iteNT {A B : Prop} (h : B) : if (!true) = true then A else B := iteF h

section
variable {X : Cx} {x : Str} {pos : Pos}
theorem pe_blT {n : String} (hg : Gl X x) (hm : X.mg x = none) (hv : bootBuiltins x = some (.type n)) (hn : x ≠ "__name__" := by decide) (hd : (x == ("__debug__" : Str)) = false := by decide) : PE X (.Name x pos) (tC (.ty n)) := pe_bltn (v := .ty n) hg hm hv rfl hn hd
end
/-! ### lists of flat values compared -/
def okS (z : Str) : Prop := PyData.strOk z = true
theorem okS_iff {z : Str} : okS z ↔ ∀ c ∈ z.cps.toList, c < 0x110000 := by
  unfold okS PyData.strOk
  rw [← Array.all_toList, List.all_eq_true]
  exact ⟨fun h c hc => by simpa using h c hc, fun h c hc => by simpa using h c hc⟩
theorem okS_app {x y : Str} (hx : okS x) (hy : okS y) : okS (x ++ y) := okS_iff.mpr fun c hc => by
  have e : (x ++ y).cps.toList = x.cps.toList ++ y.cps.toList := TL.tl_append x y
  rw [e] at hc
  exact (List.mem_append.mp hc).elim (okS_iff.mp hx c) (okS_iff.mp hy c)
theorem okS_one {z : Str} {c : Nat} (hz : okS z) (hc : c ∈ z.cps.toList) : okS ⟨#[c]⟩ := okS_iff.mpr fun d hd => by
  have e : d = c := by simpa using hd
  rw [e]
  exact okS_iff.mp hz c hc
theorem okS_sub {x y : Str} (hy : okS y) (h : ∀ c ∈ x.cps.toList, c ∈ y.cps.toList) : okS x := okS_iff.mpr fun c hc => okS_iff.mp hy c (h c hc)
def dOf : V → PyData
  | .bl b => .bool b
  | .int i => .int i
  | .str x => .str x
  | _ => .none
def flat1 : V → Bool
  | .non => true
  | .bl _ => true
  | .int _ => true
  | .str x => PyData.strOk x
  | _ => false
theorem dp_flat {K : PySem.W.Frag} {H : Hp} {v : V} (h : flat1 v = true) : Dp K H v (dOf v) := by
  cases v with
  | non => exact .non
  | bl b => exact .bl b
  | int i => exact .int i
  | str x => exact .str x
  | byt _ => exact absurd h Bool.false_ne_true
  | flt _ => exact absurd h Bool.false_ne_true
  | ref _ => exact absurd h Bool.false_ne_true
  | ty _ => exact absurd h Bool.false_ne_true
theorem lay_flat {v : V} (h : flat1 v = true) : (dOf v).canLay0 = true ∧ (dOf v).depth = 0 := by
  cases v with
  | str x => exact ⟨h, rfl⟩
  | _ => exact ⟨rfl, rfl⟩
theorem dpAll_flat {K : PySem.W.Frag} {H : Hp} : ∀ {xs : List V}, xs.all flat1 = true → DpAll K H xs (xs.map dOf)
  | [], _ => .nil
  | v :: xs, h => by
    rw [List.all_cons, Bool.and_eq_true] at h
    exact .cons (dp_flat h.1) (dpAll_flat h.2)
theorem lay_all : ∀ {xs : List V}, xs.all flat1 = true → PyData.canLayAll0 (xs.map dOf) = true ∧ PyData.depthAll (xs.map dOf) = 0
  | [], _ => ⟨rfl, rfl⟩
  | v :: xs, h => by
    rw [List.all_cons, Bool.and_eq_true] at h
    obtain ⟨h1, h2⟩ := lay_flat h.1
    obtain ⟨h3, h4⟩ := lay_all h.2
    refine ⟨?_, ?_⟩
    · show ((dOf v).canLay0 && PyData.canLayAll0 (xs.map dOf)) = true
      rw [h1, h3]
      rfl
    · show max (dOf v).depth (PyData.depthAll (xs.map dOf)) = 0
      rw [h2, h4]
      rfl
theorem shaped_list {xs : List V} (h : xs.all flat1 = true) : SeqAt.shaped (.list (xs.map dOf)) = true := by
  obtain ⟨h1, h2⟩ := lay_all h
  refine Bool.and_eq_true_iff.mpr ⟨h1, decide_eq_true ?_⟩
  show PyData.depthAll (xs.map dOf) + 1 ≤ 64
  rw [h2]
  decide
theorem refl_list {xs : List V} (h : xs.all flat1 = true) : PyData.eqv (.list (xs.map dOf)) (.list (xs.map dOf)) = true := SeqAt.eqv_refl _ (lay_all h).1
section
variable {K : PySem.W.Frag} {p q : Addr} {xs : List V} {H : Hp} {Q : VK}
theorem rd_neL (hp : SqL K H p xs) (hq : SqL K H q xs) (hf : xs.all flat1 = true) (h : Q (.bl false) H) : oNe K (.ref p) (.ref q) H Q :=
  .inr ⟨_, _, .lst hp (dpAll_flat hf), .lst hq (dpAll_flat hf), shaped_list hf, shaped_list hf, by rw [refl_list hf]; exact h⟩
theorem rd_eqL (hp : SqL K H p xs) (hq : SqL K H q xs) (hf : xs.all flat1 = true) (h : Q (.bl true) H) : oEq K (.ref p) (.ref q) H Q :=
  .inr ⟨_, _, .lst hp (dpAll_flat hf), .lst hq (dpAll_flat hf), shaped_list hf, shaped_list hf, by rw [refl_list hf]; exact h⟩
theorem rd_eqNil (hp : SqL K H p xs) (hq : SqL K H q []) (hf : xs.all flat1 = true) (h : Q (.bl xs.isEmpty) H) : oEq K (.ref p) (.ref q) H Q :=
  .inr ⟨_, .list [], .lst hp (dpAll_flat hf), .lst hq .nil, shaped_list hf, rfl, by
    cases xs with
    | nil => exact h
    | cons a r => exact h⟩
end
theorem rd_reprB {b : Bool} {H : Hp} {Q : VK} (h : Q (.str (if b then "True" else "False")) H) : cRepr [.bl b] H Q := .inr ⟨b, rfl, h⟩

section
variable {σ : L2.St} {H : Hp} {Q : VK} {D : Ends} {t u : TS} {te ta tb : TE} {g : TG} {a b : Bool}
theorem rd_seqA (h : tAsg te g { D with nx := u D } σ H) : tSeq (tAsg te g) u D σ H := h
theorem rd_seqD (h : tDrop te { D with nx := u D } σ H) : tSeq (tDrop te) u D σ H := h
/-- a statement, then the rest: R is what holds between -/
theorem rd_cut (R : L2.St → Hp → Prop) (h1 : ∀ N : L2.St → Hp → Prop, (∀ σ H, R σ H → N σ H) → t { D with nx := N } σ H) (h2 : ∀ σ H, R σ H → u D σ H) : tSeq t u D σ H := h1 (u D) h2
theorem val_andV (h1 : Val ta σ H (.bl a)) (h2 : a = true → Val tb σ H (.bl b)) : Val (tAndV ta tb) σ H (.bl (a && b)) := fun Q q => h1 _ ⟨a, rfl, by
  cases a with
  | true => exact iteT (h2 rfl _ q)
  | false => exact iteF q⟩
theorem val_orV (h1 : Val ta σ H (.bl a)) (h2 : a = false → Val tb σ H (.bl b)) : Val (tOrV ta tb) σ H (.bl (a || b)) := fun Q q => h1 _ ⟨a, rfl, by
  cases a with
  | true => exact iteT q
  | false => exact iteF (h2 rfl _ q)⟩
theorem val_is {v w : V} (h : Val te σ H v) (e : v = w) : Val te σ H w := e ▸ h
theorem rd_val {v : V} (h : Val te σ H v) (q : Q v H) : te σ H Q := h Q q
end

theorem rd_idS {t u : TS} {D : Ends} {σ : L2.St} {H : Hp} (h : tSeq t u D σ H) : tSeq t u D σ H := h
theorem rd_idI {c : TT} {t u : TS} {D : Ends} {σ : L2.St} {H : Hp} (h : tIfS c t u D σ H) : tIfS c t u D σ H := h
end AT

set_option Elab.async false
set_option linter.all false
set_option maxRecDepth 100000
set_option maxHeartbeats 4000000
/-! own words, second part: objects that are made and asked where something may be raised; data; tuples -/
namespace AT
open PySem PySem.Spec L2
section
variable {X : Cx} {Cx1 : CXT} {n : Nat} {fa Ca : Addr} {fn : FuncData} {pr : List Str} {pm : Sp} {W : WX} {nm mt : Str} {q1 q2 q3 : Pos} {o a0 : Expr} {as : List Expr} {to : TE} {ta : TA}
/-- C(..) whose __init__ may raise -/
def tMakeR (C : Addr) (sp : Sp) (W : WX) (t : TA) : TE := fun σ H Q => t σ H fun vs H1 => ∀ x dx, H1 x = none → H1 dx = none → dx ≠ x → sp (.ref x :: vs) (upd (upd H1 dx (.own x)) x (.ins C dx [])) (fun v H2 => v = .non ∧ Q (.ref x) H2) fun c d H2 => W c d σ H2
theorem pe_makeR (M : Mk X.K Ca fa) (G : FnOk X.prog X.w X.K X.mg X.base (L2.CX X.prog X.w) n fa fn pr pm) (hr : Room (n + 1) X.A) (hm : X.mg nm = some (.ref Ca)) (hb : Binds X.K fn pr []) (tk : Takes X W) (ha : PA X (a0 :: as) ta) (hg : Gl X nm := by rfl)
    (hdb : (nm == ("__debug__" : Str)) = false := by decide) (he : starEach (a0 :: as) X.env = (false, eval a0 X.env) :: starEach as X.env := by rfl) (hpl : (backTo q2 (starEach as X.env)).any (·.1) = false := by rfl) :
    PE X (.Call (.Name nm q1) (a0 :: as) [] q2) (tMakeR Ca pm W ta) := by
  refine ⟨fun P s σ H Q I h => wpAny_Call_Name_kw (ld_glob I hg hm ?_ hdb)⟩
  refine PySem.W.callWith_K (h₀ := X.base) I.ok.mod.kin M.kp (thn (ha.run q2 P s σ H _ I h) fun us t ⟨vs, H1, J, rv, q⟩ => ⟨J.kIn, ?_⟩) he hpl
  have fresh1 := J.hok.fresh (Nat.le_succ t.heap.objs.size)
  have fresh0 := J.hok.fresh (Nat.le_refl t.heap.objs.size)
  have asked := q _ _ fresh1 fresh0 (Nat.ne_of_lt (Nat.lt_succ_self _))
  have J2 := Inv.made (C := Ca) J
  have rel : Vals (V.ref (t.heap.objs.size + 1) :: vs) (Value.ref (t.heap.objs.size + 1) :: us) := .cons rfl rv
  have len : (Value.ref (t.heap.objs.size + 1) :: us ++ []).length = pr.length := by
    rw [List.append_nil, ← rel.length]
    exact G.len _ _ _ _ asked
  have bind := hb _ (Value.ref (t.heap.objs.size + 1) :: us) J2.kIn len
  rw [List.append_nil] at bind
  have ran := G.run _ X.stack _ _ ⟨Value.ref (t.heap.objs.size + 1) :: us, []⟩ _ _ _ (fun c d H2 => W c d σ H2) (hr.make Ca us []) (J2.env0.make Ca us []) bind rel asked
  refine wpAny_call (make_map (f := fa) J.kIn M.makes M.init (beq_iff_eq.mp M.fn) (codeAny_mono ran fun res z hz => ?_))
  cases res with
  | error er => exact passAt tk σ _ _ _ _ _ J2 hz
  | ok fl =>
    cases fl with
    | ret u =>
      have back := J2.after hz
      obtain ⟨v, H3, J3, r3, e3, q3⟩ := back
      subst e3
      exact ⟨r3, .ref (t.heap.objs.size + 1), H3, J3, rfl, q3⟩
    | next => exact hz.elim
    | brk => exact hz.elim
    | cont => exact hz.elim
/-- o.m(..) whose m may raise -/
def tMethR (C : Addr) (m : Str) (sp : Sp) (W : WX) (to : TE) (t : TA) : TE := fun σ H Q => to σ H fun x H1 => ∃ a dx fs, x = .ref a ∧ H1 a = some (.ins C dx fs) ∧ fs.lookup m = none ∧ t σ H1 fun vs H2 => sp (x :: vs) H2 Q fun c d H3 => W c d σ H3
theorem pe_methRs {pl : Sem Bool} (hmt : Meth X.K Ca mt fa) (cl : Cls X.K Ca) (ho : PE X o to) (G : FnOk X.prog X.w X.K X.mg X.base (L2.CX X.prog X.w) n fa fn pr pm) (hr : Room n X.A) (hb : Binds X.K fn pr []) (tk : Takes X W) (ha : PA X (a0 :: as) ta)
    (hst : starEach (a0 :: as) X.env = (false, eval a0 X.env) :: starEach as X.env := by rfl) (hpl : (backTo q2 (starEach as X.env)).any (·.1) = false := by rfl)
    (ht : eval (.Call (.Attribute o mt q3) (a0 :: as) [] q2) X.env = (do
      let r ← eval o X.env
      standAt q3.atName
      let (g, more) ← holding [r] (getMethod r mt pl)
      callWith q2 g more (backTo q2 (starEach (a0 :: as) X.env)) (backToKw q2 (keywordEach [] X.env))) := by rfl) : PE X (.Call (.Attribute o mt q3) (a0 :: as) [] q2) (tMethR Ca mt pm W to ta) := by
  refine ⟨fun P s σ H Q I h => PySem.W.methodCall_KW (pl := pl) (thn (ho.run P s σ H _ I h) fun u t ⟨x, H1, J, rx, a, dx, fs, ex, ea, nl, q⟩ => ?_) ht⟩
  subst ex
  obtain rfl : u = Value.ref a := rx
  refine getmeth_ok J ea cl hmt nl (PySem.W.callWith_K (first := [.ref a]) (h₀ := X.base) J.ok.mod.kin hmt.kp (thn (ha.run q2 P t σ H1 _ J q) fun us t2 ⟨vs, H2, J2, rv, z⟩ => ⟨J2.kIn, ?_⟩) hst hpl)
  exact run_fnS (us := .ref a :: us) (vs := .ref a :: vs) (E := WE W) G hr hb (passAt tk σ) J2 (.cons rfl rv) z
theorem pe_methR0 {pl : Sem Bool} (hmt : Meth X.K Ca mt fa) (cl : Cls X.K Ca) (ho : PE X o to) (G : FnOk X.prog X.w X.K X.mg X.base (L2.CX X.prog X.w) n fa fn pr pm) (hr : Room n X.A) (hb : Binds X.K fn pr []) (tk : Takes X W)
    (ht : eval (.Call (.Attribute o mt q3) [] [] q2) X.env = (do
      let r ← eval o X.env
      standAt q3.atName
      let (g, more) ← holding [r] (getMethod r mt pl)
      callWith q2 g more (backTo q2 (starEach [] X.env)) (backToKw q2 (keywordEach [] X.env))) := by rfl) : PE X (.Call (.Attribute o mt q3) [] [] q2) (tMethR Ca mt pm W to tNil) := by
  refine ⟨fun P s σ H Q I h => PySem.W.methodCall_KW (pl := pl) (thn (ho.run P s σ H _ I h) fun u t ⟨x, H1, J, rx, a, dx, fs, ex, ea, nl, q⟩ => ?_) ht⟩
  subst ex
  obtain rfl : u = Value.ref a := rx
  refine getmeth_ok J ea cl hmt nl ?_
  exact PySem.W.callWith_K0 (first := [.ref a]) J.kIn hmt.kp (run_fnS (us := [.ref a]) (vs := [.ref a]) (E := WE W) G hr hb (passAt tk σ) J (.cons rfl .nil) q)
end

/-! ### the place of a sign in a text -/
section
open PySem.Builtin.Str PySem.StrLaws
theorem first_sign (x : Str) (c : Nat) (h : c ∈ x.cps.toList) : ∃ rest, occurrences x ⟨#[c]⟩ 0 x.length 1 = x.cps.toList.idxOf c :: rest := by
  have key := occ_first x ⟨#[c]⟩ x.length 1 (Nat.le_refl 1) (List.range' 0 (x.length + 1 - 0)) 0 fun _ _ => Nat.zero_le _
  rw [occ_eq]
  have sub := fun k => subAt_one x c k
  rcases key with ⟨_, hn⟩ | ⟨pre, i, post, e, h0, hi, hn⟩
  · obtain ⟨j, hj⟩ := List.getElem?_of_mem h
    have hlt : j < x.length := (List.getElem?_eq_some_iff.mp hj).1
    exact absurd ((sub j).mpr hj) (hn j (List.mem_range'.mpr ⟨j, by omega, by omega⟩))
  · have hx := (sub i).mp hi
    have before : ∀ k, k < i → x.cps.toList[k]? ≠ some c := fun k hk q => hn k (range'_split e k hk) ((sub k).mpr q)
    obtain ⟨hl, hv⟩ := List.getElem?_eq_some_iff.mp hx
    have e2 : x.cps.toList.idxOf c = i := by
      have hlt : x.cps.toList.idxOf c < x.cps.toList.length := List.idxOf_lt_length_iff.mpr h
      have hget : x.cps.toList[x.cps.toList.idxOf c] = c := List.getElem_idxOf hlt
      rcases Nat.lt_trichotomy (x.cps.toList.idxOf c) i with z | z | z
      · exact absurd (List.getElem?_eq_some_iff.mpr ⟨hlt, hget⟩) (before _ z)
      · exact z
      · exact absurd hv (by
          have := List.not_of_lt_findIdx (p := (· == c)) (xs := x.cps.toList) z
          simpa using this)
    rw [e2]
    generalize hg : (forIn (List.range' 0 (x.length + 1 - 0)) ((#[] : Array Nat), 0) (occBody x ⟨#[c]⟩ x.length 1)).run.fst = arr at h0
    cases hl : arr.toList with
    | nil =>
      rw [← Array.getElem?_toList, hl] at h0
      cases h0
    | cons a r =>
      rw [← Array.getElem?_toList, hl] at h0
      exact ⟨r, by rw [Option.some.inj (show some a = some i from h0)]⟩
end
def mIdx : V → List V → Hp → VK → Prop := fun x xs H Q => ∃ (a : Str) (c : Nat), x = .str a ∧ xs = [.str ⟨#[c]⟩] ∧ c ∈ a.cps.toList ∧ Q (.int (a.cps.toList.idxOf c : Nat)) H
section
variable {X : Cx}
theorem mt_strIdx : MtR X "str.index" mIdx := by
  intro P s σ H x xs v us Q I rx rs h
  obtain ⟨a, c, ex, es, hc, q⟩ := h
  obtain ⟨rest, e⟩ := first_sign a c hc
  exact mt_sindex P s σ H x xs v us Q I rx rs ⟨a, _, _, rest, ex, es, e, q⟩
/-! ### the least and the greatest of a tuple of ints -/
theorem reads_ints {hp : Heap} : ∀ {ns : List Int} {us : List Value}, Vals (ns.map V.int) us → ReadsAll hp us (ns.map PyData.int) []
  | [], _, r => by cases r; exact .nil
  | n :: ns, _, r => by
    cases r with
    | cons r1 r2 =>
      obtain ⟨t, rfl⟩ := r1
      exact ReadsAll.cons (as := []) (bs := []) (.int n t) (reads_ints r2)
theorem alike_ints (ns : List Int) : PySem.W.AlikeAll (ns.map PyData.int) := ⟨fun x hx y hy => by
  obtain ⟨a, _, rfl⟩ := List.mem_map.mp hx
  obtain ⟨b, _, rfl⟩ := List.mem_map.mp hy
  rfl, fun x hx => by
  obtain ⟨a, _, rfl⟩ := List.mem_map.mp hx
  exact fun z => by cases z⟩
theorem depth_ints : ∀ ns : List Int, PyData.depthAll (ns.map PyData.int) = 0
  | [] => rfl
  | n :: ns => by
    show max 0 (PyData.depthAll (ns.map PyData.int)) = 0
    rw [depth_ints ns]
    rfl
/-- min(t), max(t): t a tuple of ints, not empty -/
def cMinT (K : PySem.W.Frag) : List V → Hp → VK → Prop := fun vs H Q => ∃ (a : Addr) (n : Int) (ns : List Int), vs = [.ref a] ∧ SqT K H a ((n :: ns).map V.int) ∧ Q (.int (ns.foldl min n)) H
def cMaxT (K : PySem.W.Frag) : List V → Hp → VK → Prop := fun vs H Q => ∃ (a : Addr) (n : Int) (ns : List Int), vs = [.ref a] ∧ SqT K H a ((n :: ns).map V.int) ∧ Q (.int (ns.foldl max n)) H
theorem call_minT (hc : X.calm = true) (hu : X.A.units + 64 < cLine) : CallR X (.builtin "min") (cMinT X.K) := by
  intro P s σ H vs us Q I r h
  obtain ⟨a, n, ns, rfl, ht, q⟩ := h
  obtain ⟨u, rfl, ru⟩ := vals1 r
  cases (show u = Value.ref a from ru)
  obtain ⟨its, rv, pl, _⟩ := I.tuple ht
  refine PySem.W.min_tuple_data (x := .int n) (xs := ns.map .int) (I.ok.hd hc) pl (reads_ints (ns := n :: ns) rv) (alike_ints (n :: ns)) (by
    have e := depth_ints (n :: ns)
    rw [List.map_cons] at e
    rw [e]
    omega) fun i v h' tk bs hv hr hk => ?_
  rw [PySem.W.minD_ints] at hr
  cases hr with
  | int _ t => exact ⟨.int _, H, I.kept hk, ⟨t, rfl⟩, q⟩
theorem call_maxT (hc : X.calm = true) (hu : X.A.units + 64 < cLine) : CallR X (.builtin "max") (cMaxT X.K) := by
  intro P s σ H vs us Q I r h
  obtain ⟨a, n, ns, rfl, ht, q⟩ := h
  obtain ⟨u, rfl, ru⟩ := vals1 r
  cases (show u = Value.ref a from ru)
  obtain ⟨its, rv, pl, _⟩ := I.tuple ht
  refine PySem.W.max_tuple_data (x := .int n) (xs := ns.map .int) (I.ok.hd hc) pl (reads_ints (ns := n :: ns) rv) (alike_ints (n :: ns)) (by
    have e := depth_ints (n :: ns)
    rw [List.map_cons] at e
    rw [e]
    omega) fun i v h' tk bs hv hr hk => ?_
  rw [PySem.W.maxD_ints] at hr
  cases hr with
  | int _ t => exact ⟨.int _, H, I.kept hk, ⟨t, rfl⟩, q⟩
end

section
variable {X : Cx} (K : PySem.W.Frag) (hK : X.K = K := by rfl)
include hK
theorem kMin (hu : X.A.units + 64 < cLine) (hc : X.calm = true := by rfl) : CallR X (.builtin "min") (cMinT K) := hK ▸ call_minT hc hu
theorem kMax (hu : X.A.units + 64 < cLine) (hc : X.calm = true := by rfl) : CallR X (.builtin "max") (cMaxT K) := hK ▸ call_maxT hc hu
theorem kFld {o : Expr} {f : Str} {p : Pos} {te : TE} (h : PE X (.Attribute o f p) (tFld X.K te f)) : PE X (.Attribute o f p) (tFld K te f) := hK ▸ h
theorem kBm {e : Expr} {T : String} {r : V → List V → Hp → VK → Prop} {to : TE} {t : TA} (h : PE X e (tBM X.K T r to t)) : PE X e (tBM K T r to t) := hK ▸ h
theorem kBm0 {e : Expr} {T : String} {r : V → List V → Hp → VK → Prop} {to : TE} (h : PE X e (tBM0 X.K T r to)) : PE X e (tBM0 K T r to) := hK ▸ h
def cTupOf (K : PySem.W.Frag) : List V → Hp → VK → Prop := fun xs H Q => ∃ p ys, xs = [.ref p] ∧ ((SqL K H p ys ∧ ∀ l, H l = none → Q (.ref l) (upd H l (.tup ys))) ∨ (SqT K H p ys ∧ Q (.ref p) H))
def cLstOf (K : PySem.W.Frag) : List V → Hp → VK → Prop := fun xs H Q => ∃ p ys, xs = [.ref p] ∧ (SqL K H p ys ∨ SqT K H p ys) ∧ ∀ l, H l = none → Q (.ref l) (upd H l (.lst ys))
def mJoin (K : PySem.W.Frag) : V → List V → Hp → VK → Prop := fun x xs H Q => ∃ a p, ∃ ys : List Str, x = .str a ∧ xs = [.ref p] ∧ (SqL K H p (ys.map V.str) ∨ SqT K H p (ys.map V.str)) ∧ (ys.map (·.length)).sum + ys.length * a.length ≤ 16777216 ∧ Q (.str (Txt.join a ys)) H
theorem kTupOf : CallR X (.type "tuple") (cTupOf K) := hK ▸ call_tuple_of
theorem kLstOf : CallR X (.type "list") (cLstOf K) := hK ▸ call_list_of
theorem kJoin : MtR X "str.join" (mJoin K) := hK ▸ mt_join
end
/-! ### a text, several times -/
def oMulP : R2 := fun x y H Q => oMul x y H Q ∨ ∃ (z : Str) (n : Int), x = .str z ∧ y = .int n ∧ MulOk z n ∧ Q (.str (Txt.mul z n)) H
theorem op_mulS {X : Cx} : OpR X (binaryOp .Mult) (fun x y H Q => ∃ (z : Str) (n : Int), x = .str z ∧ y = .int n ∧ MulOk z n ∧ Q (.str (Txt.mul z n)) H) := by
  intro P s σ H x y v u Q I rx ry h
  obtain ⟨z, n, rfl, rfl, ok, q⟩ := h
  obtain ⟨t, rfl⟩ := rx
  obtain ⟨t2, rfl⟩ := ry
  exact PySem.SB.mul ok fun t' k => ⟨.str _, H, I.tok _, ⟨t', rfl⟩, q⟩
theorem op_mulPP {X : Cx} : OpR X (binaryOp .Mult) oMulP := OpR.or op_mulP op_mulS
section
variable {K : PySem.W.Frag} {σ : L2.St} {H : Hp} {Q : VK} {D : Ends} {te tv : TE} {f : Str} {a C dx : Addr} {fs : List (Str × V)} {v : V} {t : TA} {sp : Sp} {W : WX}
theorem rd_fld (h : te σ H fun x H1 => ∃ a C dx fs v, x = .ref a ∧ H1 a = some (.ins C dx fs) ∧ Cls K C ∧ NoAttr K C f ∧ fs.lookup f = some v ∧ Q v H1) : tFld K te f σ H Q := h
theorem rd_fldv {P : Addr → Prop} : True := True.intro
theorem rd_mulN {x y : Int} (c : CMul x y) (h : Q (.int (x * y)) H) : oMulP (.int x) (.int y) H Q := .inl ⟨x, y, rfl, rfl, c, h⟩
theorem rd_mulT {z : Str} {n : Int} (c : MulOk z n) (h : Q (.str (Txt.mul z n)) H) : oMulP (.str z) (.int n) H Q := .inr ⟨z, n, rfl, rfl, c, h⟩
theorem rd_tupL {p : Addr} {ys : List V} (e : SqL K H p ys) (h : ∀ l, H l = none → Q (.ref l) (upd H l (.tup ys))) : cTupOf K [.ref p] H Q := ⟨p, ys, rfl, .inl ⟨e, h⟩⟩
theorem rd_tupT {p : Addr} {ys : List V} (e : SqT K H p ys) (h : Q (.ref p) H) : cTupOf K [.ref p] H Q := ⟨p, ys, rfl, .inr ⟨e, h⟩⟩
theorem rd_lstL {p : Addr} {ys : List V} (e : SqL K H p ys ∨ SqT K H p ys) (h : ∀ l, H l = none → Q (.ref l) (upd H l (.lst ys))) : cLstOf K [.ref p] H Q := ⟨p, ys, rfl, e, h⟩
theorem rd_idx {z : Str} {c : Nat} (hc : c ∈ z.cps.toList) (h : Q (.int (z.cps.toList.idxOf c : Nat)) H) : mIdx (.str z) [.str ⟨#[c]⟩] H Q := ⟨z, c, rfl, rfl, hc, h⟩
end

/-! ### comprehensions whose parts change the heap: P of the new list's place, the turn, what is in it, the heap -/
theorem lc_gen {J : It} {n j : Nat} {G : Hp → Prop} {Y : Nat → Hp → V → Hp → Prop} {xs : Nat → V} {σ : L2.St} {H : Hp} {Q : VK} {te : TE} (P : Addr → Nat → List V → Hp → Prop) (w : Walk J n G Y) (hY : ∀ i H x H', i < n → Y i H x H' → H' = H ∧ x = xs i) (hn : n < 100000)
    (h0 : ∀ L, H L = none → P L 0 [] (upd H L (.lst []))) (hG : ∀ L i vs Hc, H L = none → P L i vs Hc → G Hc)
    (he : ∀ L i vs Hc, i < n → H L = none → Hc L = some (.lst vs) → vs.length = i → P L i vs Hc → ∀ N : VK, (∀ v H2, H2 L = some (.lst vs) → P L (i + 1) (vs ++ [v]) (upd H2 L (.lst (vs ++ [v]))) → N v H2) → te ((wipe σ [j]).set j (some (xs i))) Hc N)
    (h : ∀ L vs Hc, H L = none → Hc L = some (.lst vs) → vs.length = n → P L n vs Hc → Q (.ref L) Hc) : lcB (gName j) tYes te [j] σ Q J H := by
  intro L hL
  refine lc_it w (fun i Hc => ∃ vs, Hc L = some (.lst vs) ∧ vs.length = i ∧ P L i vs Hc) ⟨[], upd_same, rfl, h0 L hL⟩ (fun i Hc _ p => ?_) (fun i x Hc H' hi p y => ?_) fun Hc p => ?_
  · obtain ⟨vs, _, _, p⟩ := p
    exact hG L i vs Hc hL p
  · obtain ⟨vs, h1, h2, p⟩ := p
    obtain ⟨rfl, rfl⟩ := hY _ _ _ _ hi y
    refine ⟨by simp [wipe], rd_yes ?_⟩
    refine rd_iteT ?_
    refine he L i vs _ hi hL h1 h2 p _ fun v H2 z1 z2 => ?_
    exact ⟨vs, z1, Nat.lt_of_lt_of_le (by rw [h2]; omega : vs.length < 100000) (by decide), vs ++ [v], upd_same, by rw [List.length_append, h2]; rfl, z2⟩
  · obtain ⟨vs, h1, h2, p⟩ := p
    exact h L vs Hc hL h1 h2 p
/-- the heap but for one place -/
def hide (L : Addr) (H : Hp) : Hp := fun b => if b = L then none else H b
theorem hide_ne {L b : Addr} {H : Hp} (h : b ≠ L) : hide L H b = H b := if_neg h
theorem hide_ex {L : Addr} {H : Hp} : Ex (hide L H) H := fun b o e => by
  by_cases h : b = L
  · rw [h] at e
    have z : hide L H L = none := if_pos rfl
    rw [z] at e
    cases e
  · rw [hide_ne h] at e
    exact e
theorem hide_mono {L : Addr} {H H' : Hp} (k : ∀ b o, b ≠ L → H b = some o → H' b = some o) : Ex (hide L H) (hide L H') := fun b o e => by
  by_cases h : b = L
  · rw [h] at e
    have z : hide L H L = none := if_pos rfl
    rw [z] at e
    cases e
  · rw [hide_ne h] at e ⊢
    exact k b o h e
theorem ex_hide {L : Addr} {H H' : Hp} (hL : H L = none) (e : Ex H H') : Ex H (hide L H') := fun b o q => by
  rw [hide_ne (ne_of_none q hL)]
  exact e b o q
/-- each value is new or stood before: R of the turn, the value and the heap without the new list -/
theorem lc_new {J : It} {n j : Nat} {G : Hp → Prop} {Y : Nat → Hp → V → Hp → Prop} {xs : Nat → V} {σ : L2.St} {H : Hp} {Q : VK} {te : TE} (R : Nat → V → Hp → Prop) (w : Walk J n G Y) (hY : ∀ i H x H', i < n → Y i H x H' → H' = H ∧ x = xs i) (hn : n < 100000)
    (hG : ∀ Hc, Ex H Hc → G Hc) (mR : ∀ i v H1 H2, Ex H1 H2 → R i v H1 → R i v H2)
    (he : ∀ L i Hc, i < n → H L = none → (∃ vs, Hc L = some (.lst vs)) → Ex H Hc → ∀ N : VK, (∀ v H2, Ex Hc H2 → R i v (hide L H2) → N v H2) → te ((wipe σ [j]).set j (some (xs i))) Hc N)
    (h : ∀ L vs Hc, H L = none → Ex H Hc → Hc L = some (.lst vs) → vs.length = n → (∀ i v, vs[i]? = some v → R i v (hide L Hc)) → Q (.ref L) Hc) : lcB (gName j) tYes te [j] σ Q J H := by
  refine lc_gen (fun L i vs Hc => Ex H Hc ∧ ∀ i v, vs[i]? = some v → R i v (hide L Hc)) w hY hn (fun L hL => ⟨Evl.Ex.new hL, fun i v z => by cases z⟩) (fun L i vs Hc _ p => hG Hc p.1) (fun L i vs Hc hi hL h1 h2 p N hN => ?_) (fun L vs Hc hL h1 h2 p => h L vs Hc hL p.1 h1 h2 p.2)
  refine he L i Hc hi hL ⟨vs, h1⟩ p.1 N fun v H2 e2 r2 => hN v H2 (e2 L _ h1) ?_
  have kp : Ex (hide L H2) (hide L (upd H2 L (.lst (vs ++ [v])))) := hide_mono fun b o hb q => by rw [upd_ne hb]; exact q
  have kp0 : Ex (hide L Hc) (hide L H2) := hide_mono fun b o _ q => e2 b o q
  refine ⟨Evl.Ex.mut (p.1.trans e2) hL, fun i' v' hv => ?_⟩
  by_cases hlt : i' < vs.length
  · rw [List.getElem?_append_left hlt] at hv
    exact mR _ _ _ _ (kp0.trans kp) (p.2 i' v' hv)
  · rw [List.getElem?_append_right (by omega)] at hv
    have e0 : i' - vs.length = 0 := by
      rcases Nat.eq_zero_or_pos (i' - vs.length) with z | z
      · exact z
      · rw [List.getElem?_eq_none (by simp; omega)] at hv
        cases hv
    rw [e0] at hv
    obtain rfl : v = v' := Option.some.inj hv
    have e3 : i' = i := by omega
    rw [e3]
    exact mR _ _ _ _ kp r2

theorem rd_sfld {K : PySem.W.Frag} {ta tv : TE} {f : Str} {D : Ends} {σ : L2.St} {H : Hp} (h : tv σ H fun y H1 => ta σ H1 fun x H2 => ∃ a C dx fs, x = .ref a ∧ H2 a = some (.ins C dx fs) ∧ Cls K C ∧ NoAttr K C f ∧ fs.length < 1000 ∧ D.nx σ (upd H2 a (.ins C dx (putF f y fs)))) : sFld K ta tv f D σ H := h
theorem kSf {X : Cx} (K : PySem.W.Frag) (hK : X.K = K := by rfl) {st : Stmt} {ta tv : TE} {f : Str} (h : PS X st (sFld X.K ta tv f)) : PS X st (sFld K ta tv f) := hK ▸ h

section
variable {K : PySem.W.Frag} {σ : L2.St} {H : Hp} {Q : VK} {te to : TE} {t : TA} {C : Addr} {m f : Str} {sp : Sp} {W : WX} {dvs : List V} {E : XK}
theorem rd_makeR (h : t σ H fun vs H1 => ∀ x dx, H1 x = none → H1 dx = none → dx ≠ x → sp (.ref x :: vs) (upd (upd H1 dx (.own x)) x (.ins C dx [])) (fun v H2 => v = .non ∧ Q (.ref x) H2) fun c d H2 => W c d σ H2) : tMakeR C sp W t σ H Q := h
theorem rd_methR (h : to σ H fun x H1 => ∃ a dx fs, x = .ref a ∧ H1 a = some (.ins C dx fs) ∧ fs.lookup m = none ∧ t σ H1 fun vs H2 => sp (x :: vs) H2 Q fun c d H3 => W c d σ H3) : tMethR C m sp W to t σ H Q := h
theorem rd_meth (h : to σ H fun x H1 => ∃ a dx fs, x = .ref a ∧ H1 a = some (.ins C dx fs) ∧ fs.lookup m = none ∧ t σ H1 fun vs H2 => sp (x :: (vs ++ dvs)) H2 Q E) : tMeth C m sp dvs E to t σ H Q := h
theorem rd_notV (h : te σ H fun x H1 => ∃ c, x = .bl c ∧ Q (.bl (!c)) H1) : tNotV te σ H Q := h
theorem rd_xf {a : Addr} {cls : Value} {d : Option Addr} {C : Addr} {f : Str} (h : te σ H fun x H1 => x = .ref a ∧ cls = .ref C ∧ ∃ (dd : Addr) (fs : List (Str × V)) (v : V), d = some dd ∧ H1 dd = some (.xd fs) ∧ fs.lookup f = some v ∧ Q v H1) : tXf a cls d C f te σ H Q := h
end
/-! ### more on comprehensions, numbers, texts -/
theorem look_map {f : NameKind → Bool} : ∀ (l : List (Str × NameKind)) (y : Str), (l.lookup y = some .cell ∨ l.lookup y = some .free) → ∀ g : Str × NameKind → Str × NameKind, (∀ n k, g (n, k) = (n, k) ∨ (k = .free ∧ g (n, k) = (n, .cell))) → ((l.map g).lookup y = some .cell ∨ (l.map g).lookup y = some .free)
  | [], _, h, _, _ => by rcases h with h | h <;> cases h
  | (n, k) :: l, y, h, g, hg => by
    rw [List.map_cons]
    rw [List.lookup_cons] at h
    cases e : y == n with
    | true =>
      rw [e] at h
      rcases hg n k with z | ⟨z1, z2⟩
      · rw [z, List.lookup_cons, e]; exact h
      · rw [z2, List.lookup_cons, e]; exact .inl rfl
    | false =>
      rw [e] at h
      have ih := look_map (f := f) l y h g hg
      rcases hg n k with z | ⟨z1, z2⟩
      · rw [z, List.lookup_cons, e]; exact ih
      · rw [z2, List.lookup_cons, e]; exact ih
theorem blkOk_in {X : Cx} {N : List Str} (hN : X.N = N) {s : Shared} {H : Hp} {sc0 scope : Scope} {C : Addr} {cl : List (Str × Addr)} {fp : List Addr} {own : List (Str × Nat)} (h : blkC N sc0 scope own = true) :
    BlkOk (X.blk s H sc0 (compEnvC sc0 cl C X.env) fp).N (X.blk s H sc0 (compEnvC sc0 cl C X.env) fp).env.scope scope own := by
  subst hN
  have b := blkOk_by h
  refine ⟨b.kind, b.uniq, b.ix, fun y hy hf => ?_, b.own⟩
  refine look_map (f := fun _ => true) _ _ (b.free y hy hf) _ fun n k => ?_
  by_cases c : (k == NameKind.free && X.env.scope.kind == ScopeKind.function && X.env.kindOf n == some NameKind.cell) = true
  · right
    refine ⟨?_, if_pos c⟩
    have c1 : (k == NameKind.free) = true := by
      rw [Bool.and_eq_true, Bool.and_eq_true] at c
      exact c.1.1
    cases k <;> first | rfl | cases c1
  · left
    exact if_neg c
theorem given_range (v : Nat → V) : ∀ n, Evl.given n (fun _ => true) v = (List.range n).map v
  | 0 => rfl
  | n + 1 => by rw [Evl.given_yes rfl, given_range v n, List.range_succ, List.map_append]; rfl
/-- a comprehension whose parts leave the heap, without a test -/
theorem lc_map {J : It} {n j : Nat} {G : Hp → Prop} {Y : Nat → Hp → V → Hp → Prop} {xs v : Nat → V} {σ : L2.St} {H : Hp} {Q : VK} {te : TE} (w : Walk J n G Y) (hY : ∀ i H x H', i < n → Y i H x H' → H' = H ∧ x = xs i) (hG : ∀ Hc, Ex H Hc → G Hc) (hn : n < 100000)
    (he : ∀ i Hc, i < n → Ex H Hc → Val te ((wipe σ [j]).set j (some (xs i))) Hc (v i))
    (h : ∀ L, H L = none → Q (.ref L) (upd H L (.lst ((List.range n).map v)))) : lcB (gName j) tYes te [j] σ Q J H := by
  refine lc_pure (f := fun _ => true) w hY hG hn (fun _ _ _ _ => ans_yes) (fun i Hc hi e _ => he i Hc hi e) fun L hL => ?_
  rw [given_range]
  exact h L hL
theorem walk_range0 {n : Nat} : Walk (Itr 0 n) n (fun _ => True) fun i H x H' => H' = H ∧ x = V.int (i : Nat) := by
  obtain ⟨a, b, c⟩ := walk_range (lo := 0) (n := n)
  refine ⟨a, b, fun i H x H' hi g y => ?_⟩
  have := c i H x H' hi g y
  refine ⟨this.1, ?_⟩
  rw [this.2]
  show V.int (0 + (i : Int)) = _
  rw [Int.zero_add]
theorem fmod_nat (a m : Nat) : Int.fmod (a : Int) (m : Int) = ((a % m : Nat) : Int) := by
  rw [Int.fmod_eq_emod_of_nonneg _ (Int.natCast_nonneg m)]
  rfl
theorem fold_app (c : Nat) : ∀ (k : Nat) (a : Array Nat), (List.foldl (fun x y => x ++ y) a (List.replicate k #[c])).toList = a.toList ++ List.replicate k c
  | 0, a => by simp
  | k + 1, a => by
    rw [List.replicate_succ, List.foldl_cons, fold_app c k, List.replicate_succ]
    simp
theorem mul_sign (c : Nat) (n : Int) (h : 0 < n) : (Txt.mul ⟨#[c]⟩ n).cps.toList = List.replicate n.toNat c := by
  unfold Txt.mul
  rw [if_neg (by omega)]
  by_cases e : n = 1
  · subst e; rfl
  · have hb : (n == 1 || (⟨#[c]⟩ : Str).length == 0) = false := by
      have : (⟨#[c]⟩ : Str).length = 1 := rfl
      simp [e, this]
    rw [if_neg (by rw [hb]; decide)]
    show (List.foldl (fun x y => x ++ y) #[] (List.replicate n.toNat #[c])).toList = _
    rw [fold_app]
    rfl
theorem ixN_nat {n j : Nat} (h : j < n) : ixN n (j : Int) = some j := by
  unfold ixN
  rw [if_pos (Int.natCast_nonneg j), if_pos (by omega), Int.toNat_natCast]
theorem seqIndex_nat {n j : Nat} (h : j < n) : seqIndex? (j : Int) n = some j := by
  unfold seqIndex?
  have h0 : ¬ (j : Int) < 0 := by omega
  simp only [h0, if_false]
  rw [if_pos (by simp; omega), Int.toNat_natCast]
theorem erase_map {α β : Type} (f : α → β) : ∀ (l : List α) (j : Nat), (l.map f).eraseIdx j = (l.eraseIdx j).map f
  | [], _ => rfl
  | _ :: _, 0 => rfl
  | a :: l, j + 1 => by
    show f a :: (l.map f).eraseIdx j = f a :: (l.eraseIdx j).map f
    rw [erase_map f l j]
theorem mulOk_sign (c : Nat) {n : Int} (h0 : 0 < n) (h1 : n < 100000) : MulOk ⟨#[c]⟩ n := by
  have e : (⟨#[c]⟩ : Str).length = 1 := rfl
  refine ⟨by simp; omega, fun _ _ => ?_, fun _ _ => ?_⟩
  · rw [e]
    intro hh
    have : ((2:Int) ^ 63 - 1) / n ≥ 1 := by
      refine Int.le_ediv_of_mul_le h0 ?_
      omega
    omega
  · rw [e]
    unfold Builtin.Str.tooLong
    have : sizeLine ≥ 100000 := by decide
    exact decide_eq_false (by omega)
theorem first_at {l : List Nat} {c : Nat} {r : List Nat} (h : l = c :: r) : l.idxOf c = 0 := by
  rw [h]
  exact List.idxOf_cons_self
theorem atI_last {α : Type} {l : List α} (h : 0 < l.length) : atI l (-1) = some (l[l.length - 1]'(by omega)) := by
  have e : ixN l.length (-1) = some (l.length - 1) := by
    unfold ixN
    rw [if_neg (by decide), if_pos (by omega)]
    congr 1
    omega
  show (ixN l.length (-1)).bind (fun j => l[j]?) = _
  rw [e]
  exact List.getElem?_eq_getElem _
end AT

set_option Elab.async false
set_option linter.all false
set_option maxRecDepth 100000
set_option maxHeartbeats 4000000
local macro_rules | `(tactic| walk_at "rd1") => `(tactic| with_reducible first
  | refine AT.rd_seq ?_ | refine AT.rd_is ?_ | refine AT.rd_isnot ?_ | refine AT.rd_asg ?_ | refine AT.rd_name ?_ | refine AT.rd_var (by with_unfolding_all rfl) ?_ | refine AT.rd_c ?_ | refine AT.rd_op ?_ | refine AT.rd_ret ?_ | refine AT.rd_retN ?_ | refine AT.rd_if ?_ | refine AT.rd_ife ?_ | refine AT.rd_next ?_ | refine AT.rd_drop ?_
  | refine AT.rd_test ?_ | refine AT.rd_tB ?_ | refine AT.rd_bl ?_ | refine AT.rd_not ?_ | refine AT.rd_and ?_ | refine AT.rd_or ?_ | refine AT.rd_nil ?_ | refine AT.rd_cons ?_ | refine AT.rd_lst ?_ | refine AT.rd_tup ?_ | refine AT.rd_cb ?_ | refine AT.rd_chain ?_
  | refine AT.rd_called ?_ | refine AT.rd_calledR ?_ | refine AT.rd_raised ?_ | refine AT.rd_iteT ?_ | refine AT.rd_iteF ?_ | refine AT.rd_iteNF ?_ | refine AT.rd_iteNT ?_ | refine AT.rd_addI ?_ | refine AT.rd_subI ?_ | refine AT.rd_lt ?_ | refine AT.rd_le ?_ | refine AT.rd_gt ?_ | refine AT.rd_ge ?_ | refine AT.rd_eqI ?_ | refine AT.rd_neI ?_ | refine AT.rd_eqS ?_ | refine AT.rd_neS ?_
  | refine AT.rd_int ?_ | refine AT.rd_abs ?_ | refine AT.rd_inS ?_ | refine AT.rd_niS ?_ | refine AT.rd_rng1 ?_ | refine AT.rd_rng2 ?_ | refine AT.rd_bm ?_ | refine AT.rd_fld ?_ | refine AT.rd_sfld ?_ | refine AT.rd_makeR ?_ | refine AT.rd_methR ?_ | refine AT.rd_meth ?_ | refine AT.rd_notV ?_ | refine AT.rd_xf ?_ | refine AT.rd_andV ?_ | refine AT.rd_orV ?_ | refine AT.rd_sl ?_ | refine AT.rd_noPart ?_ | refine AT.rd_part ?_ | refine AT.rd_intv ?_ | refine AT.rd_raised1 ?_ | refine AT.rd_gsub ?_ | refine AT.rd_for ?_ | refine AT.rd_lc ?_ | refine AT.rd_lenL (by assumption) ?_ | refine AT.rd_lenT (by assumption) ?_)
local macro_rules | `(tactic| walk_at "rd") => `(tactic| (repeat walk_at "rd1"))
local macro_rules | `(tactic| walk_at "rc1") => `(tactic| with_reducible first
  | refine AT.rd_seqA ?_ | refine AT.rd_is ?_ | refine AT.rd_isnot ?_ | refine AT.rd_seqD ?_ | refine AT.rd_asg ?_ | refine AT.rd_name ?_ | refine AT.rd_var (by with_unfolding_all rfl) ?_ | refine AT.rd_c ?_ | refine AT.rd_op ?_ | refine AT.rd_ret ?_ | refine AT.rd_retN ?_ | refine AT.rd_if ?_ | refine AT.rd_next ?_ | refine AT.rd_drop ?_
  | refine AT.rd_test ?_ | refine AT.rd_tB ?_ | refine AT.rd_bl ?_ | refine AT.rd_not ?_ | refine AT.rd_and ?_ | refine AT.rd_or ?_ | refine AT.rd_nil ?_ | refine AT.rd_cons ?_ | refine AT.rd_lst ?_ | refine AT.rd_tup ?_ | refine AT.rd_cb ?_ | refine AT.rd_chain ?_
  | refine AT.rd_called ?_ | refine AT.rd_calledR ?_ | refine AT.rd_raised ?_ | refine AT.rd_iteT ?_ | refine AT.rd_iteF ?_ | refine AT.rd_iteNF ?_ | refine AT.rd_iteNT ?_ | refine AT.rd_addI ?_ | refine AT.rd_subI ?_ | refine AT.rd_lt ?_ | refine AT.rd_le ?_ | refine AT.rd_gt ?_ | refine AT.rd_ge ?_ | refine AT.rd_eqI ?_ | refine AT.rd_neI ?_ | refine AT.rd_eqS ?_ | refine AT.rd_neS ?_
  | refine AT.rd_int ?_ | refine AT.rd_abs ?_ | refine AT.rd_inS ?_ | refine AT.rd_niS ?_ | refine AT.rd_rng1 ?_ | refine AT.rd_rng2 ?_ | refine AT.rd_bm ?_ | refine AT.rd_fld ?_ | refine AT.rd_sfld ?_ | refine AT.rd_makeR ?_ | refine AT.rd_methR ?_ | refine AT.rd_meth ?_ | refine AT.rd_notV ?_ | refine AT.rd_xf ?_ | refine AT.rd_sl ?_ | refine AT.rd_noPart ?_ | refine AT.rd_part ?_ | refine AT.rd_intv ?_ | refine AT.rd_raised1 ?_ | refine AT.rd_gsub ?_ | refine AT.rd_for ?_ | refine AT.rd_lc ?_ | refine AT.rd_lenL (by assumption) ?_ | refine AT.rd_lenT (by assumption) ?_)
local macro_rules | `(tactic| walk_at "rc") => `(tactic| ((repeat walk_at "rc1"); (try with_reducible refine AT.rd_idS ?_)))
local macro_rules | `(tactic| walk_at "rs") => `(tactic| with_reducible refine AT.rd_seq ?_)

namespace AT
open PySem L2
def top (i : Nat) : Stmt := PySem.Challenge.pw_anytext_k01_alphabets.main.body.getD i (.Pass ⟨0, 0, 0, 0⟩)
abbrev s_check_alphabet : Stmt := top 14
theorem sc_check_alphabet : FnScope ["letters", "letter"] ["letters"] (defScope s_check_alphabet) := ⟨rfl, rfl, rfl, by decide +kernel, rfl, by decide +kernel, by decide +kernel⟩
abbrev s_is_text : Stmt := top 15
theorem sc_is_text : FnScope ["letters", "text", "letter"] ["letters", "text"] (defScope s_is_text) := ⟨rfl, rfl, rfl, by decide +kernel, rfl, by decide +kernel, by decide +kernel⟩
abbrev s_check_text : Stmt := top 16
theorem sc_check_text : FnScope ["letters", "text"] ["letters", "text"] (defScope s_check_text) := ⟨rfl, rfl, rfl, by decide +kernel, rfl, by decide +kernel, by decide +kernel⟩
abbrev s_cell : Stmt := top 18
theorem sc_cell : FnScope ["script", "k"] ["script", "k"] (defScope s_cell) := ⟨rfl, rfl, rfl, by decide +kernel, rfl, by decide +kernel, by decide +kernel⟩
abbrev s_numbers : Stmt := top 19
theorem sc_numbers : FnScope ["cell", "many", "rest", "whole", "numbers", "k", "mixed"] ["cell", "many"] (defScope s_numbers) := ⟨rfl, rfl, rfl, by decide +kernel, rfl, by decide +kernel, by decide +kernel⟩
abbrev s_state : Stmt := top 20
theorem sc_state : FnScope ["script", "start", "many", "numbers", "k", "cell"] ["script", "start", "many"] (defScope s_state) := ⟨rfl, rfl, rfl, by decide +kernel, rfl, by decide +kernel, by decide +kernel⟩
abbrev s_next : Stmt := top 21
theorem sc_next : FnScope ["state", "many", "numbers", "place"] ["state", "many"] (defScope s_next) := ⟨rfl, rfl, rfl, by decide +kernel, rfl, by decide +kernel, by decide +kernel⟩
abbrev s_string : Stmt := top 22
theorem sc_string : FnScope ["state", "pool", "most", "text", "k"] ["state", "pool", "most"] (defScope s_string) := ⟨rfl, rfl, rfl, by decide +kernel, rfl, by decide +kernel, by decide +kernel⟩
abbrev s_checked : Stmt := top 23
theorem sc_checked : FnScope ["letters", "e"] ["letters"] (defScope s_checked) := ⟨rfl, rfl, rfl, by decide +kernel, rfl, by decide +kernel, by decide +kernel⟩
abbrev s_text_checked : Stmt := top 24
theorem sc_text_checked : FnScope ["letters", "text", "e"] ["letters", "text"] (defScope s_text_checked) := ⟨rfl, rfl, rfl, by decide +kernel, rfl, by decide +kernel, by decide +kernel⟩
abbrev s_law : Stmt := top 25
theorem sc_law : FnScope ["script", "pool", "state", "k", "letters", "good", "at", "due", "turn", "text", "fits", "letter", "long"] ["script"] (defScope s_law) := ⟨rfl, rfl, rfl, by decide +kernel, rfl, by decide +kernel, by decide +kernel⟩
abbrev s_init : Stmt := inClass (top 1) 0
theorem sc_init : FnScope ["self", "what"] ["self", "what"] (defScope s_init) := ⟨rfl, rfl, rfl, by decide +kernel, rfl, by decide +kernel, by decide +kernel⟩
structure Txt (K : PySem.W.Frag) (mg : Str → Option Value) where
  a_check_alphabet : Addr
  d_check_alphabet : FuncData
  f_check_alphabet : Fun K "check_alphabet" "check_alphabet" s_check_alphabet a_check_alphabet d_check_alphabet
  o_check_alphabet : Own K mg "check_alphabet" a_check_alphabet d_check_alphabet ["letters"]
  a_is_text : Addr
  d_is_text : FuncData
  f_is_text : Fun K "is_text" "is_text" s_is_text a_is_text d_is_text
  o_is_text : Own K mg "is_text" a_is_text d_is_text ["letters", "text"]
  a_check_text : Addr
  d_check_text : FuncData
  f_check_text : Fun K "check_text" "check_text" s_check_text a_check_text d_check_text
  o_check_text : Own K mg "check_text" a_check_text d_check_text ["letters", "text"]
  a_cell : Addr
  d_cell : FuncData
  f_cell : Fun K "_law_cell" "_law_cell" s_cell a_cell d_cell
  o_cell : Own K mg "_law_cell" a_cell d_cell ["script", "k"]
  a_numbers : Addr
  d_numbers : FuncData
  f_numbers : Fun K "_law_numbers" "_law_numbers" s_numbers a_numbers d_numbers
  o_numbers : Own K mg "_law_numbers" a_numbers d_numbers ["cell", "many"]
  a_state : Addr
  d_state : FuncData
  f_state : Fun K "_law_state" "_law_state" s_state a_state d_state
  o_state : Own K mg "_law_state" a_state d_state ["script", "start", "many"]
  a_next : Addr
  d_next : FuncData
  f_next : Fun K "_law_next" "_law_next" s_next a_next d_next
  o_next : Own K mg "_law_next" a_next d_next ["state", "many"]
  a_string : Addr
  d_string : FuncData
  f_string : Fun K "_law_string" "_law_string" s_string a_string d_string
  o_string : Own K mg "_law_string" a_string d_string ["state", "pool", "most"]
  a_checked : Addr
  d_checked : FuncData
  f_checked : Fun K "_law_checked" "_law_checked" s_checked a_checked d_checked
  o_checked : Own K mg "_law_checked" a_checked d_checked ["letters"]
  a_text_checked : Addr
  d_text_checked : FuncData
  f_text_checked : Fun K "_law_text_checked" "_law_text_checked" s_text_checked a_text_checked d_text_checked
  o_text_checked : Own K mg "_law_text_checked" a_text_checked d_text_checked ["letters", "text"]
  a_law : Addr
  d_law : FuncData
  f_law : Fun K "law" "law" s_law a_law d_law
  o_law : Own K mg "law" a_law d_law ["script"]
  a_init : Addr
  d_init : FuncData
  T_init : Addr
  f_init : FunD K "__init__" "AnytextError.__init__" (defArgs s_init) (defBody s_init) (defScope s_init) [.non] [] a_init d_init
  tI : PySem.W.typeIn K (.ref a_init) = some (.type "function")
  bI : Binds K d_init ["self", "what"] []
  C_AnytextError : Addr
  C_LetterError : Addr
  C_PatternError : Addr
  C_SizeError : Addr
  C_MachineError : Addr
  C_ProgramError : Addr
  C_WorkshopError : Addr
  C_RecordError : Addr
  C_BadAlphabet : Addr
  C_BadText : Addr
  g_AnytextError : mg "AnytextError" = some (.ref C_AnytextError)
  g_BadAlphabet : mg "BadAlphabet" = some (.ref C_BadAlphabet)
  g_BadText : mg "BadText" = some (.ref C_BadText)
  g_LetterError : mg "LetterError" = some (.ref C_LetterError)
  g_MachineError : mg "MachineError" = some (.ref C_MachineError)
  g_PatternError : mg "PatternError" = some (.ref C_PatternError)
  g_ProgramError : mg "ProgramError" = some (.ref C_ProgramError)
  g_RecordError : mg "RecordError" = some (.ref C_RecordError)
  g_SizeError : mg "SizeError" = some (.ref C_SizeError)
  g_WorkshopError : mg "WorkshopError" = some (.ref C_WorkshopError)
  i_AnytextError : PySem.W.isClsIn K C_AnytextError = true
  t_AnytextError : PySem.W.typeIn K (.ref C_AnytextError) = some (.type "type")
  e_AnytextError : PySem.W.subIn K (.ref C_AnytextError) (.type "BaseException") = some true
  h_AnytextError : PySem.W.hasDictIn K C_AnytextError = true
  i_BadAlphabet : PySem.W.isClsIn K C_BadAlphabet = true
  t_BadAlphabet : PySem.W.typeIn K (.ref C_BadAlphabet) = some (.type "type")
  e_BadAlphabet : PySem.W.subIn K (.ref C_BadAlphabet) (.type "BaseException") = some true
  h_BadAlphabet : PySem.W.hasDictIn K C_BadAlphabet = true
  i_BadText : PySem.W.isClsIn K C_BadText = true
  t_BadText : PySem.W.typeIn K (.ref C_BadText) = some (.type "type")
  e_BadText : PySem.W.subIn K (.ref C_BadText) (.type "BaseException") = some true
  h_BadText : PySem.W.hasDictIn K C_BadText = true
  i_LetterError : PySem.W.isClsIn K C_LetterError = true
  t_LetterError : PySem.W.typeIn K (.ref C_LetterError) = some (.type "type")
  e_LetterError : PySem.W.subIn K (.ref C_LetterError) (.type "BaseException") = some true
  h_LetterError : PySem.W.hasDictIn K C_LetterError = true
  i_MachineError : PySem.W.isClsIn K C_MachineError = true
  t_MachineError : PySem.W.typeIn K (.ref C_MachineError) = some (.type "type")
  e_MachineError : PySem.W.subIn K (.ref C_MachineError) (.type "BaseException") = some true
  h_MachineError : PySem.W.hasDictIn K C_MachineError = true
  i_PatternError : PySem.W.isClsIn K C_PatternError = true
  t_PatternError : PySem.W.typeIn K (.ref C_PatternError) = some (.type "type")
  e_PatternError : PySem.W.subIn K (.ref C_PatternError) (.type "BaseException") = some true
  h_PatternError : PySem.W.hasDictIn K C_PatternError = true
  i_ProgramError : PySem.W.isClsIn K C_ProgramError = true
  t_ProgramError : PySem.W.typeIn K (.ref C_ProgramError) = some (.type "type")
  e_ProgramError : PySem.W.subIn K (.ref C_ProgramError) (.type "BaseException") = some true
  h_ProgramError : PySem.W.hasDictIn K C_ProgramError = true
  i_RecordError : PySem.W.isClsIn K C_RecordError = true
  t_RecordError : PySem.W.typeIn K (.ref C_RecordError) = some (.type "type")
  e_RecordError : PySem.W.subIn K (.ref C_RecordError) (.type "BaseException") = some true
  h_RecordError : PySem.W.hasDictIn K C_RecordError = true
  i_SizeError : PySem.W.isClsIn K C_SizeError = true
  t_SizeError : PySem.W.typeIn K (.ref C_SizeError) = some (.type "type")
  e_SizeError : PySem.W.subIn K (.ref C_SizeError) (.type "BaseException") = some true
  h_SizeError : PySem.W.hasDictIn K C_SizeError = true
  i_WorkshopError : PySem.W.isClsIn K C_WorkshopError = true
  t_WorkshopError : PySem.W.typeIn K (.ref C_WorkshopError) = some (.type "type")
  e_WorkshopError : PySem.W.subIn K (.ref C_WorkshopError) (.type "BaseException") = some true
  h_WorkshopError : PySem.W.hasDictIn K C_WorkshopError = true
  x_BadAlphabet : ErrX K C_BadAlphabet a_init
  s_BadAlphabet_AnytextError : PySem.W.subIn K (.ref C_BadAlphabet) (.ref C_AnytextError) = some true
  s_BadAlphabet_BadAlphabet : PySem.W.subIn K (.ref C_BadAlphabet) (.ref C_BadAlphabet) = some true
  s_BadAlphabet_BadText : PySem.W.subIn K (.ref C_BadAlphabet) (.ref C_BadText) = some false
  s_BadAlphabet_LetterError : PySem.W.subIn K (.ref C_BadAlphabet) (.ref C_LetterError) = some true
  s_BadAlphabet_MachineError : PySem.W.subIn K (.ref C_BadAlphabet) (.ref C_MachineError) = some false
  s_BadAlphabet_PatternError : PySem.W.subIn K (.ref C_BadAlphabet) (.ref C_PatternError) = some false
  s_BadAlphabet_ProgramError : PySem.W.subIn K (.ref C_BadAlphabet) (.ref C_ProgramError) = some false
  s_BadAlphabet_RecordError : PySem.W.subIn K (.ref C_BadAlphabet) (.ref C_RecordError) = some false
  s_BadAlphabet_SizeError : PySem.W.subIn K (.ref C_BadAlphabet) (.ref C_SizeError) = some false
  s_BadAlphabet_WorkshopError : PySem.W.subIn K (.ref C_BadAlphabet) (.ref C_WorkshopError) = some false
  s_BadAlphabet_ValueError : PySem.W.subIn K (.ref C_BadAlphabet) (.type "ValueError") = some true
  x_BadText : ErrX K C_BadText a_init
  s_BadText_AnytextError : PySem.W.subIn K (.ref C_BadText) (.ref C_AnytextError) = some true
  s_BadText_BadAlphabet : PySem.W.subIn K (.ref C_BadText) (.ref C_BadAlphabet) = some false
  s_BadText_BadText : PySem.W.subIn K (.ref C_BadText) (.ref C_BadText) = some true
  s_BadText_LetterError : PySem.W.subIn K (.ref C_BadText) (.ref C_LetterError) = some true
  s_BadText_MachineError : PySem.W.subIn K (.ref C_BadText) (.ref C_MachineError) = some false
  s_BadText_PatternError : PySem.W.subIn K (.ref C_BadText) (.ref C_PatternError) = some false
  s_BadText_ProgramError : PySem.W.subIn K (.ref C_BadText) (.ref C_ProgramError) = some false
  s_BadText_RecordError : PySem.W.subIn K (.ref C_BadText) (.ref C_RecordError) = some false
  s_BadText_SizeError : PySem.W.subIn K (.ref C_BadText) (.ref C_SizeError) = some false
  s_BadText_WorkshopError : PySem.W.subIn K (.ref C_BadText) (.ref C_WorkshopError) = some false
  s_BadText_ValueError : PySem.W.subIn K (.ref C_BadText) (.type "ValueError") = some true
  clsB : ClsB K
  nb_ValueError : mg "ValueError" = none
  nb_abs : mg "abs" = none
  nb_all : mg "all" = none
  nb_int : mg "int" = none
  nb_isinstance : mg "isinstance" = none
  nb_len : mg "len" = none
  nb_range : mg "range" = none
  nb_repr : mg "repr" = none
  t_LETTERS : Tok
  c_LETTERS : mg "LETTERS" = some (.str "abcdefghijklmnopqrstuvwxyzABCDEFGHIJKLMNOPQRSTUVWXYZ0123456789<>=:_@#" t_LETTERS)
  t_MOST_LETTERS : Tok
  c_MOST_LETTERS : mg "MOST_LETTERS" = some (.int 8 t_MOST_LETTERS)
section
variable {P : Program} {w : World} {K : PySem.W.Frag} {mg : Str → Option Value} {base : Heap}
/-! ### the helpers that all laws have: cells of the script, numbers, a state, the next drawn number -/
def spCell (K : PySem.W.Frag) : Sp := fun vs H Q _ => ∃ (l : Addr) (ns : List Int) (k : Int), vs = [.ref l, .int k] ∧ SqL K H l (ns.map V.int) ∧ 0 ≤ k ∧ ∀ z, Q (.int z) H
theorem ok_cell (T : Txt K mg) : FnOk P w K mg base CX0 1 T.a_cell T.d_cell ["script", "k"] (spCell K) := by
  refine T.f_cell.ok sc_cell (fun vs H Q E h => ?_) (fun cdv A outer s H vs Q E hr h => ?_)
  · obtain ⟨_, _, _, rfl, _⟩ := h; rfl
  · obtain ⟨l, ns, k, rfl, hs, h0, q⟩ := h
    refine ⟨_, (pss_cons (ps_if (pt_cmpR op_ltP (pv 1) (pe_callB (kLen K) (by rfl) T.nb_len (by decide +kernel) (pa_cons (pv 0) pa_nil)) (by first | rfl | exact nomark _))
    (pss_one (ps_ret (pe_ix (kIx K) (pv 0) (pv 1) (fun _ _ => rfl))))
    pss_nil)
  (pss_one (ps_ret pe_int))), ?_⟩
    walk_at "rd"
    refine rd_iteD (fun h1 => ?_) (fun h1 => ?_)
    · walk_at "rd"
      rw [List.length_map] at h1
      refine rd_ixL (v := .int (ns.getD k.toNat 0)) hs ?_ (q _)
      have e : k = (k.toNat : Int) := (Int.toNat_of_nonneg h0).symm
      rw [e]
      refine atI_nat ?_
      rw [List.getElem?_map, Int.toNat_natCast, List.getD_eq_getElem?_getD, List.getElem?_eq_getElem (show k.toNat < ns.length by omega)]
      rfl
    · walk_at "rd"
      exact q 0
/-- numbers from 0 to 999 -/
def Small (ns : List Int) : Prop := ∀ x ∈ ns, 0 ≤ x ∧ x < 1000
theorem Small.more {ns : List Int} {x : Int} (h : Small ns) (h0 : 0 ≤ x) (h1 : x < 1000) : Small (ns ++ [x]) := fun y hy => by
  rcases List.mem_append.mp hy with hy | hy
  · exact h y hy
  · rw [List.mem_singleton.mp hy]; exact ⟨h0, h1⟩
theorem Small.app {ns ms : List Int} (h : Small ns) (k : Small ms) : Small (ns ++ ms) := fun y hy => (List.mem_append.mp hy).elim (h y) (k y)
theorem fmod_small {a m : Int} (h : 0 < m) : 0 ≤ a.fmod m ∧ a.fmod m < m := by
  rw [Int.fmod_eq_emod_of_nonneg _ (Int.le_of_lt h)]
  exact ⟨Int.emod_nonneg _ (by omega), Int.emod_lt_of_pos _ h⟩
/-- a new list of small numbers -/
def spNumbers : Sp := fun vs H Q _ => ∃ (c m : Int), vs = [.int c, .int m] ∧ 0 ≤ m ∧ m ≤ 1000 ∧ ∀ (p : Addr) (ns : List Int) (H' : Hp), H p = none → Ex H H' → H' p = some (.lst (ns.map V.int)) → (ns.length : Int) = m → Small ns → Q (.ref p) H'
theorem append_int {H' : Hp} {p : Addr} {ns : List Int} {D : VK} {K : PySem.W.Frag} {i : Nat} {x : Int} (hp : H' p = some (.lst (ns.map V.int))) (hi : ns.length = i) (hl : i < 100000) (q : D .non (upd H' p (.lst ((ns ++ [x]).map V.int)))) :
    rAppend (.ref p) [.int x] H' D := ⟨p, ns.map V.int, .int x, rfl, rfl, hp, Nat.lt_of_lt_of_le (by rw [List.length_map, hi]; exact hl) (by decide), by rw [List.map_append] at q; exact q⟩
theorem ok_numbers (T : Txt K mg) : FnOk P w K mg base CX0 1 T.a_numbers T.d_numbers ["cell", "many"] spNumbers := by
  refine T.f_numbers.ok sc_numbers (fun vs H Q E h => ?_) (fun cdv A outer s H vs Q E hr h => ?_)
  · obtain ⟨_, _, rfl, _⟩ := h; rfl
  · obtain ⟨c, m, rfl, h0, h1, q⟩ := h
    refine ⟨_, (pss_cons (ps_set (i := 2) sc_numbers.nd rfl (by first | exact Or.inl rfl | exact Or.inr rfl) (pe_callB call_absP (by rfl) T.nb_abs (by decide +kernel) (pa_cons (pv 0) pa_nil)))
  (pss_cons (ps_set (i := 3) sc_numbers.nd rfl (by first | exact Or.inl rfl | exact Or.inr rfl) (pv 2))
  (pss_cons (ps_set (i := 4) sc_numbers.nd rfl (by first | exact Or.inl rfl | exact Or.inr rfl) (pe_lst pa_nil))
  (pss_cons (ps_for PassesOwn.never rfl (pi_range1 (by rfl) T.nb_range (pa_cons (pv 1) pa_nil)) (pg_name (i := 5) sc_numbers.nd rfl (by first | exact Or.inl rfl | exact Or.inr rfl))
    (pss_one (ps_if (PW.pt (pw_and (pt_cmpR op_geP (pv 3) (pe_op op_powP pe_int pe_int) (by first | rfl | exact nomark _)) (pw_and1 (pt_cmpR op_gtP (pv 2) pe_int (by first | rfl | exact nomark _)))))
    (pss_cons (ps_expr (kBm K rfl (pe_bm PySem.F.plainAttrs_list PySem.F.slot_list_append PySem.F.type_list_append mt_append (pv 4) (pa_cons (pe_op op_modP (pe_callTy call_intP (by rfl) T.nb_int (by decide +kernel) (pa_cons (pv 2) pa_nil)) pe_int) pa_nil))))
  (pss_one (ps_set (i := 2) sc_numbers.nd rfl (by first | exact Or.inl rfl | exact Or.inr rfl) (pe_op op_divP (pv 2) pe_int))))
    (pss_cons (ps_set (i := 6) sc_numbers.nd rfl (by first | exact Or.inl rfl | exact Or.inr rfl) (pe_op op_modP (pe_callTy call_intP (by rfl) T.nb_int (by decide +kernel) (pa_cons (pe_op (kAdd K) (pe_op (kAdd K) (pe_op op_mulPP (pv 3) pe_int) (pe_op op_mulPP (pv 5) pe_int)) pe_int) pa_nil)) pe_int))
  (pss_cons (ps_set (i := 6) sc_numbers.nd rfl (by first | exact Or.inl rfl | exact Or.inr rfl) (pe_op op_modP (pe_callTy call_intP (by rfl) T.nb_int (by decide +kernel) (pa_cons (pe_op (kAdd K) (pe_op (kAdd K) (pe_op op_mulPP (pv 6) (pv 6)) (pe_op op_mulPP pe_int (pv 5))) pe_int) pa_nil)) pe_int))
  (pss_one (ps_expr (kBm K rfl (pe_bm PySem.F.plainAttrs_list PySem.F.slot_list_append PySem.F.type_list_append mt_append (pv 4) (pa_cons (pe_op op_modP (pe_callTy call_intP (by rfl) T.nb_int (by decide +kernel) (pa_cons (pe_op op_divP (pv 6) pe_int) pa_nil)) pe_int) pa_nil))))))))))
  (pss_one (ps_ret (pv 4))))))), ?_⟩
    walk_at "rd"
    refine ⟨by decide, fun p hp => ?_⟩
    walk_at "rd"
    refine ⟨_, rfl, by omega, by omega, fo_range (n := m.toNat) (fun i σ H' => ∃ (r : Int) (ns : List Int) (kk mm : Option V), σ = [some (.int c), some (.int m), some (.int r), some (.int (if c < 0 then -c else c)), some (.ref p), kk, mm] ∧ Ex H H' ∧ H' p = some (.lst (ns.map V.int)) ∧ ns.length = i ∧ Small ns)
      ⟨_, [], none, none, rfl, Evl.Ex.new hp, upd_same, rfl, fun x hx => by cases hx⟩ ?_ ?_⟩
    · rintro i σ H' hi ⟨r, ns, kk, mm, rfl, e, hl, hn, sm⟩
      have tl : tyV K "list" (.ref p) H' := .inl ⟨rfl, _, SqL.of hl⟩
      walk_at "rd"
      refine rd_powI ⟨by decide, by decide, by decide⟩ ?_
      walk_at "rd"
      refine rd_ite (fun h2 => ?_) (fun h2 => ?_)
      · walk_at "rd"
        refine rd_ite (fun h3 => ?_) (fun h3 => ?_)
        · walk_at "rd"
          refine ⟨tl, ?_⟩
          walk_at "rd"
          refine rd_modI (by decide) ?_
          walk_at "rd"
          refine append_int (K := K) hl hn (by omega) ?_
          walk_at "rd"
          refine rd_divI ⟨by decide, by decide⟩ ?_
          walk_at "rd"
          have fm := fmod_small (a := r) (m := 1000) (by decide)
          exact ⟨_, ns ++ [_], _, _, rfl, Evl.Ex.mut e hp, upd_same, by rw [List.length_append, hn]; rfl, sm.more fm.1 fm.2⟩
        · walk_at "rd"
          refine rd_mulN (.inr ⟨by decide, by decide⟩) ?_
          walk_at "rd"
          refine rd_mulN (.inr ⟨by decide, by decide⟩) ?_
          walk_at "rd"
          refine rd_modI (by decide) ?_
          walk_at "rd"
          have fa := fmod_small (a := (if c < 0 then -c else c) * 48271 + (i : Int) * 69621 + 11) (m := 2147483647) (by decide)
          refine rd_mulN (.inl ⟨by omega, by omega⟩) ?_
          walk_at "rd"
          refine rd_mulN (.inl ⟨by decide, by decide⟩) ?_
          walk_at "rd"
          refine rd_modI (by decide) ?_
          walk_at "rd"
          refine ⟨tl, ?_⟩
          walk_at "rd"
          refine rd_divI ⟨by decide, by decide⟩ ?_
          walk_at "rd"
          refine rd_modI (by decide) ?_
          walk_at "rd"
          refine append_int (K := K) hl hn (by omega) ?_
          have fm := fun a : Int => fmod_small (a := a) (m := 1000) (by decide)
          exact ⟨_, ns ++ [_], _, _, rfl, Evl.Ex.mut e hp, upd_same, by rw [List.length_append, hn]; rfl, sm.more (fm _).1 (fm _).2⟩
      · walk_at "rd"
        refine rd_mulN (.inr ⟨by decide, by decide⟩) ?_
        walk_at "rd"
        refine rd_mulN (.inr ⟨by decide, by decide⟩) ?_
        walk_at "rd"
        refine rd_modI (by decide) ?_
        walk_at "rd"
        have fa := fmod_small (a := (if c < 0 then -c else c) * 48271 + (i : Int) * 69621 + 11) (m := 2147483647) (by decide)
        refine rd_mulN (.inl ⟨by omega, by omega⟩) ?_
        walk_at "rd"
        refine rd_mulN (.inl ⟨by decide, by decide⟩) ?_
        walk_at "rd"
        refine rd_modI (by decide) ?_
        walk_at "rd"
        refine ⟨tl, ?_⟩
        walk_at "rd"
        refine rd_divI ⟨by decide, by decide⟩ ?_
        walk_at "rd"
        refine rd_modI (by decide) ?_
        walk_at "rd"
        refine append_int (K := K) hl hn (by omega) ?_
        have fm := fun a : Int => fmod_small (a := a) (m := 1000) (by decide)
        exact ⟨_, ns ++ [_], _, _, rfl, Evl.Ex.mut e hp, upd_same, by rw [List.length_append, hn]; rfl, sm.more (fm _).1 (fm _).2⟩
    · rintro σ H' ⟨r, ns, kk, mm, rfl, e, hl, hn, sm⟩
      walk_at "rd"
      exact q p ns H' hp e hl (by omega) sm
/-- a state: the numbers, the place -/
def StAt (H : Hp) (p : Addr) : Prop := ∃ (l : Addr) (ns : List Int) (place : Int), H p = some (.lst [.ref l, .int place]) ∧ H l = some (.lst (ns.map V.int)) ∧ Small ns ∧ 0 < ns.length ∧ ns.length ≤ 100000 ∧ 0 ≤ place
theorem StAt.ex {H H' : Hp} {p : Addr} (h : StAt H p) (e : Ex H H') : StAt H' p := by
  obtain ⟨l, ns, pl, h1, h2, h3⟩ := h
  exact ⟨l, ns, pl, e _ _ h1, e _ _ h2, h3⟩
def spState (K : PySem.W.Frag) : Sp := fun vs H Q _ => ∃ (l : Addr) (ns : List Int) (st many : Int), vs = [.ref l, .int st, .int many] ∧ SqL K H l (ns.map V.int) ∧ 0 ≤ st ∧ st ≤ 1000 ∧ 0 < many ∧ many ≤ 1000 ∧
  ∀ (p : Addr) (H' : Hp), H p = none → Ex H H' → StAt H' p → Q (.ref p) H'
theorem ok_state (T : Txt K mg) : FnOk P w K mg base CX0 2 T.a_state T.d_state ["script", "start", "many"] (spState K) := by
  refine T.f_state.ok sc_state (fun vs H Q E h => ?_) (fun cdv A outer s H vs Q E hr h => ?_)
  · obtain ⟨_, _, _, _, rfl, _⟩ := h; rfl
  · obtain ⟨l, ns, st, many, rfl, hs, h0, h1, h2, h3, q⟩ := h
    refine ⟨_, (pss_cons (ps_set (i := 3) sc_state.nd rfl (by first | exact Or.inl rfl | exact Or.inr rfl) (pe_lst pa_nil))
  (pss_cons (ps_for PassesOwn.never rfl (pi_range2 (by rfl) T.nb_range (pa_cons (pv 1) (pa_cons (pe_op (kAdd K) (pv 1) (pv 2)) pa_nil))) (pg_name (i := 4) sc_state.nd rfl (by first | exact Or.inl rfl | exact Or.inr rfl))
    (pss_cons (ps_set (i := 5) sc_state.nd rfl (by first | exact Or.inl rfl | exact Or.inr rfl) (pe_callE (ok_cell T) (hr.mono (by decide)) T.o_cell (pa_cons (pv 0) (pa_cons (pv 4) pa_nil))))
  (pss_cons (ps_if (pt_cmpR op_ltP (pe_callB call_absP (by rfl) T.nb_abs (by decide +kernel) (pa_cons (pv 5) pa_nil)) (pe_op op_powP pe_int pe_int) (by first | rfl | exact nomark _))
    (pss_one (ps_set (i := 5) sc_state.nd rfl (by first | exact Or.inl rfl | exact Or.inr rfl) (pe_op (kAdd K) (pe_op op_mulPP (pv 5) pe_int) (pv 4))))
    pss_nil)
  (pss_one (ps_set (i := 3) sc_state.nd rfl (by first | exact Or.inl rfl | exact Or.inr rfl) (pe_op (kAdd K) (pv 3) (pe_callE (ok_numbers T) (hr.mono (by decide)) T.o_numbers (pa_cons (pv 5) (pa_cons pe_int pa_nil)))))))))
  (pss_one (ps_ret (pe_lst (pa_cons (pv 3) (pa_cons pe_int pa_nil))))))), ?_⟩
    walk_at "rd"
    refine ⟨by decide, fun p hp => ?_⟩
    walk_at "rd"
    refine ⟨_, _, rfl, ⟨by omega, by omega, by omega, by omega⟩, fo_range2 (lo := st) (n := (st + many - st).toNat) (fun i σ H' => ∃ (p2 : Addr) (ms : List Int) (kk cc : Option V), σ = [some (.ref l), some (.int st), some (.int many), some (.ref p2), kk, cc] ∧ Ex H H' ∧ H p2 = none ∧ H' p2 = some (.lst (ms.map V.int)) ∧ ms.length = i * 20 ∧ Small ms)
      ⟨p, [], none, none, rfl, Evl.Ex.new hp, hp, upd_same, rfl, fun x hx => by cases hx⟩ ?_ ?_⟩
    · rintro i σ H' hi ⟨p2, ms, kk, cc, rfl, e, hp2, hl, hn, sm⟩
      walk_at "rd"
      refine ⟨l, ns, _, rfl, Evl.ex_l e hs, by omega, fun z => ?_⟩
      walk_at "rd"
      refine rd_powI ⟨by decide, by decide, by decide⟩ ?_
      walk_at "rd"
      have hi2 : i < 1000 := by omega
      have fin : ∀ (z2 : Int) (cc : Option V), cc = some (.int z2) → tAsg (tOp (oAdd K) (tVar 3) (tCalled spNumbers (tCons (tVar 5) (tCons (tC (.int 20)) tNil)))) (gName 3)
          { nx := fun σ H' => ∃ (p2 : Addr) (ms : List Int) (kk cc : Option V), σ = [some (.ref l), some (.int st), some (.int many), some (.ref p2), kk, cc] ∧ Ex H H' ∧ H p2 = none ∧ H' p2 = some (.lst (ms.map V.int)) ∧ ms.length = (i + 1) * 20 ∧ Small ms, rt := Q } [some (.ref l), some (.int st), some (.int many), some (.ref p2), some (.int (st + (i : Int))), cc] H' := by
        rintro z2 cc rfl
        walk_at "rd"
        refine ⟨z2, 20, rfl, by decide, by decide, fun p3 ns3 H3 hp3 e3 hl3 hn3 sm3 => ?_⟩
        refine rd_cat (e3 _ _ hl) hl3 ?_ fun p4 hp4 => ?_
        · rw [List.length_map, List.length_map, hn]
          refine Nat.le_trans (show i * 20 + ns3.length ≤ 100000 by omega) (by decide)
        · walk_at "rd"
          refine ⟨p4, ms ++ ns3, _, _, rfl, ex_upd (e.trans e3) hp4, Evl.fresh_back (e.trans e3) hp4, ?_, ?_, sm.app sm3⟩
          · rw [upd_same, List.map_append]
          · rw [List.length_append, hn]; omega
      refine rd_ite (fun h4 => ?_) (fun h4 => ?_)
      · walk_at "rd"
        refine rd_mulN (.inr ⟨by decide, by decide⟩) ?_
        walk_at "rd1"
        walk_at "rd1"
        walk_at "rd1"
        walk_at "rd1"
        exact fin _ _ rfl
      · exact fin _ _ rfl
    · rintro σ H' ⟨p2, ms, kk, cc, rfl, e, hp2, hl, hn, sm⟩
      walk_at "rd"
      refine ⟨by show 2 ≤ sizeLine; decide, fun p3 hp3 => ?_⟩
      refine q p3 _ (Evl.fresh_back e hp3) (ex_upd e hp3) ⟨p2, ms, 0, upd_same, ?_, sm, by omega, by omega, by decide⟩
      rw [upd_ne (ne_of_none hl hp3)]
      exact hl
/-- the next number below many: any -/
def spNext : Sp := fun vs H Q _ => ∃ (p : Addr) (many : Int), vs = [.ref p, .int many] ∧ 0 < many ∧ StAt H p ∧ ∀ (r : Int) (H' : Hp), 0 ≤ r → r < many → StAt H' p → (∀ b o, b ≠ p → H b = some o → H' b = some o) → (∀ b, H b = none → H' b = none) → Q (.int r) H'
theorem ok_next (T : Txt K mg) : FnOk P w K mg base CX0 1 T.a_next T.d_next ["state", "many"] spNext := by
  refine T.f_next.ok sc_next (fun vs H Q E h => ?_) (fun cdv A outer s H vs Q E hr h => ?_)
  · obtain ⟨_, _, rfl, _⟩ := h; rfl
  · obtain ⟨p, many, rfl, hm, ⟨l, ns, place, h1, h2, sm, l0, l1, p0⟩, q⟩ := h
    have lp : l ≠ p := fun z => by
      rw [z, h1] at h2
      have y := HO.lst.inj (Option.some.inj h2)
      cases ns with
      | nil => cases l0
      | cons a r => cases y
    refine ⟨_, (pss_cons (ps_set (i := 2) sc_next.nd rfl (by first | exact Or.inl rfl | exact Or.inr rfl) (pe_ix (kIx K) (pv 0) pe_int (fun _ _ => rfl)))
  (pss_cons (ps_set (i := 3) sc_next.nd rfl (by first | exact Or.inl rfl | exact Or.inr rfl) (pe_ix (kIx K) (pv 0) pe_int (fun _ _ => rfl)))
  (pss_cons (ps_asg (pe_op (kAdd K) (pv 3) pe_int) (pg_sub (pv 0) pe_int set_list))
  (pss_one (ps_ret (pe_op op_modP (pe_callTy call_intP (by rfl) T.nb_int (by decide +kernel) (pa_cons (pe_op (kAdd K) (pe_ix (kIx K) (pv 2) (pe_op op_modP (pv 3) (pe_callB (kLen K) (by rfl) T.nb_len (by decide +kernel) (pa_cons (pv 2) pa_nil))) (fun _ _ => rfl)) (pe_op op_mulPP (pe_op op_divP (pv 3) (pe_callB (kLen K) (by rfl) T.nb_len (by decide +kernel) (pa_cons (pv 2) pa_nil))) pe_int)) pa_nil)) (pv 1))))))), ?_⟩
    walk_at "rd"
    refine rd_ixL (v := .ref l) (SqL.of h1) (atI_nat (j := 0) rfl) ?_
    walk_at "rd"
    refine rd_ixL (v := .int place) (SqL.of h1) (atI_nat (j := 1) rfl) ?_
    walk_at "rd"
    refine ⟨p, _, 1, 1, rfl, rfl, h1, rfl, ?_⟩
    have h2' : upd H p (.lst (([.ref l, .int place] : List V).set 1 (.int (place + 1)))) l = some (.lst (ns.map V.int)) := by rw [upd_ne lp]; exact h2
    have hq : SqL K (upd H p (.lst (([.ref l, .int place] : List V).set 1 (.int (place + 1))))) l (ns.map V.int) := SqL.of h2'
    walk_at "rd"
    have lz : ((ns.map V.int).length : Int) = ns.length := by rw [List.length_map]
    refine rd_modI (by rw [lz]; omega) ?_
    rw [lz]
    have fm := fmod_small (a := place) (m := (ns.length : Int)) (by omega)
    have e : place.fmod (ns.length : Int) = ((place.fmod (ns.length : Int)).toNat : Int) := (Int.toNat_of_nonneg fm.1).symm
    refine rd_ixL (v := .int (ns.getD (place.fmod (ns.length : Int)).toNat 0)) hq ?_ ?_
    · rw [e]
      refine atI_nat ?_
      rw [List.getElem?_map, Int.toNat_natCast, List.getD_eq_getElem?_getD, List.getElem?_eq_getElem (show (place.fmod (ns.length : Int)).toNat < ns.length by omega)]
      rfl
    · walk_at "rd"
      refine rd_divI ⟨by rw [lz]; omega, by rw [lz]; omega⟩ ?_
      walk_at "rd"
      refine rd_mulN (.inr ⟨by decide, by decide⟩) ?_
      walk_at "rd"
      refine rd_modI (by omega) ?_
      have fr := fun a : Int => fmod_small (a := a) (m := many) hm
      refine q _ _ (fr _).1 (fr _).2 ⟨l, ns, place + 1, upd_same, h2', sm, l0, l1, by omega⟩ (fun b o hb ho => ?_) (fun b hb => ?_)
      · rw [upd_ne hb]; exact ho
      · rw [upd_ne (fun z => by rw [z, h1] at hb; cases hb)]; exact hb
/-! ### texts: counting one sign -/
section
open PySem.Builtin.Str PySem.StrLaws
theorem chain_count (x : Str) (c : Nat) : ∀ (l : List Nat) (a f : Nat), ChainG x ⟨#[c]⟩ x.length a l f → (∀ k, f ≤ k → ¬ At x ⟨#[c]⟩ x.length k) → l.length = (x.cps.toList.drop a).count c
  | [], a, f, h, hn => by
    have e : f = a := h
    subst e
    refine (List.count_eq_zero.mpr fun hm => ?_).symm
    obtain ⟨j, hj⟩ := List.getElem?_of_mem hm
    rw [List.getElem?_drop] at hj
    exact hn (f + j) (by omega) ((subAt_one x c (f + j)).mpr hj)
  | i :: r, a, f, h, hn => by
    obtain ⟨h1, h2, h3, h4⟩ := h
    have ih := chain_count x c r (i + 1) f h4 hn
    have e := (subAt_one x c i).mp h2
    have e1 : x.cps.toList.drop a = (x.cps.toList.drop a).take (i - a) ++ x.cps.toList.drop i := by
      have q := (List.take_append_drop (i - a) (x.cps.toList.drop a)).symm
      rw [List.drop_drop, show a + (i - a) = i by omega] at q
      exact q
    have e2 : x.cps.toList.drop i = c :: x.cps.toList.drop (i + 1) := by
      obtain ⟨hi, e⟩ := List.getElem?_eq_some_iff.mp e
      rw [List.drop_eq_getElem_cons hi, e]
    have e3 : ((x.cps.toList.drop a).take (i - a)).count c = 0 := List.count_eq_zero.mpr fun hm => by
      obtain ⟨j, hj⟩ := List.getElem?_of_mem hm
      have hlt : j < i - a := by
        have q := (List.getElem?_eq_some_iff.mp hj).1
        rw [List.length_take] at q
        omega
      rw [List.getElem?_take_of_lt hlt, List.getElem?_drop] at hj
      exact h3 (a + j) (by omega) (by omega) ((subAt_one x c (a + j)).mpr hj)
    rw [e1, e2, List.count_append, e3, List.count_cons_self, List.length_cons, ih]
    omega
theorem count_sign (x : Str) (c : Nat) : Txt.count x ⟨#[c]⟩ = (x.cps.toList.count c : Int) := by
  obtain ⟨f, h1, h2⟩ := occ_tight x ⟨#[c]⟩ (Nat.le_refl 1)
  have e := chain_count x c _ 0 f h1 h2
  rw [List.drop_zero] at e
  show ((occurrences x ⟨#[c]⟩ 0 x.length (x.length + 1)).length : Int) = _
  rw [e]
end
theorem nodup_count {l : List Nat} : (∀ c ∈ l, l.count c ≤ 1) ↔ l.Nodup := by
  induction l with
  | nil => exact ⟨fun _ => List.nodup_nil, fun _ c hc => by cases hc⟩
  | cons a r ih =>
    rw [List.nodup_cons]
    constructor
    · intro h
      have ha := h a List.mem_cons_self
      rw [List.count_cons_self] at ha
      refine ⟨fun hm => ?_, ih.mp fun c hc => ?_⟩
      · have := List.count_pos_iff.mpr hm
        omega
      · have q := h c (List.mem_cons_of_mem _ hc)
        rw [List.count_cons] at q
        omega
    · rintro ⟨h1, h2⟩ c hc
      rw [List.count_cons]
      by_cases e : a = c
      · subst e
        rw [List.count_eq_zero.mpr h1]
        simp
      · have e' : (a == c) = false := by simpa using e
        rw [e']
        rcases List.mem_cons.mp hc with z | z
        · exact absurd z.symm e
        · have := ih.mpr h2 c z
          simpa using this
theorem nodup_pre {l : List Nat} : (∀ (j : Nat) c, l[j]? = some c → c ∉ l.take j) ↔ l.Nodup := by
  constructor
  · intro h
    refine List.pairwise_iff_getElem.mpr fun i j hi hj hij e => ?_
    refine h j l[j] (List.getElem?_eq_getElem hj) ?_
    rw [← e]
    refine List.mem_iff_getElem?.mpr ⟨i, ?_⟩
    rw [List.getElem?_take_of_lt hij, List.getElem?_eq_getElem hi]
  · intro h j c hj hm
    obtain ⟨hlt, e⟩ := List.getElem?_eq_some_iff.mp hj
    obtain ⟨i, hi⟩ := List.getElem?_of_mem hm
    have hij : i < j := by
      have q := (List.getElem?_eq_some_iff.mp hi).1
      rw [List.length_take] at q
      omega
    rw [List.getElem?_take_of_lt hij] at hi
    obtain ⟨hl, e2⟩ := List.getElem?_eq_some_iff.mp hi
    exact List.pairwise_iff_getElem.mp h i j hl hlt hij (e2.trans e.symm)
theorem cut_to (z : Str) (i : Nat) (h : i ≤ z.length) : (cutS z none (some (i : Int))).cps.toList = z.cps.toList.take i := by
  show (z.cps.toList.drop _).take _ = _
  have e : HT.sIx z.length z.length (some (i : Int)) = i := by
    rw [HT.sIx_nat]
    exact Nat.min_eq_left h
  rw [e, HT.sIx_none]
  rfl
/-! ### letters and texts -/
theorem ok_init (T : Txt K mg) : FnOk P w K mg base CX0 1 T.a_init T.d_init ["self", "what"] (spInit K) := by
  refine T.f_init.ok sc_init (fun vs H Q E h => ?_) (fun cdv A outer s H vs Q E hr h => ?_)
  · obtain ⟨_, _, _, rfl, _⟩ := h; rfl
  · obtain ⟨a, C, v, rfl, T1, nw, ha, q⟩ := h
    refine ⟨_, pss_one (ps_ost (pv 0) (pv 1)), ?_⟩
    exact ⟨_, rfl, _, rfl, a, C, rfl, T1, nw, .inl ⟨ha, q⟩⟩
abbrev PL : Str := "abcdefghijklmnopqrstuvwxyzABCDEFGHIJKLMNOPQRSTUVWXYZ0123456789<>=:_@#"
def goodA (z : Str) : Prop := 1 ≤ z.length ∧ z.length ≤ 8 ∧ ∀ c ∈ z.cps.toList, c ∈ PL.cps.toList ∧ z.cps.toList.count c ≤ 1
instance (z : Str) : Decidable (goodA z) := by unfold goodA; infer_instance
def spAlpha (C : Addr) : Sp := fun vs H Q E => ∃ z : Str, vs = [.str z] ∧ z.length ≤ 1000000 ∧ (goodA z → Q .non H) ∧ (¬ goodA z → ∀ d, H d = none → E (.ref C) (some d) (upd H d (.xd [("what", .str z)])))
theorem ok_check_alphabet (T : Txt K mg) : FnOk P w K mg base (L2.CX P w) 4 T.a_check_alphabet T.d_check_alphabet ["letters"] (spAlpha T.C_BadAlphabet) := by
  refine T.f_check_alphabet.okX sc_check_alphabet (fun vs H Q E h => ?_) (fun cdv A outer s H vs Q E hr h => ?_)
  · obtain ⟨_, rfl, _⟩ := h; rfl
  · obtain ⟨z, rfl, hz, qy, qn⟩ := h
    have hz2 : z.length ≤ sizeLine := Nat.le_trans hz (by decide)
    have zl : z.cps.toList.length = z.length := rfl
    refine ⟨_, (pss_cons (ps_if (pt_not (pt_chain op_leP op_leP pe_int (pe_callB (kLen K) (by rfl) T.nb_len (by decide +kernel) (pa_cons (pv 0) pa_nil)) (pe_globI (by rfl) T.c_MOST_LETTERS)))
    (pss_one (ps_raiseW rfl T.x_BadAlphabet (ok_init T) T.tI T.bI (hr.mono (by decide)) T.g_BadAlphabet (takes_of rfl rfl rfl rfl) (pa_cons (pv 0) pa_nil) (MonoA.one mono_var)))
    pss_nil)
  (pss_one (ps_for (passes_of rfl) rfl (kAny K rfl (pv 0)) (pg_name (i := 1) sc_check_alphabet.nd rfl (by first | exact Or.inl rfl | exact Or.inr rfl))
    (pss_one (ps_if (PW.pt (pw_or (pt_cmpR (kNotIn K) (pv 1) (pe_globS (by rfl) T.c_LETTERS) (by first | rfl | exact nomark _)) (pw_or1 (pt_cmpR op_gtP (kBm K rfl (pe_bm PySem.F.plainAttrs_str PySem.F.slot_str_count PySem.F.type_str_count mt_count (pv 0) (pa_cons (pv 1) pa_nil))) pe_int (by first | rfl | exact nomark _)))))
    (pss_one (ps_raiseW rfl T.x_BadAlphabet (ok_init T) T.tI T.bI (hr.mono (by decide)) T.g_BadAlphabet (takes_of rfl rfl rfl rfl) (pa_cons (pv 0) pa_nil) (MonoA.one mono_var)))
    pss_nil))))), ?_⟩
    walk_at "rd"
    refine rd_lenS hz2 ?_
    walk_at "rd"
    refine rd_iteD (fun h1 => ?_) (fun h1 => ?_)
    · walk_at "rd"
      refine rd_iteN (fun h2 => ?_) (fun h2 => ?_)
      · walk_at "rd"
        exact qn fun g => h2 (by have := g.2.1; omega)
      · walk_at "rd"
        refine rd_anyS (fun Q q => ⟨_, rfl, q⟩) (fo_str (fun i σ H' => (∃ v, σ = [some (.str z), v]) ∧ H' = H ∧ ∀ c ∈ z.cps.toList.take i, c ∈ PL.cps.toList ∧ z.cps.toList.count c ≤ 1)
          ⟨⟨none, rfl⟩, rfl, fun c hc => by rw [List.take_zero] at hc; cases hc⟩ ?_ ?_)
        · rintro i c σ H' hi ⟨⟨v, rfl⟩, rfl, hp⟩
          have hm : c ∈ z.cps.toList := List.mem_of_getElem? hi
          walk_at "rd"
          refine rd_iteN (fun h3 => ?_) (fun h3 => ?_)
          · walk_at "rd"
            exact qn fun g => h3 (g.2.2 c hm).1
          · walk_at "rd"
            refine ⟨rfl, ?_⟩
            walk_at "rd"
            refine ⟨z, ⟨#[c]⟩, rfl, rfl, ?_⟩
            walk_at "rd"
            rw [count_sign]
            refine rd_iteD (fun h4 => ?_) (fun h4 => ?_)
            · walk_at "rd"
              exact qn fun g => by have := (g.2.2 c hm).2; omega
            · walk_at "rd"
              refine ⟨⟨_, rfl⟩, rfl, fun c' hc' => ?_⟩
              rw [List.take_succ, hi] at hc'
              rcases List.mem_append.mp hc' with z1 | z1
              · exact hp c' z1
              · have e : c' = c := by simpa using z1
                rw [e]
                exact ⟨h3, by omega⟩
        · rintro σ H' ⟨⟨v, rfl⟩, rfl, hp⟩
          rw [← zl, List.take_length] at hp
          exact qy ⟨by omega, by omega, hp⟩
    · walk_at "rd"
      exact qn fun g => h1 (by have := g.1; omega)
def isT (ls z : Str) : Prop := ∀ c ∈ z.cps.toList, c ∈ ls.cps.toList
instance (ls z : Str) : Decidable (isT ls z) := by unfold isT; infer_instance
def spIsText : Sp := fun vs H Q _ => ∃ ls z : Str, vs = [.str ls, .str z] ∧ z.length < 100000 ∧ ∀ H', Ex H H' → Q (.bl (decide (isT ls z))) H'
theorem all_of {l m : List Nat} : ((l.map fun c => decide (c ∈ m)).all id) = decide (∀ c ∈ l, c ∈ m) := by
  rw [Bool.eq_iff_iff, List.all_eq_true, decide_eq_true_iff]
  exact ⟨fun h c hc => of_decide_eq_true (h _ (List.mem_map.mpr ⟨c, hc, rfl⟩)), fun h b hb => by
    obtain ⟨c, hc, rfl⟩ := List.mem_map.mp hb
    exact decide_eq_true (h c hc)⟩
theorem ok_is_text (T : Txt K mg) : FnOk P w K mg base CX0 1 T.a_is_text T.d_is_text ["letters", "text"] spIsText := by
  refine T.f_is_text.ok sc_is_text (fun vs H Q E h => ?_) (fun cdv A outer s H vs Q E hr h => ?_)
  · obtain ⟨_, _, rfl, _⟩ := h; rfl
  · obtain ⟨ls, z, rfl, hz, q⟩ := h
    refine ⟨_, (pss_one (ps_ret (pe_callB (kAll K) (by rfl) T.nb_all (by decide +kernel) (pa_cons (pe_lc (own := [("letter", 2)]) (g := gName 2) (tt := tYes) (by rfl) sc_is_text.nd (kAny K rfl (pv 1)) (blkOk_by (own := [("letter", 2)]) (N := ["letters", "text", "letter"]) (sc := defScope s_is_text) (by decide +kernel)) (fun _ _ _ _ _ => (pg_name (i := 2) sc_is_text.nd rfl (by first | exact Or.inl rfl | exact Or.inr rfl))) (fun _ _ _ _ _ => pts_nil) (fun _ _ _ _ _ => (pe_cmpR (kIn K) (pv 2) (pv 0) (by first | rfl | exact nomark _)))) pa_nil)))), ?_⟩
    walk_at "rd"
    refine rd_anyS (fun Q q => ⟨_, rfl, q⟩) ?_
    refine lc_pure (n := z.cps.size) (xs := fun i => .str ⟨#[z.cps.toList.getD i 0]⟩) (f := fun _ => true) (v := fun i => .bl (decide (z.cps.toList.getD i 0 ∈ ls.cps.toList))) walk_str (fun i H x H' hi y => ?_) (fun _ _ => True.intro) hz (fun _ _ _ _ => ans_yes) (fun i Hc hi e _ => ?_) fun L hL => ?_
    · obtain ⟨rfl, c, e, rfl⟩ := y
      rw [← Array.getElem?_toList] at e
      exact ⟨rfl, by rw [List.getD_eq_getElem?_getD, e]; rfl⟩
    · intro Q q
      walk_at "rd"
      exact q
    · have e : Evl.given z.cps.size (fun _ => true) (fun i => V.bl (decide (z.cps.toList.getD i 0 ∈ ls.cps.toList))) = (z.cps.toList.map fun c => decide (c ∈ ls.cps.toList)).map V.bl := by
        rw [given_eq z.cps.toList (fun _ => true) (fun c => V.bl (decide (c ∈ ls.cps.toList))) _ _ (fun _ _ _ => rfl) (fun i x hx => by rw [List.getD_eq_getElem?_getD, hx]; rfl) z.cps.size (by simp)]
        rw [show z.cps.size = z.cps.toList.length from rfl, List.take_length, List.filter_eq_self.mpr (fun _ _ => rfl), List.map_map]
        rfl
      rw [e]
      walk_at "rd"
      refine ⟨L, _, rfl, SqL.of upd_same, ?_⟩
      rw [all_of]
      exact q _ (Evl.Ex.new hL)
def spText (C : Addr) : Sp := fun vs H Q E => ∃ ls z : Str, vs = [.str ls, .str z] ∧ z.length < 100000 ∧ (isT ls z → ∀ H', Ex H H' → Q .non H') ∧ (¬ isT ls z → ∀ d H', H d = none → Ex (upd H d (.xd [("what", .str z)])) H' → E (.ref C) (some d) H')
theorem ok_check_text (T : Txt K mg) : FnOk P w K mg base (L2.CX P w) 4 T.a_check_text T.d_check_text ["letters", "text"] (spText T.C_BadText) := by
  refine T.f_check_text.okX sc_check_text (fun vs H Q E h => ?_) (fun cdv A outer s H vs Q E hr h => ?_)
  · obtain ⟨_, _, rfl, _⟩ := h; rfl
  · obtain ⟨ls, z, rfl, hz, qy, qn⟩ := h
    refine ⟨_, (pss_one (ps_if (pt_not (pt_val (pe_callE (ok_is_text T) (hr.mono (by decide)) T.o_is_text (pa_cons (pv 0) (pa_cons (pv 1) pa_nil)))))
    (pss_one (ps_raiseW rfl T.x_BadText (ok_init T) T.tI T.bI (hr.mono (by decide)) T.g_BadText (takes_of rfl rfl rfl rfl) (pa_cons (pv 1) pa_nil) (MonoA.one mono_var)))
    pss_nil)), ?_⟩
    walk_at "rd"
    refine ⟨ls, z, rfl, hz, fun H' e => ?_⟩
    walk_at "rd"
    refine rd_iteN (fun h1 => ?_) (fun h1 => ?_)
    · walk_at "rd"
      intro d hd
      refine qn h1 d _ (Evl.fresh_back e hd) fun a o ha => ?_
      by_cases hb : a = d
      · rw [hb, upd_same] at ha ⊢
        exact ha
      · rw [upd_ne hb] at ha ⊢
        exact e a o ha
    · walk_at "rd"
      exact qy h1 _ e
/-! ### the law's own helpers -/
/-- a drawn text: any of at most so many letters -/
def spString : Sp := fun vs H Q _ => ∃ (p : Addr) (pool : Str) (most : Int), vs = [.ref p, .str pool, .int most] ∧ 0 ≤ most ∧ most ≤ 100 ∧ 0 < pool.length ∧ pool.length ≤ 100 ∧ okS pool ∧ StAt H p ∧
  ∀ (z : Str) (H' : Hp), (z.length : Int) ≤ most → okS z → StAt H' p → (∀ b o, b ≠ p → H b = some o → H' b = some o) → (∀ b, H b = none → H' b = none) → Q (.str z) H'
theorem str_len (x y : Str) : (x ++ y).length = x.length + y.length := by
  rw [TL.len_tl, TL.len_tl, TL.len_tl, TL.tl_append, List.length_append]
theorem at_str {z : Str} {r : Int} (h0 : 0 ≤ r) (h : r < z.length) : ∃ c, atI z.cps.toList r = some c ∧ c ∈ z.cps.toList := by
  obtain ⟨n, rfl⟩ := Int.eq_ofNat_of_zero_le h0
  have hl : n < z.cps.toList.length := by
    have : z.cps.toList.length = z.length := rfl
    omega
  exact ⟨z.cps.toList[n], atI_nat (List.getElem?_eq_getElem hl), List.getElem_mem hl⟩
abbrev OL : Str := " !\"#$&'()*+,-./0123456789:;<=>?@AZ[]^_`az{|}~\\"
theorem okS_nil : okS "" := by unfold okS; decide +kernel
theorem okS_OL : okS OL := by unfold okS; decide +kernel
theorem okS_PL : okS PL := by unfold okS; decide +kernel
theorem pl_len : PL.length = 69 := by decide +kernel
theorem ol_len : OL.length = 46 := by decide +kernel
theorem ok_string (T : Txt K mg) : FnOk P w K mg base CX0 2 T.a_string T.d_string ["state", "pool", "most"] spString := by
  refine T.f_string.ok sc_string (fun vs H Q E h => ?_) (fun cdv A outer s H vs Q E hr h => ?_)
  · obtain ⟨_, _, _, rfl, _⟩ := h; rfl
  · obtain ⟨p, pool, most, rfl, h0, h1, h2, h3, hok, hS, q⟩ := h
    have hpl : pool.length ≤ sizeLine := Nat.le_trans h3 (by decide)
    refine ⟨_, (pss_cons (ps_set (i := 3) sc_string.nd rfl (by first | exact Or.inl rfl | exact Or.inr rfl) pe_str)
  (pss_cons (ps_for PassesOwn.never rfl (pi_range1 (by rfl) T.nb_range (pa_cons (pe_callE (ok_next T) (hr.mono (by decide)) T.o_next (pa_cons (pv 0) (pa_cons (pe_op (kAdd K) (pv 2) pe_int) pa_nil))) pa_nil)) (pg_name (i := 4) sc_string.nd rfl (by first | exact Or.inl rfl | exact Or.inr rfl))
    (pss_one (ps_if (pt_cmpR op_gtP (pe_callE (ok_next T) (hr.mono (by decide)) T.o_next (pa_cons (pv 0) (pa_cons pe_int pa_nil))) pe_int (by first | rfl | exact nomark _))
    (pss_one (ps_set (i := 3) sc_string.nd rfl (by first | exact Or.inl rfl | exact Or.inr rfl) (pe_op (kAdd K) (pv 3) (pe_ix (kIx K) (pv 1) (pe_callE (ok_next T) (hr.mono (by decide)) T.o_next (pa_cons (pv 0) (pa_cons (pe_callB (kLen K) (by rfl) T.nb_len (by decide +kernel) (pa_cons (pv 1) pa_nil)) pa_nil))) (fun _ _ => rfl)))))
    (pss_one (ps_set (i := 3) sc_string.nd rfl (by first | exact Or.inl rfl | exact Or.inr rfl) (pe_op (kAdd K) (pv 3) (pe_ix (kIx K) pe_str (pe_callE (ok_next T) (hr.mono (by decide)) T.o_next (pa_cons (pv 0) (pa_cons pe_int pa_nil))) (fun _ _ => rfl))))))))
  (pss_one (ps_ret (pv 3))))), ?_⟩
    walk_at "rd"
    refine ⟨p, most + 1, rfl, by omega, hS, fun r H1 r0 r1 S1 k1 n1 => ?_⟩
    refine ⟨r, rfl, by omega, by omega, fo_range (fun i σ H' => ∃ (z : Str) (kk : Option V), σ = [some (.ref p), some (.str pool), some (.int most), some (.str z), kk] ∧ z.length ≤ i ∧ okS z ∧ StAt H' p ∧ (∀ b o, b ≠ p → H b = some o → H' b = some o) ∧ (∀ b, H b = none → H' b = none))
      ⟨"", none, rfl, by decide, okS_nil, S1, k1, n1⟩ ?_ ?_⟩
    · rintro i σ H' hi ⟨z, kk, rfl, hz, oz, S2, k2, n2⟩
      have hzi : z.length + 1 ≤ sizeLine := Nat.le_trans (show z.length + 1 ≤ 1000 by omega) (by decide)
      have fin : ∀ (c : Nat) (H3 : Hp), okS ⟨#[c]⟩ → StAt H3 p → (∀ b o, b ≠ p → H' b = some o → H3 b = some o) → (∀ b, H' b = none → H3 b = none) →
          ∃ (z' : Str) (kk : Option V), [some (.ref p), some (.str pool), some (.int most), some (.str (z ++ (⟨#[c]⟩ : Str))), some (.int (i : Int))] = [some (V.ref p), some (.str pool), some (.int most), some (.str z'), kk] ∧ z'.length ≤ i + 1 ∧ okS z' ∧ StAt H3 p ∧ (∀ b o, b ≠ p → H b = some o → H3 b = some o) ∧ (∀ b, H b = none → H3 b = none) := fun c H3 oc S3 k3 n3 =>
        ⟨z ++ (⟨#[c]⟩ : Str), _, rfl, by rw [str_len]; exact Nat.succ_le_succ hz, okS_app oz oc, S3, fun b o hb ho => k3 b o hb (k2 b o hb ho), fun b hb => n3 b (n2 b hb)⟩
      walk_at "rd"
      refine ⟨p, 9, rfl, by decide, S2, fun r2 H2 _ _ S3 k3 n3 => ?_⟩
      walk_at "rd"
      refine rd_iteD (fun h4 => ?_) (fun h4 => ?_)
      · walk_at "rd"
        refine rd_lenS hpl ?_
        walk_at "rd"
        refine ⟨p, pool.length, rfl, by omega, S3, fun r3 H3 r30 r31 S4 k4 n4 => ?_⟩
        obtain ⟨c, hc, cm⟩ := at_str r30 r31
        refine rd_ixS hpl hc ?_
        refine rd_addS hzi ?_
        walk_at "rd"
        exact fin c H3 (okS_one hok cm) S4 (fun b o hb ho => k4 b o hb (k3 b o hb ho)) fun b hb => n4 b (n3 b hb)
      · walk_at "rd"
        refine ⟨p, 46, rfl, by decide, S3, fun r3 H3 r30 r31 S4 k4 n4 => ?_⟩
        obtain ⟨c, hc, cm⟩ := at_str (z := OL) r30 (by rw [ol_len]; exact r31)
        refine rd_ixS (by decide +kernel) hc ?_
        refine rd_addS hzi ?_
        walk_at "rd"
        exact fin c H3 (okS_one (z := OL) okS_OL cm) S4 (fun b o hb ho => k4 b o hb (k3 b o hb ho)) fun b hb => n4 b (n3 b hb)
    · rintro σ H' ⟨z, kk, rfl, hz, oz, S2, k2, n2⟩
      walk_at "rd"
      exact q z H' (by omega) oz S2 k2 n2
/-- what a check says: a list of None, or of a word and the text -/
def saysL (c : Prop) [Decidable c] (z : Str) : List V := if c then [.non] else [.str "refused", .str z]
def spChecked : Sp := fun vs H Q _ => ∃ z : Str, vs = [.str z] ∧ z.length ≤ 1000000 ∧ ∀ p H', H p = none → Ex H H' → H' p = some (.lst (saysL (goodA z) z)) → Q (.ref p) H'
theorem ok_checked (T : Txt K mg) : FnOk P w K mg base CX0 5 T.a_checked T.d_checked ["letters"] spChecked := by
  refine T.f_checked.ok sc_checked (fun vs H Q E h => ?_) (fun cdv A outer s H vs Q E hr h => ?_)
  · obtain ⟨_, rfl, _⟩ := h; rfl
  · obtain ⟨z, rfl, hz, q⟩ := h
    refine ⟨_, (pss_one (ps_try_as (i := 1) rfl rfl sc_checked.nd rfl rfl ⟨rfl, by decide, Or.inl T.g_LetterError⟩ takes0
   (fun W pn xe tk hp => (pss_one (ps_ret (pe_lst (pa_cons (pe_callR (ok_check_alphabet T) (hr.mono (by decide)) T.o_check_alphabet tk (pa_cons (pv 0) pa_nil)) pa_nil)))))
   (fun a oe cls d pn hz hf => PSs.exi (P := Caught K cls d) fun i hi => (pss_cons (ps_if (PW.pt (pw_or (pt_not (pt_val (pe_callB (call_isX hi.x T.clsB (hi.z hz) hf) (by rfl) T.nb_isinstance (by decide +kernel) (pa_cons (pv 1) (pa_cons (pe_globR (by rfl) T.g_BadAlphabet) pa_nil))))) (pw_or (pt_not (pt_val (pe_callB (call_isX hi.x T.clsB (hi.z hz) hf) (by rfl) T.nb_isinstance (by decide +kernel) (pa_cons (pv 1) (pa_cons (pe_globR (by rfl) T.g_AnytextError) pa_nil))))) (pw_or1 (pt_not (pt_val (pe_callB (call_isX hi.x T.clsB (hi.z hz) hf) (by rfl) T.nb_isinstance (by decide +kernel) (pa_cons (pv 1) (pa_cons (pe_blT (n := "ValueError") (by rfl) T.nb_ValueError (by decide +kernel)) pa_nil)))))))))
    (pss_one (ps_ret (pe_lst (pa_cons pe_str pa_nil))))
    pss_nil)
  (pss_cons (ps_if (pt_val (pe_callB (call_isX hi.x T.clsB (hi.z hz) hf) (by rfl) T.nb_isinstance (by decide +kernel) (pa_cons (pv 1) (pa_cons (pe_tup (pa_cons (pe_globR (by rfl) T.g_BadText) (pa_cons (pe_globR (by rfl) T.g_PatternError) (pa_cons (pe_globR (by rfl) T.g_SizeError) (pa_cons (pe_globR (by rfl) T.g_MachineError) (pa_cons (pe_globR (by rfl) T.g_ProgramError) (pa_cons (pe_globR (by rfl) T.g_RecordError) (pa_cons (pe_globR (by rfl) T.g_WorkshopError) pa_nil)))))))) pa_nil))))
    (pss_one (ps_ret (pe_lst (pa_cons pe_str pa_nil))))
    pss_nil)
  (pss_one (ps_ret (pe_lst (pa_cons pe_str (pa_cons (pe_xf hi.x.xf hi.x.nw (hi.z hz) hf (pv 1)) pa_nil)))))))))), ?_⟩
    walk_at "rd"
    refine ⟨z, rfl, hz, fun g => ?_, fun g d hd => ?_⟩
    · walk_at "rd"
      refine ⟨by decide, fun p hp => q p _ hp (Evl.Ex.new hp) ?_⟩
      rw [upd_same, saysL, if_pos g]
    · refine ⟨true, PySem.W.exm_ref T.e_LetterError T.h_LetterError T.t_LetterError T.s_BadAlphabet_LetterError, fun _ a0 _ => ?_, fun h => by cases h⟩
      refine ⟨(T.C_BadAlphabet, d, T.a_init), ⟨rfl, rfl, T.x_BadAlphabet⟩, ?_⟩
      walk_at "rd"
      refine ⟨_, true, upd_same, .inl ⟨_, _, rfl, .own _, kit_ref T.x_BadAlphabet T.i_BadAlphabet T.t_BadAlphabet T.s_BadAlphabet_BadAlphabet⟩, ?_⟩
      walk_at "rd"
      refine ⟨_, true, upd_same, .inl ⟨_, _, rfl, .own _, kit_ref T.x_BadAlphabet T.i_AnytextError T.t_AnytextError T.s_BadAlphabet_AnytextError⟩, ?_⟩
      walk_at "rd"
      refine ⟨_, true, upd_same, .inl ⟨_, _, rfl, .ty _, kit_bt (by decide +kernel) T.s_BadAlphabet_ValueError⟩, ?_⟩
      walk_at "rd"
      refine ⟨by show 7 ≤ sizeLine; decide, fun tp htp => ?_⟩
      have hd2 : (upd (upd H d (.xd [("what", .str z)])) tp (.tup [.ref T.C_BadText, .ref T.C_PatternError, .ref T.C_SizeError, .ref T.C_MachineError, .ref T.C_ProgramError, .ref T.C_RecordError, .ref T.C_WorkshopError])) d = some (.xd [("what", .str z)]) := by
        rw [upd_ne (ne_of_none upd_same htp), upd_same]
      walk_at "rd"
      refine ⟨_, false, hd2, .inr ⟨tp, _, [.ref T.C_BadText, .ref T.C_PatternError, .ref T.C_SizeError, .ref T.C_MachineError, .ref T.C_ProgramError, .ref T.C_RecordError, .ref T.C_WorkshopError], rfl, upd_same,
        .cons (.own _) (.cons (.own _) (.cons (.own _) (.cons (.own _) (.cons (.own _) (.cons (.own _) (.cons (.own _) .nil)))))), ?_⟩, ?_⟩
      · have X := T.x_BadAlphabet
        exact kitAny_cons (kit_ref X T.i_BadText T.t_BadText T.s_BadAlphabet_BadText) (fun _ => kitAny_cons (kit_ref X T.i_PatternError T.t_PatternError T.s_BadAlphabet_PatternError) (fun _ => kitAny_cons (kit_ref X T.i_SizeError T.t_SizeError T.s_BadAlphabet_SizeError)
          (fun _ => kitAny_cons (kit_ref X T.i_MachineError T.t_MachineError T.s_BadAlphabet_MachineError) (fun _ => kitAny_cons (kit_ref X T.i_ProgramError T.t_ProgramError T.s_BadAlphabet_ProgramError) (fun _ => kitAny_cons (kit_ref X T.i_RecordError T.t_RecordError T.s_BadAlphabet_RecordError)
          (fun _ => kitAny_cons (kit_ref X T.i_WorkshopError T.t_WorkshopError T.s_BadAlphabet_WorkshopError) (fun _ => kitAny_nil) (fun h => by cases h)) (fun h => by cases h)) (fun h => by cases h)) (fun h => by cases h)) (fun h => by cases h)) (fun h => by cases h)) (fun h => by cases h)
      · walk_at "rd"
        refine ⟨rfl, rfl, d, _, _, rfl, hd2, rfl, ?_⟩
        walk_at "rd"
        refine ⟨by show 2 ≤ sizeLine; decide, fun p hp => q p _ (Evl.fresh_back (ex_upd (Evl.Ex.new hd) htp) hp) (ex_upd (ex_upd (Evl.Ex.new hd) htp) hp) ?_⟩
        rw [upd_same, saysL, if_neg g]

def spTextChecked : Sp := fun vs H Q _ => ∃ ls z : Str, vs = [.str ls, .str z] ∧ z.length < 100000 ∧ ∀ p H', H p = none → Ex H H' → H' p = some (.lst (saysL (isT ls z) z)) → Q (.ref p) H'
theorem ok_text_checked (T : Txt K mg) : FnOk P w K mg base CX0 5 T.a_text_checked T.d_text_checked ["letters", "text"] spTextChecked := by
  refine T.f_text_checked.ok sc_text_checked (fun vs H Q E h => ?_) (fun cdv A outer s H vs Q E hr h => ?_)
  · obtain ⟨_, _, rfl, _⟩ := h; rfl
  · obtain ⟨ls, z, rfl, hz, q⟩ := h
    refine ⟨_, (pss_one (ps_try_as (i := 2) rfl rfl sc_text_checked.nd rfl rfl ⟨rfl, by decide, Or.inl T.g_LetterError⟩ takes0
   (fun W pn xe tk hp => (pss_one (ps_ret (pe_lst (pa_cons (pe_callR (ok_check_text T) (hr.mono (by decide)) T.o_check_text tk (pa_cons (pv 0) (pa_cons (pv 1) pa_nil))) pa_nil)))))
   (fun a oe cls d pn hz hf => PSs.exi (P := Caught K cls d) fun i hi => (pss_cons (ps_if (PW.pt (pw_or (pt_not (pt_val (pe_callB (call_isX hi.x T.clsB (hi.z hz) hf) (by rfl) T.nb_isinstance (by decide +kernel) (pa_cons (pv 2) (pa_cons (pe_globR (by rfl) T.g_BadText) pa_nil))))) (pw_or (pt_not (pt_val (pe_callB (call_isX hi.x T.clsB (hi.z hz) hf) (by rfl) T.nb_isinstance (by decide +kernel) (pa_cons (pv 2) (pa_cons (pe_globR (by rfl) T.g_AnytextError) pa_nil))))) (pw_or1 (pt_not (pt_val (pe_callB (call_isX hi.x T.clsB (hi.z hz) hf) (by rfl) T.nb_isinstance (by decide +kernel) (pa_cons (pv 2) (pa_cons (pe_blT (n := "ValueError") (by rfl) T.nb_ValueError (by decide +kernel)) pa_nil)))))))))
    (pss_one (ps_ret (pe_lst (pa_cons pe_str pa_nil))))
    pss_nil)
  (pss_cons (ps_if (pt_val (pe_callB (call_isX hi.x T.clsB (hi.z hz) hf) (by rfl) T.nb_isinstance (by decide +kernel) (pa_cons (pv 2) (pa_cons (pe_tup (pa_cons (pe_globR (by rfl) T.g_BadAlphabet) (pa_cons (pe_globR (by rfl) T.g_PatternError) (pa_cons (pe_globR (by rfl) T.g_SizeError) (pa_cons (pe_globR (by rfl) T.g_MachineError) (pa_cons (pe_globR (by rfl) T.g_ProgramError) (pa_cons (pe_globR (by rfl) T.g_RecordError) (pa_cons (pe_globR (by rfl) T.g_WorkshopError) pa_nil)))))))) pa_nil))))
    (pss_one (ps_ret (pe_lst (pa_cons pe_str pa_nil))))
    pss_nil)
  (pss_one (ps_ret (pe_lst (pa_cons pe_str (pa_cons (pe_xf hi.x.xf hi.x.nw (hi.z hz) hf (pv 2)) pa_nil)))))))))), ?_⟩
    walk_at "rd"
    refine ⟨ls, z, rfl, hz, fun g H1 e1 => ?_, fun g d H1 hd e1 => ?_⟩
    · walk_at "rd"
      refine ⟨by decide, fun p hp => q p _ (Evl.fresh_back e1 hp) (ex_upd e1 hp) ?_⟩
      rw [upd_same, saysL, if_pos g]
    · have X := T.x_BadText
      have hd1 : H1 d = some (.xd [("what", .str z)]) := e1 d _ upd_same
      have e0 : Ex H H1 := (Evl.Ex.new hd).trans e1
      refine ⟨true, PySem.W.exm_ref T.e_LetterError T.h_LetterError T.t_LetterError T.s_BadText_LetterError, fun _ a0 _ => ?_, fun h => by cases h⟩
      refine ⟨(T.C_BadText, d, T.a_init), ⟨rfl, rfl, X⟩, ?_⟩
      walk_at "rd"
      refine ⟨_, true, hd1, .inl ⟨_, _, rfl, .own _, kit_ref X T.i_BadText T.t_BadText T.s_BadText_BadText⟩, ?_⟩
      walk_at "rd"
      refine ⟨_, true, hd1, .inl ⟨_, _, rfl, .own _, kit_ref X T.i_AnytextError T.t_AnytextError T.s_BadText_AnytextError⟩, ?_⟩
      walk_at "rd"
      refine ⟨_, true, hd1, .inl ⟨_, _, rfl, .ty _, kit_bt (by decide +kernel) T.s_BadText_ValueError⟩, ?_⟩
      walk_at "rd"
      refine ⟨by show 7 ≤ sizeLine; decide, fun tp htp => ?_⟩
      have hd2 : (upd H1 tp (.tup [.ref T.C_BadAlphabet, .ref T.C_PatternError, .ref T.C_SizeError, .ref T.C_MachineError, .ref T.C_ProgramError, .ref T.C_RecordError, .ref T.C_WorkshopError])) d = some (.xd [("what", .str z)]) := by
        rw [upd_ne (ne_of_none hd1 htp), hd1]
      walk_at "rd"
      refine ⟨_, false, hd2, .inr ⟨tp, _, [.ref T.C_BadAlphabet, .ref T.C_PatternError, .ref T.C_SizeError, .ref T.C_MachineError, .ref T.C_ProgramError, .ref T.C_RecordError, .ref T.C_WorkshopError], rfl, upd_same,
        .cons (.own _) (.cons (.own _) (.cons (.own _) (.cons (.own _) (.cons (.own _) (.cons (.own _) (.cons (.own _) .nil)))))), ?_⟩, ?_⟩
      · exact kitAny_cons (kit_ref X T.i_BadAlphabet T.t_BadAlphabet T.s_BadText_BadAlphabet) (fun _ => kitAny_cons (kit_ref X T.i_PatternError T.t_PatternError T.s_BadText_PatternError) (fun _ => kitAny_cons (kit_ref X T.i_SizeError T.t_SizeError T.s_BadText_SizeError)
          (fun _ => kitAny_cons (kit_ref X T.i_MachineError T.t_MachineError T.s_BadText_MachineError) (fun _ => kitAny_cons (kit_ref X T.i_ProgramError T.t_ProgramError T.s_BadText_ProgramError) (fun _ => kitAny_cons (kit_ref X T.i_RecordError T.t_RecordError T.s_BadText_RecordError)
          (fun _ => kitAny_cons (kit_ref X T.i_WorkshopError T.t_WorkshopError T.s_BadText_WorkshopError) (fun _ => kitAny_nil) (fun h => by cases h)) (fun h => by cases h)) (fun h => by cases h)) (fun h => by cases h)) (fun h => by cases h)) (fun h => by cases h)) (fun h => by cases h)
      · walk_at "rd"
        refine ⟨rfl, rfl, d, _, _, rfl, hd2, rfl, ?_⟩
        walk_at "rd"
        refine ⟨by show 2 ≤ sizeLine; decide, fun p hp => q p _ (Evl.fresh_back (ex_upd e0 htp) hp) (ex_upd (ex_upd e0 htp) hp) ?_⟩
        rw [upd_same, saysL, if_neg g]
/-! ### the law -/
theorem saysL_flat (c : Prop) [Decidable c] {z : Str} (h : okS z) : (saysL c z).all flat1 = true := by
  unfold saysL
  by_cases hc : c
  · rw [if_pos hc]
    rfl
  · rw [if_neg hc]
    have e : flat1 (.str z) = true := h
    rw [List.all_cons, List.all_cons, e]
    decide +kernel
def spLaw (K : PySem.W.Frag) : Sp := fun vs H Q _ => ∃ (a : Addr) (ns : List Int), vs = [.ref a] ∧ SqL K H a (ns.map V.int) ∧ ns.length ≤ 63 ∧ ∀ H', Q (.bl true) H'
/-- the letters so far are good -/
def goodTo (z : Str) (i : Nat) : Prop := 1 ≤ z.length ∧ z.length ≤ 8 ∧ ∀ (j : Nat) c, j < i → z.cps.toList[j]? = some c → c ∈ PL.cps.toList ∧ c ∉ z.cps.toList.take j
noncomputable instance (z : Str) (i : Nat) : Decidable (goodTo z i) := Classical.propDecidable _
theorem goodTo_all {z : Str} : goodTo z z.length ↔ goodA z := by
  have zl : z.cps.toList.length = z.length := rfl
  constructor
  · rintro ⟨h1, h2, h3⟩
    have nd : z.cps.toList.Nodup := nodup_pre.mp fun j c hj => (h3 j c (by rw [← zl]; exact (List.getElem?_eq_some_iff.mp hj).1) hj).2
    refine ⟨h1, h2, fun c hc => ⟨?_, nodup_count.mpr nd c hc⟩⟩
    obtain ⟨j, hj⟩ := List.getElem?_of_mem hc
    exact (h3 j c (by rw [← zl]; exact (List.getElem?_eq_some_iff.mp hj).1) hj).1
  · rintro ⟨h1, h2, h3⟩
    have nd : z.cps.toList.Nodup := nodup_count.mp fun c hc => (h3 c hc).2
    exact ⟨h1, h2, fun j c _ hj => ⟨(h3 c (List.mem_of_getElem? hj)).1, nodup_pre.mpr nd j c hj⟩⟩
theorem goodTo_succ {z : Str} {i : Nat} {c : Nat} (hc : z.cps.toList[i]? = some c) : goodTo z (i + 1) ↔ goodTo z i ∧ c ∈ PL.cps.toList ∧ c ∉ z.cps.toList.take i := by
  constructor
  · rintro ⟨h1, h2, h3⟩
    exact ⟨⟨h1, h2, fun j d hj => h3 j d (by omega)⟩, h3 i c (by omega) hc⟩
  · rintro ⟨⟨h1, h2, h3⟩, h4⟩
    refine ⟨h1, h2, fun j d hj hd => ?_⟩
    by_cases e : j = i
    · subst e
      rw [hc] at hd
      rw [← Option.some.inj hd]
      exact h4
    · exact h3 j d (by omega) hd
abbrev lvLaw : Nat := 7
theorem ok_law (T : Txt K mg) : FnOk P w K mg base CX0 lvLaw T.a_law T.d_law ["script"] (spLaw K) := by
  refine T.f_law.ok sc_law (fun vs H Q E h => ?_) (fun cdv A outer s H vs Q E hr h => ?_)
  · obtain ⟨_, _, rfl, _⟩ := h; rfl
  · obtain ⟨a, ns, rfl, hS, hlen, q⟩ := h
    refine ⟨_, (pss_cons (ps_set (i := 1) sc_law.nd rfl (by first | exact Or.inl rfl | exact Or.inr rfl) pe_str)
  (pss_cons (ps_if (pt_cmpR (kNe K rfl hr.units) (pe_globS (by rfl) T.c_LETTERS) (pv 1) (by first | rfl | exact nomark _))
    (pss_one (ps_ret pe_bl))
    pss_nil)
  (pss_cons (ps_set (i := 2) sc_law.nd rfl (by first | exact Or.inl rfl | exact Or.inr rfl) (pe_callE (ok_state T) (hr.mono (by decide)) T.o_state (pa_cons (pv 0) (pa_cons pe_int (pa_cons pe_int pa_nil)))))
  (pss_cons (ps_for PassesOwn.never rfl (pi_range1 (by rfl) T.nb_range (pa_cons pe_int pa_nil)) (pg_name (i := 3) sc_law.nd rfl (by first | exact Or.inl rfl | exact Or.inr rfl))
    (pss_cons (ps_set (i := 4) sc_law.nd rfl (by first | exact Or.inl rfl | exact Or.inr rfl) (pe_callE (ok_string T) (hr.mono (by decide)) T.o_string (pa_cons (pv 2) (pa_cons (pv 1) (pa_cons pe_int pa_nil)))))
  (pss_cons (ps_set (i := 5) sc_law.nd rfl (by first | exact Or.inl rfl | exact Or.inr rfl) (pe_and (pe_cmpR op_leP pe_int (pe_callB (kLen K) (by rfl) T.nb_len (by decide +kernel) (pa_cons (pv 4) pa_nil)) (by first | rfl | exact nomark _)) (pe_one (pe_cmpR op_leP (pe_callB (kLen K) (by rfl) T.nb_len (by decide +kernel) (pa_cons (pv 4) pa_nil)) pe_int (by first | rfl | exact nomark _)))))
  (pss_cons (ps_for PassesOwn.never rfl (pi_range1 (by rfl) T.nb_range (pa_cons (pe_callB (kLen K) (by rfl) T.nb_len (by decide +kernel) (pa_cons (pv 4) pa_nil)) pa_nil)) (pg_name (i := 6) sc_law.nd rfl (by first | exact Or.inl rfl | exact Or.inr rfl))
    (pss_one (ps_set (i := 5) sc_law.nd rfl (by first | exact Or.inl rfl | exact Or.inr rfl) (pe_and (pv 5) (pe_and (pe_cmpR (kIn K) (pe_ix (kIx K) (pv 4) (pv 6) (fun _ _ => rfl)) (pv 1) (by first | rfl | exact nomark _)) (pe_one (pe_cmpR (kNotIn K) (pe_ix (kIx K) (pv 4) (pv 6) (fun _ _ => rfl)) (pe_slice (kSl K) (pv 4) po_none (po_some (pv 6))) (by first | rfl | exact nomark _))))))))
  (pss_cons (ps_set (i := 7) sc_law.nd rfl (by first | exact Or.inl rfl | exact Or.inr rfl) (pe_ifExp (pt_val (pv 5)) (pe_lst (pa_cons pe_non pa_nil)) (pe_lst (pa_cons pe_str (pa_cons (pv 4) pa_nil)))))
  (pss_cons (ps_if (PW.pt (pw_or (pt_cmpR (kNe K rfl hr.units) (pe_callE (ok_checked T) (hr.mono (by decide)) T.o_checked (pa_cons (pv 4) pa_nil)) (pv 7) (by first | rfl | exact nomark _)) (pw_or1 (pt_cmpR (kNe K rfl hr.units) (pe_callE (ok_checked T) (hr.mono (by decide)) T.o_checked (pa_cons (pv 4) pa_nil)) (pv 7) (by first | rfl | exact nomark _)))))
    (pss_one (ps_ret pe_bl))
    pss_nil)
  (pss_one (ps_if (pt_val (pv 5))
    (pss_one (ps_for PassesOwn.never rfl (pi_range1 (by rfl) T.nb_range (pa_cons pe_int pa_nil)) (pg_name (i := 8) sc_law.nd rfl (by first | exact Or.inl rfl | exact Or.inr rfl))
    (pss_cons (ps_set (i := 9) sc_law.nd rfl (by first | exact Or.inl rfl | exact Or.inr rfl) (pe_callE (ok_string T) (hr.mono (by decide)) T.o_string (pa_cons (pv 2) (pa_cons (pv 4) (pa_cons pe_int pa_nil)))))
  (pss_cons (ps_set (i := 10) sc_law.nd rfl (by first | exact Or.inl rfl | exact Or.inr rfl) (pe_cmpR (kEq K rfl hr.units) (pe_lc (own := [("letter", 11)]) (g := gName 11)  (by rfl) sc_law.nd (kAny K rfl (pv 9)) (blkOk_by (own := [("letter", 11)]) (N := ["script", "pool", "state", "k", "letters", "good", "at", "due", "turn", "text", "fits", "letter", "long"]) (sc := defScope s_law) (by decide +kernel)) (fun _ _ _ _ _ => (pg_name (i := 11) sc_law.nd rfl (by first | exact Or.inl rfl | exact Or.inr rfl))) (fun _ _ _ _ _ => (pts_one (pt_cmpR (kNotIn K) (pv 11) (pv 4) (by first | rfl | exact nomark _)))) (fun _ _ _ _ _ => (pv 11))) (pe_lst pa_nil) (by first | rfl | exact nomark _)))
  (pss_cons (ps_set (i := 7) sc_law.nd rfl (by first | exact Or.inl rfl | exact Or.inr rfl) (pe_ifExp (pt_val (pv 10)) (pe_lst (pa_cons pe_non pa_nil)) (pe_lst (pa_cons pe_str (pa_cons (pv 9) pa_nil)))))
  (pss_one (ps_if (PW.pt (pw_or (pt_cmpR (kNe K rfl hr.units) (pe_callE (ok_text_checked T) (hr.mono (by decide)) T.o_text_checked (pa_cons (pv 4) (pa_cons (pv 9) pa_nil))) (pv 7) (by first | rfl | exact nomark _)) (pw_or1 (pt_cmpR (kNe K rfl hr.units) (pe_callB call_reprP (by rfl) T.nb_repr (by decide +kernel) (pa_cons (pe_callE (ok_is_text T) (hr.mono (by decide)) T.o_is_text (pa_cons (pv 4) (pa_cons (pv 9) pa_nil))) pa_nil)) (pe_callB call_reprP (by rfl) T.nb_repr (by decide +kernel) (pa_cons (pv 10) pa_nil)) (by first | rfl | exact nomark _)))))
    (pss_one (ps_ret pe_bl))
    pss_nil)))))))
    pss_nil))))))))
  (pss_cons (ps_set (i := 12) sc_law.nd rfl (by first | exact Or.inl rfl | exact Or.inr rfl) (pe_slice (kSl K) (pv 1) po_none (po_some (pe_op (kAdd K) pe_int (pe_callE (ok_next T) (hr.mono (by decide)) T.o_next (pa_cons (pv 2) (pa_cons pe_int pa_nil)))))))
  (pss_one (ps_ret (pe_cmpR (kEq K rfl hr.units) (pe_callE (ok_checked T) (hr.mono (by decide)) T.o_checked (pa_cons (pv 12) pa_nil)) (pe_lst (pa_cons pe_str (pa_cons (pv 12) pa_nil))) (by first | rfl | exact nomark _))))))))), ?_⟩
    walk_at "rc"
    refine rd_seq ?_
    walk_at "rc"
    refine rd_iteN (fun h => absurd rfl h) (fun _ => ?_)
    walk_at "rc"
    refine ⟨a, ns, 0, 3, rfl, hS, by decide, by decide, by decide, by decide, fun p H1 hp0 e1 S1 => ?_⟩
    walk_at "rc"
    refine rd_cut (fun σ H' => (∃ k3 k4 k5 k6 k7 k8 k9 k10 k11 k12 : Option V, σ = [some (.ref a), some (.str PL), some (.ref p), k3, k4, k5, k6, k7, k8, k9, k10, k11, k12]) ∧ StAt H' p) (fun N hN => ?_) ?_
    · walk_at "rc"
      refine ⟨6, rfl, by decide, by decide, fo_range (n := 6) (fun i σ H' => (∃ k3 k4 k5 k6 k7 k8 k9 k10 k11 k12 : Option V, σ = [some (.ref a), some (.str PL), some (.ref p), k3, k4, k5, k6, k7, k8, k9, k10, k11, k12]) ∧ StAt H' p)
        ⟨⟨none, none, none, none, none, none, none, none, none, none, rfl⟩, S1⟩ ?_ hN⟩
      rintro i σ H2 hi ⟨⟨k3, k4, k5, k6, k7, k8, k9, k10, k11, k12, rfl⟩, S2⟩
      walk_at "rc"
      refine ⟨p, PL, 11, rfl, by decide, by decide, by rw [pl_len]; decide, by rw [pl_len]; decide, okS_PL, S2, fun z H3 hz oz S3 _ _ => ?_⟩
      have hz2 : z.length ≤ sizeLine := Nat.le_trans (show z.length ≤ 100 by omega) (by decide)
      have zl : z.cps.toList.length = z.length := rfl
      walk_at "rc"
      refine rd_val (v := .bl (decide (goodTo z 0))) (val_is (val_andV (a := decide (1 ≤ (z.length : Int))) (b := decide ((z.length : Int) ≤ 8)) (fun Q q => ?_) (fun _ Q q => ?_)) ?_) ?_
      · walk_at "rc"
        refine rd_lenS hz2 ?_
        walk_at "rc"
        exact q
      · walk_at "rc"
        refine rd_lenS hz2 ?_
        walk_at "rc"
        exact q
      · refine congrArg V.bl ?_
        rw [← Bool.decide_and]
        exact decide_eq_decide.mpr ⟨fun h => ⟨by omega, by omega, fun j c hj => by omega⟩, fun h => ⟨by have := h.1; omega, by have := h.2.1; omega⟩⟩
      walk_at "rc"
      refine rd_cut (fun σ H' => (∃ k6 : Option V, σ = [some (.ref a), some (.str PL), some (.ref p), some (.int (i : Int)), some (.str z), some (.bl (decide (goodA z))), k6, k7, k8, k9, k10, k11, k12]) ∧ H' = H3) (fun N hN => ?_) ?_
      · walk_at "rc"
        refine rd_lenS hz2 ?_
        walk_at "rc"
        refine ⟨z.length, rfl, by omega, by omega, fo_range (n := z.length) (fun j σ H' => (∃ k6 : Option V, σ = [some (.ref a), some (.str PL), some (.ref p), some (.int (i : Int)), some (.str z), some (.bl (decide (goodTo z j))), k6, k7, k8, k9, k10, k11, k12]) ∧ H' = H3) ⟨⟨k6, rfl⟩, rfl⟩ ?_ ?_⟩
        · rintro j σ H' hj ⟨⟨k6, rfl⟩, rfl⟩
          have hj2 : j < z.cps.toList.length := hj
          have hc := List.getElem?_eq_getElem hj2
          walk_at "rc"
          refine rd_val (v := .bl (decide (goodTo z (j + 1)))) (val_is (val_andV (a := decide (goodTo z j)) (fun Q q => ?_) (fun _ => val_andV (a := decide (z.cps.toList[j] ∈ PL.cps.toList)) (b := !decide (z.cps.toList[j] ∈ z.cps.toList.take j)) (fun Q q => ?_) (fun _ Q q => ?_))) ?_) ?_
          · walk_at "rc"
            exact q
          · walk_at "rc"
            refine rd_ixS hz2 (atI_nat hc) ?_
            walk_at "rc"
            exact q
          · walk_at "rc"
            refine rd_ixS hz2 (atI_nat hc) ?_
            walk_at "rc"
            refine rd_slS hz2 ?_
            walk_at "rc"
            rw [cut_to z j (Nat.le_of_lt hj)]
            exact q
          · refine congrArg V.bl ?_
            rw [← decide_not, ← Bool.decide_and, ← Bool.decide_and]
            exact decide_eq_decide.mpr (goodTo_succ hc).symm
          · walk_at "rc"
            exact ⟨⟨_, rfl⟩, rfl⟩
        · rintro σ H' ⟨⟨k6, rfl⟩, rfl⟩
          refine hN _ _ ⟨⟨k6, ?_⟩, rfl⟩
          rw [decide_eq_decide.mpr goodTo_all]
      rintro σ H' ⟨⟨k6, rfl⟩, rfl⟩
      have due : ∀ (sl : Nat) (y : Str) (b : Bool) (c : Prop) [Decidable c] (ix : Nat) (σ : L2.St) (Hc : Hp) (N : VK), σ[sl]? = some (some (.bl b)) → (b = true ↔ c) → σ[ix]? = some (some (.str y)) → (∀ pd, Hc pd = none → N (.ref pd) (upd Hc pd (.lst (saysL c y)))) →
          tIf (tB (tVar sl)) (tLst (tCons (tC .non) tNil)) (tLst (tCons (tC (.str "refused")) (tCons (tVar ix) tNil))) σ Hc N := by
        intro sl y b c _ ix σ Hc N e1 hb e2 hN
        refine ⟨_, e1, b, rfl, ?_⟩
        refine rd_ite (fun g => ?_) (fun g => ?_)
        · refine ⟨by show 1 ≤ sizeLine; decide, fun pd hpd => ?_⟩
          have e := hN pd hpd
          rw [saysL, if_pos (hb.mp g)] at e
          exact e
        · refine ⟨_, e2, by show 2 ≤ sizeLine; decide, fun pd hpd => ?_⟩
          have e := hN pd hpd
          rw [saysL, if_neg (fun z => by rw [hb.mpr z] at g; cases g)] at e
          exact e
      with_reducible refine rd_seqA (rd_asg ?_)
      refine due 5 z _ (goodA z) 4 _ _ _ rfl decide_eq_true_iff rfl fun pd hpd => ?_
      have Fz := saysL_flat (goodA z) oz
      have Spd := S3.ex (Evl.Ex.new (o := .lst (saysL (goodA z) z)) hpd)
      walk_at "rc"
      refine rd_seq ?_
      walk_at "rc"
      refine ⟨z, rfl, by omega, fun p1 H4 hp1 e4 h4 => ?_⟩
      walk_at "rc"
      refine rd_neL (SqL.of h4) (SqL.of (e4 _ _ upd_same)) Fz ?_
      walk_at "rc"
      refine ⟨z, rfl, by omega, fun p2 H5 hp2 e5 h5 => ?_⟩
      walk_at "rc"
      refine rd_neL (SqL.of h5) (SqL.of (e5 _ _ (e4 _ _ upd_same))) Fz ?_
      have S5 := Spd.ex (e4.trans e5)
      walk_at "rc"
      refine rd_iteD (fun g => ?_) (fun g => ?_)
      · walk_at "rc"
        refine ⟨4, rfl, by decide, by decide, fo_range (n := 4) (fun j σ H' => (∃ k7 k8 k9 k10 k11 k12 : Option V, σ = [some (.ref a), some (.str PL), some (.ref p), some (.int (i : Int)), some (.str z), some (.bl (decide (goodA z))), k6, k7, k8, k9, k10, k11, k12]) ∧ StAt H' p)
          ⟨⟨_, _, _, _, _, _, rfl⟩, S5⟩ ?_ ?_⟩
        · rintro j σ H6 hj ⟨⟨k7, k8, k9, k10, k11, k12, rfl⟩, S6⟩
          walk_at "rc"
          refine ⟨p, z, 12, rfl, by decide, by decide, by have := g.1; omega, by omega, oz, S6, fun y H7 hy oy S7 _ _ => ?_⟩
          walk_at "rc"
          have hy2 : y.cps.size < 100000 := by
            have : y.length = y.cps.size := rfl
            omega
          refine rd_anyS (fun Q q => ⟨_, rfl, q⟩) ?_
          refine lc_pure (n := y.cps.size) (xs := fun i => .str ⟨#[y.cps.toList.getD i 0]⟩) (f := fun i => !decide (y.cps.toList.getD i 0 ∈ z.cps.toList)) (v := fun i => .str ⟨#[y.cps.toList.getD i 0]⟩) walk_str (fun i H x H' hi y => ?_) (fun _ _ => True.intro) hy2 (fun i Hc hi e Q q => ?_) (fun i Hc hi e _ Q q => ?_) fun L hL => ?_
          · obtain ⟨rfl, c, e, rfl⟩ := y
            rw [← Array.getElem?_toList] at e
            exact ⟨rfl, by rw [List.getD_eq_getElem?_getD, e]; rfl⟩
          · walk_at "rc"
            exact q
          · walk_at "rc"
            exact q
          · have eg := given_eq y.cps.toList (fun c => !decide (c ∈ z.cps.toList)) (fun c => V.str ⟨#[c]⟩) (fun i => !decide (y.cps.toList.getD i 0 ∈ z.cps.toList)) (fun i => .str ⟨#[y.cps.toList.getD i 0]⟩) (fun i x hx => by rw [List.getD_eq_getElem?_getD, hx]; rfl) (fun i x hx => by rw [List.getD_eq_getElem?_getD, hx]; rfl) y.cps.size (by simp)
            rw [show y.cps.size = y.cps.toList.length from rfl, List.take_length] at eg
            have fl : ((y.cps.toList.filter fun c => !decide (c ∈ z.cps.toList)).map fun c => V.str ⟨#[c]⟩).all flat1 = true := by
              rw [List.all_map, List.all_eq_true]
              intro c hc
              exact okS_one oy (List.mem_filter.mp hc).1
            have em : (((y.cps.toList.filter fun c => !decide (c ∈ z.cps.toList)).map fun c => V.str ⟨#[c]⟩).isEmpty = true) ↔ isT z y := by
              rw [List.isEmpty_iff, List.map_eq_nil_iff, List.filter_eq_nil_iff]
              exact ⟨fun h c hc => by simpa using h c hc, fun h c hc => by simpa using h c hc⟩
            have eg' : Evl.given y.cps.size (fun i => !decide (y.cps.toList.getD i 0 ∈ z.cps.toList)) (fun i => V.str ⟨#[y.cps.toList.getD i 0]⟩) = (y.cps.toList.filter fun c => !decide (c ∈ z.cps.toList)).map fun c => V.str ⟨#[c]⟩ := eg
            rw [eg']
            generalize (y.cps.toList.filter fun c => !decide (c ∈ z.cps.toList)).map (fun c => V.str ⟨#[c]⟩) = ds at fl em
            have SL := S7.ex (Evl.Ex.new (o := .lst ds) hL)
            walk_at "rc"
            refine ⟨by decide, fun L2 hL2 => ?_⟩
            refine rd_eqNil (SqL.of (at_upd hL2 upd_same)) (SqL.of upd_same) fl ?_
            walk_at "rc"
            have Sm := SL.ex (Evl.Ex.new (o := .lst []) hL2)
            have Fy := saysL_flat (isT z y) oy
            refine due 10 y _ (isT z y) 9 _ _ _ rfl em rfl fun pe hpe => ?_
            have S8 := Sm.ex (Evl.Ex.new (o := .lst (saysL (isT z y) y)) hpe)
            walk_at "rc"
            refine ⟨z, y, rfl, by omega, fun p3 H8 hp3 e8 h8 => ?_⟩
            walk_at "rc"
            refine rd_neL (SqL.of h8) (SqL.of (e8 _ _ upd_same)) Fy ?_
            walk_at "rc"
            refine ⟨z, y, rfl, by omega, fun H9 e9 => ?_⟩
            walk_at "rc"
            refine rd_reprB ?_
            walk_at "rc"
            refine rd_reprB ?_
            have eb : ds.isEmpty = decide (isT z y) := by
              rw [Bool.eq_iff_iff, decide_eq_true_iff]
              exact em
            rw [eb]
            walk_at "rc"
            refine rd_iteN (fun h => absurd rfl h) (fun _ => ?_)
            exact ⟨⟨_, _, _, _, _, _, rfl⟩, S8.ex (e8.trans e9)⟩
        · rintro σ H6 ⟨⟨k7, k8, k9, k10, k11, k12, rfl⟩, S6⟩
          exact ⟨⟨_, _, _, _, _, _, _, _, _, _, rfl⟩, S6⟩
      · walk_at "rc"
        exact ⟨⟨_, _, _, _, _, _, _, _, _, _, rfl⟩, S5⟩
    · rintro σ H2 ⟨⟨k3, k4, k5, k6, k7, k8, k9, k10, k11, k12, rfl⟩, S2⟩
      walk_at "rc"
      refine ⟨p, 61, rfl, by decide, S2, fun r H3 r0 r1 S3 _ _ => ?_⟩
      walk_at "rc"
      refine rd_slS (by rw [pl_len]; decide) ?_
      obtain ⟨n, rfl⟩ := Int.eq_ofNat_of_zero_le r0
      have e9 : (9 : Int) + (n : Int) = ((9 + n : Nat) : Int) := by omega
      rw [e9]
      have hn : 9 + n ≤ PL.length := by rw [pl_len]; omega
      have ct := cut_to PL (9 + n) hn
      have cl : (cutS PL none (some ((9 + n : Nat) : Int))).length = 9 + n := by
        rw [TL.len_tl]
        show (cutS PL none (some ((9 + n : Nat) : Int))).cps.toList.length = 9 + n
        rw [ct, List.length_take]
        exact Nat.min_eq_left hn
      have oc : okS (cutS PL none (some ((9 + n : Nat) : Int))) := okS_sub okS_PL fun c hc => by
        rw [ct] at hc
        exact List.mem_of_mem_take hc
      generalize cutS PL none (some ((9 + n : Nat) : Int)) = lg at cl oc
      walk_at "rc"
      have ng : ¬ goodA lg := fun g => by have := g.2.1; omega
      refine ⟨lg, rfl, by omega, fun p1 H4 hp1 e4 h4 => ?_⟩
      walk_at "rc"
      refine ⟨by show 2 ≤ sizeLine; decide, fun p2 hp2 => ?_⟩
      have Fl := saysL_flat (goodA lg) oc
      rw [saysL, if_neg ng] at Fl h4
      refine rd_eqL (SqL.of (at_upd hp2 h4)) (SqL.of upd_same) Fl ?_
      exact q _
end
theorem all_mk {l : PySem.W.OpenLaw} {w : World} {K : PySem.W.Frag} {h : Heap} {mg : Str → Option Value} {fa : Addr} (X : K.In h) (G : h.Ns mainGlobals mg) (hfa : mg "law" = some (.ref fa))
    {a_check_alphabet : Addr} {od_check_alphabet an_check_alphabet : Option Addr} {sl_check_alphabet : Array (Option Value)} {oc_check_alphabet kV_check_alphabet dc_check_alphabet pm_check_alphabet cd_check_alphabet ct_check_alphabet : Value}
    {a_is_text : Addr} {od_is_text an_is_text : Option Addr} {sl_is_text : Array (Option Value)} {oc_is_text kV_is_text dc_is_text pm_is_text cd_is_text ct_is_text : Value}
    {a_check_text : Addr} {od_check_text an_check_text : Option Addr} {sl_check_text : Array (Option Value)} {oc_check_text kV_check_text dc_check_text pm_check_text cd_check_text ct_check_text : Value}
    {a_cell : Addr} {od_cell an_cell : Option Addr} {sl_cell : Array (Option Value)} {oc_cell kV_cell dc_cell pm_cell cd_cell ct_cell : Value}
    {a_numbers : Addr} {od_numbers an_numbers : Option Addr} {sl_numbers : Array (Option Value)} {oc_numbers kV_numbers dc_numbers pm_numbers cd_numbers ct_numbers : Value}
    {a_state : Addr} {od_state an_state : Option Addr} {sl_state : Array (Option Value)} {oc_state kV_state dc_state pm_state cd_state ct_state : Value}
    {a_next : Addr} {od_next an_next : Option Addr} {sl_next : Array (Option Value)} {oc_next kV_next dc_next pm_next cd_next ct_next : Value}
    {a_string : Addr} {od_string an_string : Option Addr} {sl_string : Array (Option Value)} {oc_string kV_string dc_string pm_string cd_string ct_string : Value}
    {a_checked : Addr} {od_checked an_checked : Option Addr} {sl_checked : Array (Option Value)} {oc_checked kV_checked dc_checked pm_checked cd_checked ct_checked : Value}
    {a_text_checked : Addr} {od_text_checked an_text_checked : Option Addr} {sl_text_checked : Array (Option Value)} {oc_text_checked kV_text_checked dc_text_checked pm_text_checked cd_text_checked ct_text_checked : Value}
    {a_law : Addr} {od_law an_law : Option Addr} {sl_law : Array (Option Value)} {oc_law kV_law dc_law pm_law cd_law ct_law : Value}
    {C_AnytextError C_LetterError C_PatternError C_SizeError C_MachineError C_ProgramError C_WorkshopError C_RecordError C_BadAlphabet C_BadText : Addr}
    {a_init T_init : Addr} {od_init an_init : Option Addr} {sl_init : Array (Option Value)} {oc_init kV_init dc_init pm_init cd_init ct_init : Value} {dd_init : Option Addr} {nn_init : Nat} {sm_init : Array (Option Value)} {oc2_init : Value}
    {nm_BadAlphabet q_BadAlphabet : Str} {N_BadAlphabet : Addr} {bs_BadAlphabet : List Value} {sn_BadAlphabet : List Str} {sb_BadAlphabet : List Value} {ab_BadAlphabet : Bool} {col_BadAlphabet : Option Bool} {dd_BadAlphabet : Option Addr} {m0_BadAlphabet m1_BadAlphabet m2_BadAlphabet m3_BadAlphabet m5_BadAlphabet : Option Value}
    {nm_BadText q_BadText : Str} {N_BadText : Addr} {bs_BadText : List Value} {sn_BadText : List Str} {sb_BadText : List Value} {ab_BadText : Bool} {col_BadText : Option Bool} {dd_BadText : Option Addr} {m0_BadText m1_BadText m2_BadText m3_BadText m5_BadText : Option Value}
    {t_LETTERS : Tok}
    {t_MOST_LETTERS : Tok}
    (n_check_alphabet : PySem.W.nsIn K mainGlobals "check_alphabet" = some (some (.ref a_check_alphabet)))
    (l_check_alphabet : K.lookup a_check_alphabet = some ⟨oc_check_alphabet, od_check_alphabet, .func (PySem.W.fnOf "check_alphabet" "check_alphabet" (defArgs s_check_alphabet) (defBody s_check_alphabet) (defScope s_check_alphabet) .none kV_check_alphabet dc_check_alphabet pm_check_alphabet an_check_alphabet cd_check_alphabet ct_check_alphabet), sl_check_alphabet⟩)
    (c_check_alphabet : PySem.W.codeIn K cd_check_alphabet "check_alphabet" = true)
    (k_check_alphabet : PySem.W.keepIn K (.ref a_check_alphabet) = true)
    (n_is_text : PySem.W.nsIn K mainGlobals "is_text" = some (some (.ref a_is_text)))
    (l_is_text : K.lookup a_is_text = some ⟨oc_is_text, od_is_text, .func (PySem.W.fnOf "is_text" "is_text" (defArgs s_is_text) (defBody s_is_text) (defScope s_is_text) .none kV_is_text dc_is_text pm_is_text an_is_text cd_is_text ct_is_text), sl_is_text⟩)
    (c_is_text : PySem.W.codeIn K cd_is_text "is_text" = true)
    (k_is_text : PySem.W.keepIn K (.ref a_is_text) = true)
    (n_check_text : PySem.W.nsIn K mainGlobals "check_text" = some (some (.ref a_check_text)))
    (l_check_text : K.lookup a_check_text = some ⟨oc_check_text, od_check_text, .func (PySem.W.fnOf "check_text" "check_text" (defArgs s_check_text) (defBody s_check_text) (defScope s_check_text) .none kV_check_text dc_check_text pm_check_text an_check_text cd_check_text ct_check_text), sl_check_text⟩)
    (c_check_text : PySem.W.codeIn K cd_check_text "check_text" = true)
    (k_check_text : PySem.W.keepIn K (.ref a_check_text) = true)
    (n_cell : PySem.W.nsIn K mainGlobals "_law_cell" = some (some (.ref a_cell)))
    (l_cell : K.lookup a_cell = some ⟨oc_cell, od_cell, .func (PySem.W.fnOf "_law_cell" "_law_cell" (defArgs s_cell) (defBody s_cell) (defScope s_cell) .none kV_cell dc_cell pm_cell an_cell cd_cell ct_cell), sl_cell⟩)
    (c_cell : PySem.W.codeIn K cd_cell "_law_cell" = true)
    (k_cell : PySem.W.keepIn K (.ref a_cell) = true)
    (n_numbers : PySem.W.nsIn K mainGlobals "_law_numbers" = some (some (.ref a_numbers)))
    (l_numbers : K.lookup a_numbers = some ⟨oc_numbers, od_numbers, .func (PySem.W.fnOf "_law_numbers" "_law_numbers" (defArgs s_numbers) (defBody s_numbers) (defScope s_numbers) .none kV_numbers dc_numbers pm_numbers an_numbers cd_numbers ct_numbers), sl_numbers⟩)
    (c_numbers : PySem.W.codeIn K cd_numbers "_law_numbers" = true)
    (k_numbers : PySem.W.keepIn K (.ref a_numbers) = true)
    (n_state : PySem.W.nsIn K mainGlobals "_law_state" = some (some (.ref a_state)))
    (l_state : K.lookup a_state = some ⟨oc_state, od_state, .func (PySem.W.fnOf "_law_state" "_law_state" (defArgs s_state) (defBody s_state) (defScope s_state) .none kV_state dc_state pm_state an_state cd_state ct_state), sl_state⟩)
    (c_state : PySem.W.codeIn K cd_state "_law_state" = true)
    (k_state : PySem.W.keepIn K (.ref a_state) = true)
    (n_next : PySem.W.nsIn K mainGlobals "_law_next" = some (some (.ref a_next)))
    (l_next : K.lookup a_next = some ⟨oc_next, od_next, .func (PySem.W.fnOf "_law_next" "_law_next" (defArgs s_next) (defBody s_next) (defScope s_next) .none kV_next dc_next pm_next an_next cd_next ct_next), sl_next⟩)
    (c_next : PySem.W.codeIn K cd_next "_law_next" = true)
    (k_next : PySem.W.keepIn K (.ref a_next) = true)
    (n_string : PySem.W.nsIn K mainGlobals "_law_string" = some (some (.ref a_string)))
    (l_string : K.lookup a_string = some ⟨oc_string, od_string, .func (PySem.W.fnOf "_law_string" "_law_string" (defArgs s_string) (defBody s_string) (defScope s_string) .none kV_string dc_string pm_string an_string cd_string ct_string), sl_string⟩)
    (c_string : PySem.W.codeIn K cd_string "_law_string" = true)
    (k_string : PySem.W.keepIn K (.ref a_string) = true)
    (n_checked : PySem.W.nsIn K mainGlobals "_law_checked" = some (some (.ref a_checked)))
    (l_checked : K.lookup a_checked = some ⟨oc_checked, od_checked, .func (PySem.W.fnOf "_law_checked" "_law_checked" (defArgs s_checked) (defBody s_checked) (defScope s_checked) .none kV_checked dc_checked pm_checked an_checked cd_checked ct_checked), sl_checked⟩)
    (c_checked : PySem.W.codeIn K cd_checked "_law_checked" = true)
    (k_checked : PySem.W.keepIn K (.ref a_checked) = true)
    (n_text_checked : PySem.W.nsIn K mainGlobals "_law_text_checked" = some (some (.ref a_text_checked)))
    (l_text_checked : K.lookup a_text_checked = some ⟨oc_text_checked, od_text_checked, .func (PySem.W.fnOf "_law_text_checked" "_law_text_checked" (defArgs s_text_checked) (defBody s_text_checked) (defScope s_text_checked) .none kV_text_checked dc_text_checked pm_text_checked an_text_checked cd_text_checked ct_text_checked), sl_text_checked⟩)
    (c_text_checked : PySem.W.codeIn K cd_text_checked "_law_text_checked" = true)
    (k_text_checked : PySem.W.keepIn K (.ref a_text_checked) = true)
    (n_law : PySem.W.nsIn K mainGlobals "law" = some (some (.ref a_law)))
    (l_law : K.lookup a_law = some ⟨oc_law, od_law, .func (PySem.W.fnOf "law" "law" (defArgs s_law) (defBody s_law) (defScope s_law) .none kV_law dc_law pm_law an_law cd_law ct_law), sl_law⟩)
    (c_law : PySem.W.codeIn K cd_law "law" = true)
    (k_law : PySem.W.keepIn K (.ref a_law) = true)
    (n_AnytextError : PySem.W.nsIn K mainGlobals "AnytextError" = some (some (.ref C_AnytextError)))
    (n_LetterError : PySem.W.nsIn K mainGlobals "LetterError" = some (some (.ref C_LetterError)))
    (n_PatternError : PySem.W.nsIn K mainGlobals "PatternError" = some (some (.ref C_PatternError)))
    (n_SizeError : PySem.W.nsIn K mainGlobals "SizeError" = some (some (.ref C_SizeError)))
    (n_MachineError : PySem.W.nsIn K mainGlobals "MachineError" = some (some (.ref C_MachineError)))
    (n_ProgramError : PySem.W.nsIn K mainGlobals "ProgramError" = some (some (.ref C_ProgramError)))
    (n_WorkshopError : PySem.W.nsIn K mainGlobals "WorkshopError" = some (some (.ref C_WorkshopError)))
    (n_RecordError : PySem.W.nsIn K mainGlobals "RecordError" = some (some (.ref C_RecordError)))
    (n_BadAlphabet : PySem.W.nsIn K mainGlobals "BadAlphabet" = some (some (.ref C_BadAlphabet)))
    (n_BadText : PySem.W.nsIn K mainGlobals "BadText" = some (some (.ref C_BadText)))
    (ini_BadAlphabet : PySem.W.findIn K (.ref C_BadAlphabet) "__init__" = some (some (.ref a_init)))
    (l_init : K.lookup a_init = some ⟨oc_init, od_init, .func (PySem.W.fnOf "__init__" "AnytextError.__init__" (defArgs s_init) (defBody s_init) (defScope s_init) (.ref T_init) kV_init dc_init pm_init an_init cd_init ct_init), sl_init⟩)
    (c_init : PySem.W.codeIn K cd_init "AnytextError.__init__" = true)
    (k_init : PySem.W.keepIn K (.ref a_init) = true)
    (ti_init : PySem.W.typeIn K (.ref a_init) = some (.type "function"))
    (lt_init : K.lookup T_init = some ⟨oc2_init, dd_init, .seq #[.none] nn_init, sm_init⟩)
    (i_AnytextError : PySem.W.isClsIn K C_AnytextError = true)
    (t_AnytextError : PySem.W.typeIn K (.ref C_AnytextError) = some (.type "type"))
    (e_AnytextError : PySem.W.subIn K (.ref C_AnytextError) (.type "BaseException") = some true)
    (h_AnytextError : PySem.W.hasDictIn K C_AnytextError = true)
    (i_BadAlphabet : PySem.W.isClsIn K C_BadAlphabet = true)
    (t_BadAlphabet : PySem.W.typeIn K (.ref C_BadAlphabet) = some (.type "type"))
    (e_BadAlphabet : PySem.W.subIn K (.ref C_BadAlphabet) (.type "BaseException") = some true)
    (h_BadAlphabet : PySem.W.hasDictIn K C_BadAlphabet = true)
    (i_BadText : PySem.W.isClsIn K C_BadText = true)
    (t_BadText : PySem.W.typeIn K (.ref C_BadText) = some (.type "type"))
    (e_BadText : PySem.W.subIn K (.ref C_BadText) (.type "BaseException") = some true)
    (h_BadText : PySem.W.hasDictIn K C_BadText = true)
    (i_LetterError : PySem.W.isClsIn K C_LetterError = true)
    (t_LetterError : PySem.W.typeIn K (.ref C_LetterError) = some (.type "type"))
    (e_LetterError : PySem.W.subIn K (.ref C_LetterError) (.type "BaseException") = some true)
    (h_LetterError : PySem.W.hasDictIn K C_LetterError = true)
    (i_MachineError : PySem.W.isClsIn K C_MachineError = true)
    (t_MachineError : PySem.W.typeIn K (.ref C_MachineError) = some (.type "type"))
    (e_MachineError : PySem.W.subIn K (.ref C_MachineError) (.type "BaseException") = some true)
    (h_MachineError : PySem.W.hasDictIn K C_MachineError = true)
    (i_PatternError : PySem.W.isClsIn K C_PatternError = true)
    (t_PatternError : PySem.W.typeIn K (.ref C_PatternError) = some (.type "type"))
    (e_PatternError : PySem.W.subIn K (.ref C_PatternError) (.type "BaseException") = some true)
    (h_PatternError : PySem.W.hasDictIn K C_PatternError = true)
    (i_ProgramError : PySem.W.isClsIn K C_ProgramError = true)
    (t_ProgramError : PySem.W.typeIn K (.ref C_ProgramError) = some (.type "type"))
    (e_ProgramError : PySem.W.subIn K (.ref C_ProgramError) (.type "BaseException") = some true)
    (h_ProgramError : PySem.W.hasDictIn K C_ProgramError = true)
    (i_RecordError : PySem.W.isClsIn K C_RecordError = true)
    (t_RecordError : PySem.W.typeIn K (.ref C_RecordError) = some (.type "type"))
    (e_RecordError : PySem.W.subIn K (.ref C_RecordError) (.type "BaseException") = some true)
    (h_RecordError : PySem.W.hasDictIn K C_RecordError = true)
    (i_SizeError : PySem.W.isClsIn K C_SizeError = true)
    (t_SizeError : PySem.W.typeIn K (.ref C_SizeError) = some (.type "type"))
    (e_SizeError : PySem.W.subIn K (.ref C_SizeError) (.type "BaseException") = some true)
    (h_SizeError : PySem.W.hasDictIn K C_SizeError = true)
    (i_WorkshopError : PySem.W.isClsIn K C_WorkshopError = true)
    (t_WorkshopError : PySem.W.typeIn K (.ref C_WorkshopError) = some (.type "type"))
    (e_WorkshopError : PySem.W.subIn K (.ref C_WorkshopError) (.type "BaseException") = some true)
    (h_WorkshopError : PySem.W.hasDictIn K C_WorkshopError = true)
    (l_BadAlphabet : K.lookup C_BadAlphabet = some (excClassObj nm_BadAlphabet q_BadAlphabet C_BadAlphabet N_BadAlphabet bs_BadAlphabet [.ref C_LetterError, .ref C_AnytextError, .type "ValueError", .type "Exception", .type "BaseException", .type "object"] true sn_BadAlphabet sb_BadAlphabet ab_BadAlphabet col_BadAlphabet dd_BadAlphabet m0_BadAlphabet m1_BadAlphabet m2_BadAlphabet m3_BadAlphabet m5_BadAlphabet "ValueError.__new__"))
    (sa_BadAlphabet : PySem.W.findIn K (.ref C_BadAlphabet) "__setattr__" = some (some (.builtin "object.__setattr__")))
    (ga_BadAlphabet : PySem.W.findIn K (.ref C_BadAlphabet) "__getattribute__" = some (some (.builtin "BaseException.__getattribute__")))
    (gg_BadAlphabet : PySem.W.findIn K (.ref C_BadAlphabet) "__getattr__" = some none)
    (nw_BadAlphabet : PySem.W.findIn K (.ref C_BadAlphabet) "what" = some none)
    (cc_BadAlphabet : PySem.W.findIn K (.ref C_BadAlphabet) "__class__" = some (some (.builtin "object.__class__")))
    (mo_BadAlphabet : PySem.W.mroIn K C_BadAlphabet (.type "object") = some true)
    (se_BadAlphabet : PySem.W.subIn K (.ref C_BadAlphabet) (.ref C_BadAlphabet) = some true)
    (kC_BadAlphabet : PySem.W.keepIn K (.ref C_BadAlphabet) = true)
    (s_BadAlphabet_AnytextError : PySem.W.subIn K (.ref C_BadAlphabet) (.ref C_AnytextError) = some true)
    (s_BadAlphabet_BadText : PySem.W.subIn K (.ref C_BadAlphabet) (.ref C_BadText) = some false)
    (s_BadAlphabet_LetterError : PySem.W.subIn K (.ref C_BadAlphabet) (.ref C_LetterError) = some true)
    (s_BadAlphabet_MachineError : PySem.W.subIn K (.ref C_BadAlphabet) (.ref C_MachineError) = some false)
    (s_BadAlphabet_PatternError : PySem.W.subIn K (.ref C_BadAlphabet) (.ref C_PatternError) = some false)
    (s_BadAlphabet_ProgramError : PySem.W.subIn K (.ref C_BadAlphabet) (.ref C_ProgramError) = some false)
    (s_BadAlphabet_RecordError : PySem.W.subIn K (.ref C_BadAlphabet) (.ref C_RecordError) = some false)
    (s_BadAlphabet_SizeError : PySem.W.subIn K (.ref C_BadAlphabet) (.ref C_SizeError) = some false)
    (s_BadAlphabet_WorkshopError : PySem.W.subIn K (.ref C_BadAlphabet) (.ref C_WorkshopError) = some false)
    (s_BadAlphabet_ValueError : PySem.W.subIn K (.ref C_BadAlphabet) (.type "ValueError") = some true)
    (l_BadText : K.lookup C_BadText = some (excClassObj nm_BadText q_BadText C_BadText N_BadText bs_BadText [.ref C_LetterError, .ref C_AnytextError, .type "ValueError", .type "Exception", .type "BaseException", .type "object"] true sn_BadText sb_BadText ab_BadText col_BadText dd_BadText m0_BadText m1_BadText m2_BadText m3_BadText m5_BadText "ValueError.__new__"))
    (sa_BadText : PySem.W.findIn K (.ref C_BadText) "__setattr__" = some (some (.builtin "object.__setattr__")))
    (ga_BadText : PySem.W.findIn K (.ref C_BadText) "__getattribute__" = some (some (.builtin "BaseException.__getattribute__")))
    (gg_BadText : PySem.W.findIn K (.ref C_BadText) "__getattr__" = some none)
    (nw_BadText : PySem.W.findIn K (.ref C_BadText) "what" = some none)
    (ini_BadText : PySem.W.findIn K (.ref C_BadText) "__init__" = some (some (.ref a_init)))
    (cc_BadText : PySem.W.findIn K (.ref C_BadText) "__class__" = some (some (.builtin "object.__class__")))
    (mo_BadText : PySem.W.mroIn K C_BadText (.type "object") = some true)
    (se_BadText : PySem.W.subIn K (.ref C_BadText) (.ref C_BadText) = some true)
    (kC_BadText : PySem.W.keepIn K (.ref C_BadText) = true)
    (s_BadText_AnytextError : PySem.W.subIn K (.ref C_BadText) (.ref C_AnytextError) = some true)
    (s_BadText_BadAlphabet : PySem.W.subIn K (.ref C_BadText) (.ref C_BadAlphabet) = some false)
    (s_BadText_LetterError : PySem.W.subIn K (.ref C_BadText) (.ref C_LetterError) = some true)
    (s_BadText_MachineError : PySem.W.subIn K (.ref C_BadText) (.ref C_MachineError) = some false)
    (s_BadText_PatternError : PySem.W.subIn K (.ref C_BadText) (.ref C_PatternError) = some false)
    (s_BadText_ProgramError : PySem.W.subIn K (.ref C_BadText) (.ref C_ProgramError) = some false)
    (s_BadText_RecordError : PySem.W.subIn K (.ref C_BadText) (.ref C_RecordError) = some false)
    (s_BadText_SizeError : PySem.W.subIn K (.ref C_BadText) (.ref C_SizeError) = some false)
    (s_BadText_WorkshopError : PySem.W.subIn K (.ref C_BadText) (.ref C_WorkshopError) = some false)
    (s_BadText_ValueError : PySem.W.subIn K (.ref C_BadText) (.type "ValueError") = some true)
    (sp_B : PySem.W.specialIn K (.builtin "object.__class__") "__get__" = some (some (.builtin "getset_descriptor.__get__")))
    (tk_B : PySem.W.takesIn K (.builtin "object.__class__") = some true)
    (z_ValueError : PySem.W.nsIn K mainGlobals "ValueError" = some none)
    (z_abs : PySem.W.nsIn K mainGlobals "abs" = some none)
    (z_all : PySem.W.nsIn K mainGlobals "all" = some none)
    (z_int : PySem.W.nsIn K mainGlobals "int" = some none)
    (z_isinstance : PySem.W.nsIn K mainGlobals "isinstance" = some none)
    (z_len : PySem.W.nsIn K mainGlobals "len" = some none)
    (z_range : PySem.W.nsIn K mainGlobals "range" = some none)
    (z_repr : PySem.W.nsIn K mainGlobals "repr" = some none)
    (k_LETTERS : PySem.W.nsIn K mainGlobals "LETTERS" = some (some (.str "abcdefghijklmnopqrstuvwxyzABCDEFGHIJKLMNOPQRSTUVWXYZ0123456789<>=:_@#" t_LETTERS)))
    (k_MOST_LETTERS : PySem.W.nsIn K mainGlobals "MOST_LETTERS" = some (some (.int 8 t_MOST_LETTERS)))
    : ∃ fd : FuncData, (∀ (s : Shared) (v : Value), BindsTo s fd ⟨[v], []⟩ [("script", v)]) ∧ ∀ base : Heap, K.In base → base.Ns mainGlobals mg → FnOk l.prog w K mg base CX0 lvLaw fa fd ["script"] (spLaw K) := by
  have e := hfa.symm.trans (PySem.W.mg_of X G n_law)
  cases e
  have f_check_alphabet := fun_mk (st := s_check_alphabet) l_check_alphabet c_check_alphabet k_check_alphabet
  have b_check_alphabet := f_check_alphabet.binds (ps := ["letters"]) fun _ _ _ _ _ _ us hl => match us, hl with | [_], _ => rfl
  have f_is_text := fun_mk (st := s_is_text) l_is_text c_is_text k_is_text
  have b_is_text := f_is_text.binds (ps := ["letters", "text"]) fun _ _ _ _ _ _ us hl => match us, hl with | [_, _], _ => rfl
  have f_check_text := fun_mk (st := s_check_text) l_check_text c_check_text k_check_text
  have b_check_text := f_check_text.binds (ps := ["letters", "text"]) fun _ _ _ _ _ _ us hl => match us, hl with | [_, _], _ => rfl
  have f_cell := fun_mk (st := s_cell) l_cell c_cell k_cell
  have b_cell := f_cell.binds (ps := ["script", "k"]) fun _ _ _ _ _ _ us hl => match us, hl with | [_, _], _ => rfl
  have f_numbers := fun_mk (st := s_numbers) l_numbers c_numbers k_numbers
  have b_numbers := f_numbers.binds (ps := ["cell", "many"]) fun _ _ _ _ _ _ us hl => match us, hl with | [_, _], _ => rfl
  have f_state := fun_mk (st := s_state) l_state c_state k_state
  have b_state := f_state.binds (ps := ["script", "start", "many"]) fun _ _ _ _ _ _ us hl => match us, hl with | [_, _, _], _ => rfl
  have f_next := fun_mk (st := s_next) l_next c_next k_next
  have b_next := f_next.binds (ps := ["state", "many"]) fun _ _ _ _ _ _ us hl => match us, hl with | [_, _], _ => rfl
  have f_string := fun_mk (st := s_string) l_string c_string k_string
  have b_string := f_string.binds (ps := ["state", "pool", "most"]) fun _ _ _ _ _ _ us hl => match us, hl with | [_, _, _], _ => rfl
  have f_checked := fun_mk (st := s_checked) l_checked c_checked k_checked
  have b_checked := f_checked.binds (ps := ["letters"]) fun _ _ _ _ _ _ us hl => match us, hl with | [_], _ => rfl
  have f_text_checked := fun_mk (st := s_text_checked) l_text_checked c_text_checked k_text_checked
  have b_text_checked := f_text_checked.binds (ps := ["letters", "text"]) fun _ _ _ _ _ _ us hl => match us, hl with | [_, _], _ => rfl
  have f_law := fun_mk (st := s_law) l_law c_law k_law
  have b_law := f_law.binds (ps := ["script"]) fun _ _ _ _ _ _ us hl => match us, hl with | [_], _ => rfl
  have fI : FunD K "__init__" "AnytextError.__init__" (defArgs s_init) (defBody s_init) (defScope s_init) [.non] [] a_init _ := ⟨⟨oc_init, od_init, .ref T_init, kV_init, dc_init, pm_init, an_init, cd_init, ct_init, sl_init, rfl, l_init, c_init, .inr ⟨(fun z => nomatch z), T_init, _, [.none], nn_init, rfl, lt_init, rfl, .cons rfl .nil⟩, .inl rfl⟩, k_init⟩
  have bI0 := fI.binds1 (ps := ["self", "what"]) 2 1 (fun z => nomatch z) rfl fun T kV doc pm an cdv ct us its hu hi => match us, hu, its, hi with | [_, _], _, [_], _ => ⟨_, rfl, rfl⟩
  have bI : Binds K (PySem.W.fnOf "__init__" "AnytextError.__init__" (defArgs s_init) (defBody s_init) (defScope s_init) (.ref T_init) kV_init dc_init pm_init an_init cd_init ct_init) ["self", "what"] [] := by
    obtain ⟨ds, hv, hb⟩ := bI0
    cases hv
    exact hb
  let T : Txt K mg := {
    a_check_alphabet := a_check_alphabet, d_check_alphabet := _, f_check_alphabet := f_check_alphabet, o_check_alphabet := ⟨PySem.W.mg_of X G n_check_alphabet, k_check_alphabet, b_check_alphabet⟩,
    a_is_text := a_is_text, d_is_text := _, f_is_text := f_is_text, o_is_text := ⟨PySem.W.mg_of X G n_is_text, k_is_text, b_is_text⟩,
    a_check_text := a_check_text, d_check_text := _, f_check_text := f_check_text, o_check_text := ⟨PySem.W.mg_of X G n_check_text, k_check_text, b_check_text⟩,
    a_cell := a_cell, d_cell := _, f_cell := f_cell, o_cell := ⟨PySem.W.mg_of X G n_cell, k_cell, b_cell⟩,
    a_numbers := a_numbers, d_numbers := _, f_numbers := f_numbers, o_numbers := ⟨PySem.W.mg_of X G n_numbers, k_numbers, b_numbers⟩,
    a_state := a_state, d_state := _, f_state := f_state, o_state := ⟨PySem.W.mg_of X G n_state, k_state, b_state⟩,
    a_next := a_next, d_next := _, f_next := f_next, o_next := ⟨PySem.W.mg_of X G n_next, k_next, b_next⟩,
    a_string := a_string, d_string := _, f_string := f_string, o_string := ⟨PySem.W.mg_of X G n_string, k_string, b_string⟩,
    a_checked := a_checked, d_checked := _, f_checked := f_checked, o_checked := ⟨PySem.W.mg_of X G n_checked, k_checked, b_checked⟩,
    a_text_checked := a_text_checked, d_text_checked := _, f_text_checked := f_text_checked, o_text_checked := ⟨PySem.W.mg_of X G n_text_checked, k_text_checked, b_text_checked⟩,
    a_law := _, d_law := _, f_law := f_law, o_law := ⟨PySem.W.mg_of X G n_law, k_law, b_law⟩,
    a_init := a_init, d_init := _, T_init := T_init, f_init := fI, tI := ti_init, bI := bI,
    C_AnytextError := C_AnytextError,
    C_LetterError := C_LetterError,
    C_PatternError := C_PatternError,
    C_SizeError := C_SizeError,
    C_MachineError := C_MachineError,
    C_ProgramError := C_ProgramError,
    C_WorkshopError := C_WorkshopError,
    C_RecordError := C_RecordError,
    C_BadAlphabet := C_BadAlphabet,
    C_BadText := C_BadText,
    g_AnytextError := PySem.W.mg_of X G n_AnytextError,
    g_BadAlphabet := PySem.W.mg_of X G n_BadAlphabet,
    g_BadText := PySem.W.mg_of X G n_BadText,
    g_LetterError := PySem.W.mg_of X G n_LetterError,
    g_MachineError := PySem.W.mg_of X G n_MachineError,
    g_PatternError := PySem.W.mg_of X G n_PatternError,
    g_ProgramError := PySem.W.mg_of X G n_ProgramError,
    g_RecordError := PySem.W.mg_of X G n_RecordError,
    g_SizeError := PySem.W.mg_of X G n_SizeError,
    g_WorkshopError := PySem.W.mg_of X G n_WorkshopError,
    i_AnytextError := i_AnytextError, t_AnytextError := t_AnytextError, e_AnytextError := e_AnytextError, h_AnytextError := h_AnytextError,
    i_BadAlphabet := i_BadAlphabet, t_BadAlphabet := t_BadAlphabet, e_BadAlphabet := e_BadAlphabet, h_BadAlphabet := h_BadAlphabet,
    i_BadText := i_BadText, t_BadText := t_BadText, e_BadText := e_BadText, h_BadText := h_BadText,
    i_LetterError := i_LetterError, t_LetterError := t_LetterError, e_LetterError := e_LetterError, h_LetterError := h_LetterError,
    i_MachineError := i_MachineError, t_MachineError := t_MachineError, e_MachineError := e_MachineError, h_MachineError := h_MachineError,
    i_PatternError := i_PatternError, t_PatternError := t_PatternError, e_PatternError := e_PatternError, h_PatternError := h_PatternError,
    i_ProgramError := i_ProgramError, t_ProgramError := t_ProgramError, e_ProgramError := e_ProgramError, h_ProgramError := h_ProgramError,
    i_RecordError := i_RecordError, t_RecordError := t_RecordError, e_RecordError := e_RecordError, h_RecordError := h_RecordError,
    i_SizeError := i_SizeError, t_SizeError := t_SizeError, e_SizeError := e_SizeError, h_SizeError := h_SizeError,
    i_WorkshopError := i_WorkshopError, t_WorkshopError := t_WorkshopError, e_WorkshopError := e_WorkshopError, h_WorkshopError := h_WorkshopError,
    x_BadAlphabet := ⟨⟨⟨nm_BadAlphabet, q_BadAlphabet, N_BadAlphabet, bs_BadAlphabet, _, sn_BadAlphabet, sb_BadAlphabet, ab_BadAlphabet, col_BadAlphabet, dd_BadAlphabet, m0_BadAlphabet, m1_BadAlphabet, m2_BadAlphabet, m3_BadAlphabet, m5_BadAlphabet, l_BadAlphabet, by rfl⟩, sa_BadAlphabet, e_BadAlphabet, t_BadAlphabet, kC_BadAlphabet⟩, ⟨ga_BadAlphabet, gg_BadAlphabet, e_BadAlphabet, h_BadAlphabet⟩, nw_BadAlphabet, ini_BadAlphabet, i_BadAlphabet, cc_BadAlphabet, mo_BadAlphabet, se_BadAlphabet⟩,
    s_BadAlphabet_AnytextError := s_BadAlphabet_AnytextError,
    s_BadAlphabet_BadAlphabet := se_BadAlphabet,
    s_BadAlphabet_BadText := s_BadAlphabet_BadText,
    s_BadAlphabet_LetterError := s_BadAlphabet_LetterError,
    s_BadAlphabet_MachineError := s_BadAlphabet_MachineError,
    s_BadAlphabet_PatternError := s_BadAlphabet_PatternError,
    s_BadAlphabet_ProgramError := s_BadAlphabet_ProgramError,
    s_BadAlphabet_RecordError := s_BadAlphabet_RecordError,
    s_BadAlphabet_SizeError := s_BadAlphabet_SizeError,
    s_BadAlphabet_WorkshopError := s_BadAlphabet_WorkshopError,
    s_BadAlphabet_ValueError := s_BadAlphabet_ValueError,
    x_BadText := ⟨⟨⟨nm_BadText, q_BadText, N_BadText, bs_BadText, _, sn_BadText, sb_BadText, ab_BadText, col_BadText, dd_BadText, m0_BadText, m1_BadText, m2_BadText, m3_BadText, m5_BadText, l_BadText, by rfl⟩, sa_BadText, e_BadText, t_BadText, kC_BadText⟩, ⟨ga_BadText, gg_BadText, e_BadText, h_BadText⟩, nw_BadText, ini_BadText, i_BadText, cc_BadText, mo_BadText, se_BadText⟩,
    s_BadText_AnytextError := s_BadText_AnytextError,
    s_BadText_BadAlphabet := s_BadText_BadAlphabet,
    s_BadText_BadText := se_BadText,
    s_BadText_LetterError := s_BadText_LetterError,
    s_BadText_MachineError := s_BadText_MachineError,
    s_BadText_PatternError := s_BadText_PatternError,
    s_BadText_ProgramError := s_BadText_ProgramError,
    s_BadText_RecordError := s_BadText_RecordError,
    s_BadText_SizeError := s_BadText_SizeError,
    s_BadText_WorkshopError := s_BadText_WorkshopError,
    s_BadText_ValueError := s_BadText_ValueError,
    clsB := ⟨sp_B, tk_B⟩,
    nb_ValueError := PySem.W.mg_none_of X G z_ValueError,
    nb_abs := PySem.W.mg_none_of X G z_abs,
    nb_all := PySem.W.mg_none_of X G z_all,
    nb_int := PySem.W.mg_none_of X G z_int,
    nb_isinstance := PySem.W.mg_none_of X G z_isinstance,
    nb_len := PySem.W.mg_none_of X G z_len,
    nb_range := PySem.W.mg_none_of X G z_range,
    nb_repr := PySem.W.mg_none_of X G z_repr,
    t_LETTERS := t_LETTERS, c_LETTERS := PySem.W.mg_of X G k_LETTERS,
    t_MOST_LETTERS := t_MOST_LETTERS, c_MOST_LETTERS := PySem.W.mg_of X G k_MOST_LETTERS }
  exact ⟨T.d_law, fun s v => .of_eq rfl, fun base _ _ => ok_law T⟩
end AT
open PySem PySem.W PyProof.Rows
set_option maxRecDepth 100000 in
set_option maxHeartbeats 0 in
theorem PySem.Challenge.cw_anytext_k01_alphabets_holds : PySem.Challenge.rw_anytext_k01_alphabets.Holds := by
  w_on; o_law; k_head; (case hw => w_witness2)
  k_fill
  refine L2.walk_ofK (l := PySem.Challenge.rw_anytext_k01_alphabets) (n := 63) (k := AT.lvLaw) (x := "script") (CX := L2.CX0) (sp := AT.spLaw) rfl (by decide) rfl ⟨rfl, by decide, by decide⟩ (fun w h Y => PySem.W.kIn_of Y) ?F (fun _ _ a ns hl _ hS => ⟨a, ns, rfl, hS, hl, fun _ => rfl⟩) fun _ _ _ _ z => z
  case F =>
    intro w mg fa h KX G hmg
    refine' AT.all_mk KX G hmg ?n_check_alphabet ?l_check_alphabet ?c_check_alphabet ?k_check_alphabet ?n_is_text ?l_is_text ?c_is_text ?k_is_text ?n_check_text ?l_check_text ?c_check_text ?k_check_text ?n_cell ?l_cell ?c_cell ?k_cell ?n_numbers ?l_numbers ?c_numbers ?k_numbers ?n_state ?l_state ?c_state ?k_state ?n_next ?l_next ?c_next ?k_next ?n_string ?l_string ?c_string ?k_string ?n_checked ?l_checked ?c_checked ?k_checked ?n_text_checked ?l_text_checked ?c_text_checked ?k_text_checked ?n_law ?l_law ?c_law ?k_law ?n_AnytextError ?n_LetterError ?n_PatternError ?n_SizeError ?n_MachineError ?n_ProgramError ?n_WorkshopError ?n_RecordError ?n_BadAlphabet ?n_BadText ?ini_BadAlphabet ?l_init ?c_init ?k_init ?ti_init ?lt_init ?i_AnytextError ?t_AnytextError ?e_AnytextError ?h_AnytextError ?i_BadAlphabet ?t_BadAlphabet ?e_BadAlphabet ?h_BadAlphabet ?i_BadText ?t_BadText ?e_BadText ?h_BadText ?i_LetterError ?t_LetterError ?e_LetterError ?h_LetterError ?i_MachineError ?t_MachineError ?e_MachineError ?h_MachineError ?i_PatternError ?t_PatternError ?e_PatternError ?h_PatternError ?i_ProgramError ?t_ProgramError ?e_ProgramError ?h_ProgramError ?i_RecordError ?t_RecordError ?e_RecordError ?h_RecordError ?i_SizeError ?t_SizeError ?e_SizeError ?h_SizeError ?i_WorkshopError ?t_WorkshopError ?e_WorkshopError ?h_WorkshopError ?l_BadAlphabet ?sa_BadAlphabet ?ga_BadAlphabet ?gg_BadAlphabet ?nw_BadAlphabet ?cc_BadAlphabet ?mo_BadAlphabet ?se_BadAlphabet ?kC_BadAlphabet ?s_BadAlphabet_AnytextError ?s_BadAlphabet_BadText ?s_BadAlphabet_LetterError ?s_BadAlphabet_MachineError ?s_BadAlphabet_PatternError ?s_BadAlphabet_ProgramError ?s_BadAlphabet_RecordError ?s_BadAlphabet_SizeError ?s_BadAlphabet_WorkshopError ?s_BadAlphabet_ValueError ?l_BadText ?sa_BadText ?ga_BadText ?gg_BadText ?nw_BadText ?ini_BadText ?cc_BadText ?mo_BadText ?se_BadText ?kC_BadText ?s_BadText_AnytextError ?s_BadText_BadAlphabet ?s_BadText_LetterError ?s_BadText_MachineError ?s_BadText_PatternError ?s_BadText_ProgramError ?s_BadText_RecordError ?s_BadText_SizeError ?s_BadText_WorkshopError ?s_BadText_ValueError ?sp_B ?tk_B ?z_ValueError ?z_abs ?z_all ?z_int ?z_isinstance ?z_len ?z_range ?z_repr ?k_LETTERS ?k_MOST_LETTERS
    (case n_check_alphabet => k_is); (case l_check_alphabet => k_is); (case c_check_alphabet => k_is); (case k_check_alphabet => k_is); (case n_is_text => k_is); (case l_is_text => k_is)
    (case c_is_text => k_is); (case k_is_text => k_is); (case n_check_text => k_is); (case l_check_text => k_is); (case c_check_text => k_is); (case k_check_text => k_is)
    (case n_cell => k_is); (case l_cell => k_is); (case c_cell => k_is); (case k_cell => k_is); (case n_numbers => k_is); (case l_numbers => k_is)
    (case c_numbers => k_is); (case k_numbers => k_is); (case n_state => k_is); (case l_state => k_is); (case c_state => k_is); (case k_state => k_is)
    (case n_next => k_is); (case l_next => k_is); (case c_next => k_is); (case k_next => k_is); (case n_string => k_is); (case l_string => k_is)
    (case c_string => k_is); (case k_string => k_is); (case n_checked => k_is); (case l_checked => k_is); (case c_checked => k_is); (case k_checked => k_is)
    (case n_text_checked => k_is); (case l_text_checked => k_is); (case c_text_checked => k_is); (case k_text_checked => k_is); (case n_law => k_is); (case l_law => k_is)
    (case c_law => k_is); (case k_law => k_is); (case n_AnytextError => k_is); (case n_LetterError => k_is); (case n_PatternError => k_is); (case n_SizeError => k_is)
    (case n_MachineError => k_is); (case n_ProgramError => k_is); (case n_WorkshopError => k_is); (case n_RecordError => k_is); (case n_BadAlphabet => k_is); (case n_BadText => k_is)
    (case ini_BadAlphabet => k_is); (case l_init => k_is); (case c_init => k_is); (case k_init => k_is); (case ti_init => k_is); (case lt_init => k_is)
    (case i_AnytextError => k_is); (case t_AnytextError => k_is); (case e_AnytextError => k_is); (case h_AnytextError => k_is); (case i_BadAlphabet => k_is); (case t_BadAlphabet => k_is)
    (case e_BadAlphabet => k_is); (case h_BadAlphabet => k_is); (case i_BadText => k_is); (case t_BadText => k_is); (case e_BadText => k_is); (case h_BadText => k_is)
    (case i_LetterError => k_is); (case t_LetterError => k_is); (case e_LetterError => k_is); (case h_LetterError => k_is); (case i_MachineError => k_is); (case t_MachineError => k_is)
    (case e_MachineError => k_is); (case h_MachineError => k_is); (case i_PatternError => k_is); (case t_PatternError => k_is); (case e_PatternError => k_is); (case h_PatternError => k_is)
    (case i_ProgramError => k_is); (case t_ProgramError => k_is); (case e_ProgramError => k_is); (case h_ProgramError => k_is); (case i_RecordError => k_is); (case t_RecordError => k_is)
    (case e_RecordError => k_is); (case h_RecordError => k_is); (case i_SizeError => k_is); (case t_SizeError => k_is); (case e_SizeError => k_is); (case h_SizeError => k_is)
    (case i_WorkshopError => k_is); (case t_WorkshopError => k_is); (case e_WorkshopError => k_is); (case h_WorkshopError => k_is); (case l_BadAlphabet => k_is); (case sa_BadAlphabet => k_is)
    (case ga_BadAlphabet => k_is); (case gg_BadAlphabet => k_is); (case nw_BadAlphabet => k_is); (case cc_BadAlphabet => k_is); (case mo_BadAlphabet => k_is); (case se_BadAlphabet => k_is)
    (case kC_BadAlphabet => k_is); (case s_BadAlphabet_AnytextError => k_is); (case s_BadAlphabet_BadText => k_is); (case s_BadAlphabet_LetterError => k_is); (case s_BadAlphabet_MachineError => k_is); (case s_BadAlphabet_PatternError => k_is)
    (case s_BadAlphabet_ProgramError => k_is); (case s_BadAlphabet_RecordError => k_is); (case s_BadAlphabet_SizeError => k_is); (case s_BadAlphabet_WorkshopError => k_is); (case s_BadAlphabet_ValueError => k_is); (case l_BadText => k_is)
    (case sa_BadText => k_is); (case ga_BadText => k_is); (case gg_BadText => k_is); (case nw_BadText => k_is); (case ini_BadText => k_is); (case cc_BadText => k_is)
    (case mo_BadText => k_is); (case se_BadText => k_is); (case kC_BadText => k_is); (case s_BadText_AnytextError => k_is); (case s_BadText_BadAlphabet => k_is); (case s_BadText_LetterError => k_is)
    (case s_BadText_MachineError => k_is); (case s_BadText_PatternError => k_is); (case s_BadText_ProgramError => k_is); (case s_BadText_RecordError => k_is); (case s_BadText_SizeError => k_is); (case s_BadText_WorkshopError => k_is)
    (case s_BadText_ValueError => k_is); (case sp_B => k_is); (case tk_B => k_is); (case z_ValueError => k_is); (case z_abs => k_is); (case z_all => k_is)
    (case z_int => k_is); (case z_isinstance => k_is); (case z_len => k_is); (case z_range => k_is); (case z_repr => k_is); (case k_LETTERS => k_is)
    (case k_MOST_LETTERS => k_is)

