import PyProof.Rows.All
import Wide.All
import OpenK.AllK
import Wide.FinOn
import HandS.ForMost
import HandS.ForExc
import HandS.Walk
import HandS.Evl
import HandS.ExcInit
import HandS.ExcField
import HandS.ExcIs
import HandS.IsInst
import HandS.RaiseMore
import HandS.TupAny
import HandS.TryOnly
import HandS.Defaults
import HandS.Steps
import KE.KExcIs
import HandS.TupMul
import PyProof.ReprRoads
import HandS.Replace
import KE.DataMinMax
import KE.DataCmp
import PyProof.StrBlock2
import HandS.Ends
import PySem.Challenge.RW_anytext_k07_machines
set_option Elab.async false
set_option linter.all false
set_option maxRecDepth 100000
set_option maxHeartbeats 4000000
/-! own words: readings step by step, operators by several kinds of values -/
namespace AT
open PySem PySem.Spec PyProof.Rows L2
abbrev Ex := Evl.Ex
section
variable {X : Cx} {f : Value → Value → Sem Value} {r r' : R2}
theorem OpR.or (h : OpR X f r) (h' : OpR X f r') : OpR X f (fun x y H Q => r x y H Q ∨ r' x y H Q) := by
  intro pins s σ H x y v u Q I rx ry q
  rcases q with q | q
  · exact h pins s σ H x y v u Q I rx ry q
  · exact h' pins s σ H x y v u Q I rx ry q
theorem CallR.or {f : Value} {r r' : List V → Hp → VK → Prop} (h : CallR X f r) (h' : CallR X f r') : CallR X f (fun x H Q => r x H Q ∨ r' x H Q) := by
  intro pins s σ H x us Q I rx q
  rcases q with q | q
  · exact h pins s σ H x us Q I rx q
  · exact h' pins s σ H x us Q I rx q
end
/-! ### operators -/
/-- + of ints, of texts, of lists -/
def oAdd (K : PySem.W.Frag) : R2 := fun x y H Q => (rI0 (fun i j => .int (i + j)) x y H Q) ∨ (∃ i j : Str, x = .str i ∧ y = .str j ∧ i.length + j.length ≤ sizeLine ∧ Q (.str (i ++ j)) H) ∨ rCat x y H Q ∨ rCatT K x y H Q
theorem op_addP {X : Cx} : OpR X (binaryOp .Add) (oAdd X.K) := OpR.or op_add (OpR.or op_add_str (OpR.or op_cat op_catT))
def oSub : R2 := rI0 fun i j => .int (i - j)
theorem op_subP {X : Cx} : OpR X (binaryOp .Sub) oSub := op_sub
def oMul : R2 := rI CMul fun i j => .int (i * j)
theorem op_mulP {X : Cx} : OpR X (binaryOp .Mult) oMul := op_mul
def oMod : R2 := rI (fun _ j => j ≠ 0) fun i j => .int (i.fmod j)
theorem op_modP {X : Cx} : OpR X (binaryOp .Mod) oMod := op_modN
def oDiv : R2 := rI CDivN fun i j => .int (i.fdiv j)
theorem op_divP {X : Cx} : OpR X (binaryOp .FloorDiv) oDiv := op_fdivN
def oPow : R2 := rI CPow fun i j => .int (i ^ j.toNat)
theorem op_powP {X : Cx} : OpR X (binaryOp .Pow) oPow := op_pow
def oLt : R2 := rI0 fun i j => .bl (decide (i < j))
def oLe : R2 := rI0 fun i j => .bl (decide (i ≤ j))
def oGt : R2 := rI0 fun i j => .bl (decide (j < i))
def oGe : R2 := rI0 fun i j => .bl (decide (j ≤ i))
theorem op_ltP {X : Cx} : OpR X (compareOp .Lt) oLt := op_lt
theorem op_leP {X : Cx} : OpR X (compareOp .LtE) oLe := op_le
theorem op_gtP {X : Cx} : OpR X (compareOp .Gt) oGt := op_gt
theorem op_geP {X : Cx} : OpR X (compareOp .GtE) oGe := op_ge
/-- == of ints, bools, texts; of data -/
def oEq (K : PySem.W.Frag) : R2 := fun x y H Q => rEq x y H Q ∨ rEqD K x y H Q
def oNe (K : PySem.W.Frag) : R2 := fun x y H Q => rNe x y H Q ∨ rNeD K x y H Q
theorem op_eqP {X : Cx} (hu : X.A.units + 64 < cLine) : OpR X (compareOp .Eq) (oEq X.K) := OpR.or op_eq (op_eqD hu)
theorem op_neP {X : Cx} (hu : X.A.units + 64 < cLine) : OpR X (compareOp .NotEq) (oNe X.K) := OpR.or op_ne (op_neD hu)

/-! ### reading, step by step -/
section rd
variable {K : PySem.W.Frag} {σ : L2.St} {H : Hp} {Q : VK} {QB : Bool → Hp → Prop} {QL : List V → Hp → Prop} {D : Ends} {ta tb tc te to : TE} {tt uu : TT} {tl : TA} {t u : TS} {g : TG} {i : Nat} {v w x y : V} {r r' : R2} {QS : L2.St → Hp → Prop}
theorem rd_seq (h : t { D with nx := u D } σ H) : tSeq t u D σ H := h
theorem rd_asg (h : te σ H fun x H1 => g x σ H1 D.nx) : tAsg te g D σ H := h
theorem rd_name (h : QS (σ.set i (some v)) H) : gName i v σ H QS := h
theorem rd_var (e : σ[i]? = some (some v)) (h : Q v H) : tVar i σ H Q := ⟨v, e, h⟩
theorem rd_c (h : Q v H) : tC v σ H Q := h
theorem rd_op (h : ta σ H fun x H1 => tb σ H1 fun y H2 => r x y H2 Q) : tOp r ta tb σ H Q := h
theorem rd_ret (h : te σ H D.rt) : tRet te D σ H := h
theorem rd_retN (h : D.rt .non H) : tRetN D σ H := h
theorem rd_if (h : tt σ H fun b H1 => if b = true then t D σ H1 else u D σ H1) : tIfS tt t u D σ H := h
theorem rd_ife (h : tt σ H fun b H1 => if b = true then ta σ H1 Q else tb σ H1 Q) : tIf tt ta tb σ H Q := h
theorem rd_next (h : D.nx σ H) : tNext D σ H := h
theorem rd_drop (h : te σ H fun _ H1 => D.nx σ H1) : tDrop te D σ H := h
theorem rd_test (h : te σ H fun x H' => ∃ k, x = .bl k ∧ QB k H') : tTest te σ H QB := h
theorem rd_tB (h : te σ H fun x H' => ∃ k, x = .bl k ∧ QB k H') : tB te σ H QB := h
theorem rd_bl {b : Bool} {P : Bool → Prop} (h : P b) : ∃ k, V.bl b = .bl k ∧ P k := ⟨b, rfl, h⟩
theorem rd_not (h : tt σ H fun c H1 => QB (!c) H1) : tNot tt σ H QB := h
theorem rd_and (h : tt σ H fun c H1 => if c = true then uu σ H1 QB else QB false H1) : tAnd tt uu σ H QB := h
theorem rd_or (h : tt σ H fun c H1 => if c = true then QB true H1 else uu σ H1 QB) : tOr tt uu σ H QB := h
theorem rd_nil (h : QL [] H) : tNil σ H QL := h
theorem rd_cons (h : ta σ H fun x H1 => tl σ H1 fun xs H2 => QL (x :: xs) H2) : tCons ta tl σ H QL := h
theorem rd_lst (h : tl σ H fun xs H1 => xs.length ≤ sizeLine ∧ ∀ p, H1 p = none → Q (.ref p) (upd H1 p (.lst xs))) : tLst tl σ H Q := h
theorem rd_tup (h : tl σ H fun xs H1 => xs.length ≤ sizeLine ∧ ∀ p, H1 p = none → Q (.ref p) (upd H1 p (.tup xs))) : tTup tl σ H Q := h
theorem rd_cb {rc : List V → Hp → VK → Prop} (h : tl σ H fun vs H1 => rc vs H1 Q) : tCB rc tl σ H Q := h
theorem rd_chain (h : ta σ H fun x H1 => tb σ H1 fun y H2 => r x y H2 fun z H3 => ∃ k, z = .bl k ∧ if k = true then tc σ H3 fun w H4 => r' y w H4 Q else Q (.bl false) H3) : tChain r r' ta tb tc σ H Q := h
theorem rd_call {sp : Sp} {dvs : List V} {E : XK} (h : tl σ H fun vs H1 => sp (vs ++ dvs) H1 Q E) : tCall sp dvs E tl σ H Q := h
theorem rd_iteT {A B : Prop} (h : A) : if true = true then A else B := iteT h
theorem rd_iteF {A B : Prop} (h : B) : if false = true then A else B := iteF h
theorem rd_itet {A B : Prop} {c : Bool} (e : c = true) (h : A) : if c = true then A else B := by rw [e]; exact iteT h
theorem rd_itef {A B : Prop} {c : Bool} (e : c = false) (h : B) : if c = true then A else B := by rw [e]; exact iteF h
theorem rd_ite {A B : Prop} {c : Bool} (h1 : c = true → A) (h2 : c = false → B) : if c = true then A else B := by
  cases c with
  | true => exact iteT (h1 rfl)
  | false => exact iteF (h2 rfl)
theorem rd_iteD {A B p : Prop} [Decidable p] (h1 : p → A) (h2 : ¬ p → B) : if decide p = true then A else B := rd_ite (fun e => h1 (of_decide_eq_true e)) fun e => h2 (of_decide_eq_false e)
theorem rd_iteN {A B p : Prop} [Decidable p] (h1 : ¬ p → A) (h2 : p → B) : if (!decide p) = true then A else B := rd_ite (fun e => h1 (by simpa using e)) fun e => h2 (by simpa using e)
/-! ints -/
variable {a b : Int}
theorem rd_addI (h : Q (.int (a + b)) H) : oAdd K (.int a) (.int b) H Q := .inl ⟨a, b, rfl, rfl, h⟩
theorem rd_subI (h : Q (.int (a - b)) H) : oSub (.int a) (.int b) H Q := ⟨a, b, rfl, rfl, h⟩
theorem rd_mulI (c : CMul a b) (h : Q (.int (a * b)) H) : oMul (.int a) (.int b) H Q := ⟨a, b, rfl, rfl, c, h⟩
theorem rd_modI (c : b ≠ 0) (h : Q (.int (a.fmod b)) H) : oMod (.int a) (.int b) H Q := ⟨a, b, rfl, rfl, c, h⟩
theorem rd_divI (c : CDivN a b) (h : Q (.int (a.fdiv b)) H) : oDiv (.int a) (.int b) H Q := ⟨a, b, rfl, rfl, c, h⟩
theorem rd_powI (c : CPow a b) (h : Q (.int (a ^ b.toNat)) H) : oPow (.int a) (.int b) H Q := ⟨a, b, rfl, rfl, c, h⟩
theorem rd_lt (h : Q (.bl (decide (a < b))) H) : oLt (.int a) (.int b) H Q := ⟨a, b, rfl, rfl, h⟩
theorem rd_le (h : Q (.bl (decide (a ≤ b))) H) : oLe (.int a) (.int b) H Q := ⟨a, b, rfl, rfl, h⟩
theorem rd_gt (h : Q (.bl (decide (b < a))) H) : oGt (.int a) (.int b) H Q := ⟨a, b, rfl, rfl, h⟩
theorem rd_ge (h : Q (.bl (decide (b ≤ a))) H) : oGe (.int a) (.int b) H Q := ⟨a, b, rfl, rfl, h⟩
theorem rd_eqI (h : Q (.bl (decide (a = b))) H) : oEq K (.int a) (.int b) H Q := .inl ⟨rfl, by
  have e : decide (V.int a = V.int b) = decide (a = b) := decide_eq_decide.mpr ⟨fun z => V.int.inj z, fun z => by rw [z]⟩
  rw [e]; exact h⟩
theorem rd_neI (h : Q (.bl (!decide (a = b))) H) : oNe K (.int a) (.int b) H Q := .inl ⟨rfl, by
  have e : decide (V.int a = V.int b) = decide (a = b) := decide_eq_decide.mpr ⟨fun z => V.int.inj z, fun z => by rw [z]⟩
  rw [e]; exact h⟩
theorem rd_eqS {x y : Str} (h : Q (.bl (decide (x = y))) H) : oEq K (.str x) (.str y) H Q := .inl ⟨rfl, by
  have e : decide (V.str x = V.str y) = decide (x = y) := decide_eq_decide.mpr ⟨fun z => V.str.inj z, fun z => by rw [z]⟩
  rw [e]; exact h⟩
theorem rd_neS {x y : Str} (h : Q (.bl (!decide (x = y))) H) : oNe K (.str x) (.str y) H Q := .inl ⟨rfl, by
  have e : decide (V.str x = V.str y) = decide (x = y) := decide_eq_decide.mpr ⟨fun z => V.str.inj z, fun z => by rw [z]⟩
  rw [e]; exact h⟩
theorem rd_addS {x y : Str} (c : x.length + y.length ≤ sizeLine) (h : Q (.str (x ++ y)) H) : oAdd K (.str x) (.str y) H Q := .inr (.inl ⟨x, y, rfl, rfl, c, h⟩)
theorem rd_cat {l m : Addr} {xs ys : List V} (h1 : H l = some (.lst xs)) (h2 : H m = some (.lst ys)) (c : xs.length + ys.length ≤ sizeLine) (h : ∀ p, H p = none → Q (.ref p) (upd H p (.lst (xs ++ ys)))) : oAdd K (.ref l) (.ref m) H Q := .inr (.inr (.inl ⟨l, m, xs, ys, rfl, rfl, h1, h2, c, h⟩))
/-! calls of built-ins -/
end rd
/-! ### heaps -/
theorem ex_upd {H0 H : Hp} {p : Addr} {o : HO} (e : Ex H0 H) (h : H p = none) : Ex H0 (upd H p o) := fun a u q => by
  rw [upd_ne (ne_of_none (e a u q) h)]
  exact e a u q
theorem sq_upd {K : PySem.W.Frag} {H : Hp} {a p : Addr} {o : HO} {xs : List V} (hp : H p = none) (h : SqL K H a xs) : SqL K (upd H p o) a xs := Evl.ex_l (Evl.Ex.new hp) h
theorem sqt_upd {K : PySem.W.Frag} {H : Hp} {a p : Addr} {o : HO} {xs : List V} (hp : H p = none) (h : SqT K H a xs) : SqT K (upd H p o) a xs := Evl.ex_t (Evl.Ex.new hp) h
theorem at_upd {H : Hp} {a p : Addr} {o u : HO} (hp : H p = none) (h : H a = some u) : upd H p o a = some u := by
  rw [upd_ne (ne_of_none h hp)]; exact h

/-! ### more operators: in, len, slices, what is walked, repr -/
section
variable {X : Cx}
def oIn (K : PySem.W.Frag) : R2 := fun x y H Q => (∃ (c : Nat) (z : Str), x = .str ⟨#[c]⟩ ∧ y = .str z ∧ Q (.bl (decide (c ∈ z.cps.toList))) H) ∨ rIn K false x y H Q
def oNotIn (K : PySem.W.Frag) : R2 := fun x y H Q => (∃ (c : Nat) (z : Str), x = .str ⟨#[c]⟩ ∧ y = .str z ∧ Q (.bl (!decide (c ∈ z.cps.toList))) H) ∨ rIn K true x y H Q
theorem op_inP : OpR X (compareOp .In) (oIn X.K) := OpR.or op_in_sign op_in_seq
theorem op_notInP : OpR X (compareOp .NotIn) (oNotIn X.K) := OpR.or op_notIn_sign op_notIn_seq
def cLen (K : PySem.W.Frag) : List V → Hp → VK → Prop := fun xs H Q => (∃ x n, xs = [x] ∧ LenV K x H n ∧ Q (.int n) H) ∨ ∃ a kvs, xs = [V.ref a] ∧ H a = some (.dK kvs) ∧ Q (.int kvs.length) H
theorem call_lenP : CallR X (.builtin "len") (cLen X.K) := CallR.or call_len call_lenD
def cInt : List V → Hp → VK → Prop := fun xs H Q => (∃ i, xs = [.int i] ∧ Q (.int i) H) ∨ ∃ k, xs = [.bl k] ∧ Q (.int (if k then 1 else 0)) H
theorem call_intP : CallR X (.type "int") cInt := call_int1
def cAbs : List V → Hp → VK → Prop := fun xs H Q => ∃ i, xs = [.int i] ∧ Q (.int (if i < 0 then -i else i)) H
theorem call_absP : CallR X (.builtin "abs") cAbs := call_abs
def oSl (K : PySem.W.Frag) : V → Option Int → Option Int → Hp → VK → Prop := fun x lo hi H Q => rSlL K x lo hi H Q ∨ rSlS x lo hi H Q ∨ rSlA K x lo hi H Q
theorem sl_P : SlR X (oSl X.K) := SlR.or sl_list (SlR.or sl_str sl_tupA)
theorem PI.or {tg iter : Expr} {w w' : TI} (h : PI X tg iter w) (h' : PI X tg iter w') : PI X tg iter (fun σ H R => w σ H R ∨ w' σ H R) :=
  ⟨fun pins s σ H R I q => q.elim (h.run pins s σ H R I) (h'.run pins s σ H R I)⟩
def iAny (K : PySem.W.Frag) (te : TE) : TI := fun σ H R => iList K te σ H R ∨ iTup K te σ H R ∨ iStr te σ H R
theorem pi_any {tg e : Expr} {te : TE} (he : PE X e te) : PI X tg e (iAny X.K te) := PI.or (pi_list he) (PI.or (pi_tup he) (pi_str he))
theorem call_repr_bl : CallR X (.builtin "repr") (fun xs H Q => ∃ b, xs = [.bl b] ∧ Q (.str (if b then "True" else "False")) H) := by
  intro pins s σ H xs us Q I r h
  obtain ⟨b, rfl, q⟩ := h
  obtain ⟨u, rfl, ru⟩ := vals1 r
  cases (show u = Value.bool b from ru)
  exact PySem.P.repr_of_bool ⟨.str _, H, I.tok _, ⟨_, rfl⟩, q⟩
def cRepr : List V → Hp → VK → Prop := fun xs H Q => (∃ i, xs = [.int i] ∧ i.natAbs.log2 < 1920 ∧ Q (.str (toString i)) H) ∨ ∃ b, xs = [.bl b] ∧ Q (.str (if b then "True" else "False")) H
theorem call_reprP : CallR X (.builtin "repr") cRepr := CallR.or SkE.call_repr_int call_repr_bl
end
/-! ### own defs -/
/-- the def named x stands at f; all its parameters are written at a call -/
structure Own (K : PySem.W.Frag) (mg : Str → Option Value) (x : Str) (f : Addr) (fd : FuncData) (ps : List Str) : Prop where
  g : mg x = some (.ref f)
  k : PySem.W.keepIn K (.ref f) = true
  b : Binds K fd ps []
section
variable {X : Cx} {k : Nat} {f : Addr} {fd : FuncData} {ps : List Str} {sp : Sp} {x : Str} {p pos : Pos} {e : Expr} {es : List Expr} {t : TA}
def tCalled (sp : Sp) (t : TA) : TE := fun σ H Q => t σ H fun vs H1 => sp vs H1 Q E0
/-- a call of a def that raises nothing -/
theorem pe_callE (F : FnOk X.prog X.w X.K X.mg X.base CX0 k f fd ps sp) (hr : Room k X.A) (O : Own X.K X.mg x f fd ps) (ha : PA X (e :: es) t) (hg : Gl X x := by rfl)
    (hdb : (x == ("__debug__" : Str)) = false := by decide) (he : starEach (e :: es) X.env = (false, eval e X.env) :: starEach es X.env := by rfl) (hpl : (backTo pos (starEach es X.env)).any (·.1) = false := by rfl) :
    PE X (.Call (.Name x p) (e :: es) [] pos) (tCalled sp t) := pe_callS (E := fun _ => E0) F hr hg O.g O.k O.b (fun _ _ _ _ _ _ _ h => h.elim) ha hdb he hpl
def tCalledR (sp : Sp) (W : WX) (t : TA) : TE := fun σ H Q => t σ H fun vs H1 => sp vs H1 Q fun c d H2 => W c d σ H2
/-- a call of a def that may raise -/
theorem pe_callR {W : WX} (F : FnOk X.prog X.w X.K X.mg X.base (L2.CX X.prog X.w) k f fd ps sp) (hr : Room k X.A) (O : Own X.K X.mg x f fd ps) (tk : Takes X W) (ha : PA X (e :: es) t) (hg : Gl X x := by rfl)
    (hdb : (x == ("__debug__" : Str)) = false := by decide) (he : starEach (e :: es) X.env = (false, eval e X.env) :: starEach es X.env := by rfl) (hpl : (backTo pos (starEach es X.env)).any (·.1) = false := by rfl) :
    PE X (.Call (.Name x p) (e :: es) [] pos) (tCalledR sp W t) := pe_callS (E := WE W) F hr hg O.g O.k O.b (fun σ => passAt tk σ) ha hdb he hpl
end
/-! ### exceptions with the one attribute «what» -/
/-- the __init__ of the family: self.what = what -/
def spInit (K : PySem.W.Frag) : Sp := fun vs H Q _ => ∃ (a C : Addr) (v : V), vs = [.ref a, v] ∧ OexC K C ∧ PySem.W.findIn K (.ref C) "what" = some none ∧ H a = some (exo a C none) ∧
  ∀ dx, H dx = none → dx ≠ a → Q .non (upd (upd H dx (exd dx [("what", v)])) a (exo a C (some dx)))
/-- what the written part says of such a class -/
structure ErrX (K : PySem.W.Frag) (C fI : Addr) : Prop where
  ox : OexC K C
  xf : XfC K C
  nw : PySem.W.findIn K (.ref C) "what" = some none
  ini : PySem.W.findIn K (.ref C) "__init__" = some (some (.ref fI))
  cl : PySem.W.isClsIn K C = true
  cc : PySem.W.findIn K (.ref C) "__class__" = some (some (.builtin "object.__class__"))
  mo : PySem.W.mroIn K C (.type "object") = some true
  se : PySem.W.subIn K (.ref C) (.ref C) = some true
/-- of the builtin that tells an object's class -/
structure ClsB (K : PySem.W.Frag) : Prop where
  sp : PySem.W.specialIn K (.builtin "object.__class__") "__get__" = some (some (.builtin "getset_descriptor.__get__"))
  tk : PySem.W.takesIn K (.builtin "object.__class__") = some true
theorem mk_what {K : PySem.W.Frag} {C fI : Addr} {v : V} {H1 : Hp} {Q : XK} {vs : List V} (T : ErrX K C fI) (ev : vs = [v]) (h : ∀ d, H1 d = none → Q (.ref C) (some d) (upd H1 d (.xd [("what", v)]))) :
    vs.length ≤ 1000 ∧ ∀ a, H1 a = none → spInit K (.ref a :: (vs ++ [])) (upd H1 a (exo a C none))
      (fun u H2 => u = .non ∧ ∃ (d : Addr) (fs : List (Str × V)), H2 a = some (exo a C (some d)) ∧ H2 d = some (exd d fs) ∧ H1 d = none ∧ Q (.ref C) (some d) (upd (del H2 a) d (.xd fs))) (fun _ _ _ => False) := by
  subst ev
  refine ⟨by show 1 ≤ 1000; decide, fun a ha => ⟨a, C, v, rfl, T.ox, T.nw, upd_same, fun dx hdx ne => ⟨rfl, dx, [("what", v)], upd_same, ?_, ?_, ?_⟩⟩⟩
  · rw [upd_ne ne, upd_same]
  · rw [upd_ne ne] at hdx
    exact hdx
  · rw [upd_ne ne] at hdx
    have e : upd (del (upd (upd (upd H1 a (exo a C none)) dx (exd dx [("what", v)])) a (exo a C (some dx))) a) dx (.xd [("what", v)]) = upd H1 dx (.xd [("what", v)]) := by
      funext b
      by_cases h1 : b = dx
      · rw [h1, upd_same, upd_same]
      · rw [upd_ne h1, upd_ne h1]
        by_cases h2 : b = a
        · rw [h2, del_same, ha]
        · rw [del_ne h2, upd_ne h2, upd_ne h1, upd_ne h2]
    rw [e]
    exact h dx hdx
/-- raise C(e) -/
def tRaised (C : Addr) (W : WX) (ta : TA) : TS := fun _ σ H => ta σ H fun vs H1 => ∃ v, vs = [v] ∧ ∀ d, H1 d = none → W (.ref C) (some d) σ (upd H1 d (.xd [("what", v)]))
section
variable {X : Cx} {C fI : Addr} {fd : FuncData} {x : Str} {p pos pos2 : Pos} {e : Expr} {ta : TA} {W : WX}
theorem PA.imp {es : List Expr} {t t' : TA} (h : PA X es t) (hi : ∀ σ H Q, t' σ H Q → t σ H Q) : PA X es t' := ⟨fun pos pins s σ H Q I q => h.run pos pins s σ H Q I (hi σ H Q q)⟩
theorem PS.imp {st : Stmt} {t t' : TS} (h : PS X st t) (hi : ∀ D σ H, t' D σ H → t D σ H) : PS X st t' := ⟨fun pins s σ H D I q => h.run pins s σ H D I (hi D σ H q)⟩
/-- a reading is monotone in its wish -/
def MonoA (t : TA) : Prop := ∀ σ H (Q Q' : List V → Hp → Prop), (∀ vs H1, Q vs H1 → Q' vs H1) → t σ H Q → t σ H Q'
theorem ps_raiseW (hc : X.calm = true) (T : ErrX X.K C fI) (G : FnOk X.prog X.w X.K X.mg X.base CX0 1 fI fd ["self", "what"] (spInit X.K)) (tI : PySem.W.typeIn X.K (.ref fI) = some (.type "function")) (bI : Binds X.K fd ["self", "what"] []) (hr : Room 2 X.A) (hm : X.mg x = some (.ref C))
    (tk : Takes X W) (ha : PA X (e :: []) ta) (mo : MonoA ta) (hg : Gl X x := by rfl) (hdb : (x == ("__debug__" : Str)) = false := by decide)
    (he : starEach (e :: []) X.env = (false, eval e X.env) :: starEach [] X.env := by rfl) (hpl : (backTo pos (starEach [] X.env)).any (·.1) = false := by rfl) :
    PS X (.Raise (some (.Call (.Name x p) (e :: []) [] pos)) none pos2) (tRaised C W ta) := by
  refine PS.imp (ps_raise hc tk (pmk_oex (pos := pos) T.ox T.ini tI G hr bI .nil pass0 hg hm ha hdb he hpl)) fun D σ H q => ?_
  refine mo σ H _ _ (fun vs H1 q => ?_) q
  obtain ⟨v, ev, h⟩ := q
  exact mk_what (Q := fun c d H' => W c d σ H') T ev h
theorem MonoA.nil : MonoA tNil := fun _ _ _ _ h q => h _ _ q
theorem MonoA.one {te : TE} (m : ∀ σ H (Q Q' : VK), (∀ v H1, Q v H1 → Q' v H1) → te σ H Q → te σ H Q') : MonoA (tCons te tNil) := fun σ H Q Q' h q => m σ H _ _ (fun v H1 z => h _ _ z) q
theorem mono_var {i : Nat} : ∀ σ H (Q Q' : VK), (∀ v H1, Q v H1 → Q' v H1) → tVar i σ H Q → tVar i σ H Q' := fun _ _ _ _ h ⟨v, e, q⟩ => ⟨v, e, h _ _ q⟩
theorem mono_c {v : V} : ∀ σ H (Q Q' : VK), (∀ v H1, Q v H1 → Q' v H1) → tC v σ H Q → tC v σ H Q' := fun _ _ _ _ h q => h _ _ q
end
/-- isinstance(e, c), isinstance(e, (c, ..)): e the exception that the suite holds -/
def cIsE (K : PySem.W.Frag) (D a dd : Addr) : List V → Hp → VK → Prop := fun xs H Q => ∃ (fs : List (Str × V)) (b : Bool), H dd = some (.xd fs) ∧
  ((∃ (c : V) (cv : Value), xs = [.ref a, c] ∧ ClsV c cv ∧ PySem.W.kitOne K (.ref D) cv = some b) ∨ ∃ (tp : Addr) (cs : List V) (us : List Value), xs = [.ref a, .ref tp] ∧ H tp = some (.tup cs) ∧ Paired ClsV cs us ∧ PySem.W.kitAny K (.ref D) us = some b) ∧ Q (.bl b) H
theorem call_isX {X : Cx} {a D dd fI : Addr} {oe : Obj} {pn : List (Addr × Obj)} (T : ErrX X.K D fI) (B : ClsB X.K) (hz : Zc (.ref D) (some dd) oe) (hf : ∃ vs, oe.data = .fields vs) : CallR (X.suite a ((a, oe) :: pn)) (.builtin "isinstance") (cIsE X.K D a dd) := by
  intro pins s σ H xs us Q I r h
  obtain ⟨fs, b, hdd, hc, q⟩ := h
  obtain ⟨mA, hns, _⟩ := (show ObjOk X.prog X.w H s.heap dd (.xd fs) from I.hok dd _ hdd)
  obtain ⟨od, ho, _⟩ := lookIn_ns hns
  obtain ⟨hget, _⟩ := I.pin (a, oe) (List.mem_append.mpr (.inl List.mem_cons_self))
  obtain ⟨vs, hv⟩ := hf
  have J : PySem.W.InstAt s.heap a oe D (some od) := ⟨hget, hz.1, by unfold PySem.W.notCls; rw [hv] <;> rfl, by rw [hz.2]; exact ho⟩
  have Z : PySem.W.KitX X.K (.ref a) (.ref D) (fun h => PySem.W.InstAt h a oe D (some od)) := PySem.W.kitx_exc T.cl T.xf.ga T.xf.gg T.xf.exC T.cc B.sp B.tk T.mo
  rcases hc with ⟨c, cv, rfl, hcv, e⟩ | ⟨tp, cs, ws, rfl, hT, hcs, e⟩
  · obtain ⟨u1, u2, rfl, r1, r2⟩ := vals2 r
    cases (show u1 = Value.ref a from r1)
    have e2 := hcv.eq r2
    subst e2
    exact PySem.W.kia_one Z I.kIn J e (fun z => nomatch z) fun tk => ⟨.bl b, H, I.tok tk, rfl, q⟩
  · obtain ⟨u1, u2, rfl, r1, r2⟩ := vals2 r
    cases (show u1 = Value.ref a from r1)
    cases (show u2 = Value.ref tp from r2)
    obtain ⟨_, its, rv, o, h1, h2, n, h3⟩ := (show ObjOk X.prog X.w H s.heap tp (.tup cs) from I.hok tp _ hT)
    have e3 := ClsV.all hcs rv
    subst e3
    obtain ⟨oc, od', dt, sl⟩ := o
    simp only at h2 h3
    subst h2 h3
    exact PySem.W.kia_tup Z I.kIn J h1 e (fun z => nomatch z) fun tk => ⟨.bl b, H, I.tok tk, rfl, q⟩
/-- an own class or a class of Python's beside it: what isinstance says -/
theorem kit_ref {K : PySem.W.Frag} {D C fI : Addr} {b : Bool} (T : ErrX K D fI) (cl : PySem.W.isClsIn K C = true) (ty : PySem.W.typeIn K (.ref C) = some (.type "type")) (s : PySem.W.subIn K (.ref D) (.ref C) = some b) : PySem.W.kitOne K (.ref D) (.ref C) = some b := by
  by_cases e : D = C
  · subst e
    rw [T.se] at s
    obtain rfl : true = b := Option.some.inj s
    unfold PySem.W.kitOne
    rw [if_pos (by simp)]
  · unfold PySem.W.kitOne
    rw [if_neg (by simp [e])]
    show (if ((PySem.W.clsIn K C).isSome && PySem.W.typeIn K (.ref C) == some (.type "type")) = true then PySem.W.subIn K (.ref D) (.ref C) else none) = some b
    have e1 : (PySem.W.clsIn K C).isSome = true := cl
    rw [e1, ty, s]
    rfl
theorem kit_bt {K : PySem.W.Frag} {D : Addr} {n : String} {b : Bool} (m : PySem.W.kitMeta n = true) (s : PySem.W.subIn K (.ref D) (.type n) = some b) : PySem.W.kitOne K (.ref D) (.type n) = some b := by
  unfold PySem.W.kitOne
  rw [if_neg (by simp)]
  show (if PySem.W.kitMeta n = true then PySem.W.subIn K (.ref D) (.type n) else none) = some b
  rw [if_pos m, s]

theorem PSs.exi {ι : Type} {X : Cx} {st : List Stmt} {P : ι → Prop} {t : ι → TS} (h : ∀ i, P i → PSs X st (t i)) : PSs X st (fun D σ H => ∃ i, P i ∧ t i D σ H) :=
  ⟨fun pins s σ H D I ⟨i, p, q⟩ => (h i p).run pins s σ H D I q⟩
/-- what a suite knows of its exception: its class, its dict, where the family's __init__ stands -/
structure Caught (K : PySem.W.Frag) (cls : Value) (d : Option Addr) (i : Addr × Addr × Addr) : Prop where
  c : cls = .ref i.1
  e : d = some i.2.1
  x : ErrX K i.1 i.2.2
theorem Caught.z {K : PySem.W.Frag} {cls : Value} {d : Option Addr} {i : Addr × Addr × Addr} {oe : Obj} (h : Caught K cls d i) (hz : Zc cls d oe) : Zc (.ref i.1) (some i.2.1) oe := ⟨hz.1.trans h.c, hz.2.trans h.e⟩
/-! ### reading of calls -/
section
variable {K : PySem.W.Frag} {σ : L2.St} {H : Hp} {Q : VK} {D : Ends} {tl : TA} {te ta tb : TE} {a : Int} {v x : V} {n : Nat} {W : WX} {C : Addr}
theorem rd_called {sp : Sp} (h : tl σ H fun vs H1 => sp vs H1 Q E0) : tCalled sp tl σ H Q := h
theorem rd_calledR {sp : Sp} (h : tl σ H fun vs H1 => sp vs H1 Q fun c d H2 => W c d σ H2) : tCalledR sp W tl σ H Q := h
theorem rd_raised (h : tl σ H fun vs H1 => ∃ v, vs = [v] ∧ ∀ d, H1 d = none → W (.ref C) (some d) σ (upd H1 d (.xd [("what", v)]))) : tRaised C W tl D σ H := h
theorem rd_raised1 {P : V → Prop} (h : P v) : ∃ v', [v] = [v'] ∧ P v' := ⟨v, rfl, h⟩
theorem rd_int (h : Q (.int a) H) : cInt [.int a] H Q := .inl ⟨a, rfl, h⟩
theorem rd_abs (h : Q (.int (if a < 0 then -a else a)) H) : cAbs [.int a] H Q := ⟨a, rfl, h⟩
theorem rd_lenL {p : Addr} {xs : List V} (e : SqL K H p xs) (h : Q (.int (xs.length : Nat)) H) : cLen K [.ref p] H Q := .inl ⟨_, _, rfl, .inl ⟨xs, e, rfl⟩, h⟩
theorem rd_lenT {p : Addr} {xs : List V} (e : SqT K H p xs) (h : Q (.int (xs.length : Nat)) H) : cLen K [.ref p] H Q := .inl ⟨_, _, rfl, .inr ⟨xs, e, rfl⟩, h⟩
theorem rd_lenS {z : Str} (e : z.length ≤ sizeLine) (h : Q (.int (z.length : Nat)) H) : cLen K [.str z] H Q := .inl ⟨_, _, rfl, ⟨e, rfl⟩, h⟩
theorem rd_ixL {p : Addr} {xs : List V} (e : SqL K H p xs) (ha : atI xs a = some v) (h : Q v H) : rIx K (.ref p) (.int a) H Q := .inl ⟨p, xs, a, v, rfl, rfl, e, ha, h⟩
theorem rd_ixT {p : Addr} {xs : List V} (e : SqT K H p xs) (ha : atI xs a = some v) (h : Q v H) : rIx K (.ref p) (.int a) H Q := .inr (.inl ⟨p, xs, a, v, rfl, rfl, e, ha, h⟩)
theorem rd_ixS {z : Str} {c : Nat} (e : z.length ≤ sizeLine) (ha : atI z.cps.toList a = some c) (h : Q (.str ⟨#[c]⟩) H) : rIx K (.str z) (.int a) H Q := .inr (.inr ⟨z, a, c, rfl, rfl, e, ha, h⟩)
theorem rd_inS {c : Nat} {z : Str} (h : Q (.bl (decide (c ∈ z.cps.toList))) H) : oIn K (.str ⟨#[c]⟩) (.str z) H Q := .inl ⟨c, z, rfl, rfl, h⟩
theorem rd_niS {c : Nat} {z : Str} (h : Q (.bl (!decide (c ∈ z.cps.toList))) H) : oNotIn K (.str ⟨#[c]⟩) (.str z) H Q := .inl ⟨c, z, rfl, rfl, h⟩
theorem rd_rng1 {ta : TA} {R : It → Hp → Prop} (h : ta σ H fun vs H1 => ∃ j : Int, vs = [.int j] ∧ -(2 ^ 62) ≤ j ∧ j < 2 ^ 62 ∧ R (Itr 0 j.toNat) H1) : iRng1 ta σ H R := h
theorem rd_rng2 {ta : TA} {R : It → Hp → Prop} (h : ta σ H fun vs H1 => ∃ i j : Int, vs = [.int i, .int j] ∧ (-(2 ^ 62) ≤ i ∧ i < 2 ^ 62 ∧ -(2 ^ 62) ≤ j ∧ j < 2 ^ 62) ∧ R (Itr i (j - i).toNat) H1) : iRng2 ta σ H R := h
theorem rd_bm {T : String} {r : V → List V → Hp → VK → Prop} {to : TE} {t : TA} (h : to σ H fun x H1 => tyV K T x H1 ∧ t σ H1 fun xs H2 => r x xs H2 Q) : tBM K T r to t σ H Q := h
theorem rd_andV (h : ta σ H fun x H1 => ∃ c, x = .bl c ∧ if c = true then tb σ H1 Q else Q (.bl false) H1) : tAndV ta tb σ H Q := h
theorem rd_orV (h : ta σ H fun x H1 => ∃ c, x = .bl c ∧ if c = true then Q (.bl true) H1 else tb σ H1 Q) : tOrV ta tb σ H Q := h
theorem rd_sl {r : V → Option Int → Option Int → Hp → VK → Prop} {tl th : TO} (h : te σ H fun x H1 => tl σ H1 fun l H2 => th σ H2 fun u H3 => r x l u H3 Q) : tSl r te tl th σ H Q := h
theorem rd_noPart {Q : Option Int → Hp → Prop} (h : Q none H) : tNoPart σ H Q := h
theorem rd_part {Q : Option Int → Hp → Prop} (h : te σ H fun x H1 => ∃ i, x = .int i ∧ Q (some i) H1) : tPart te σ H Q := h
theorem rd_intv {P : Int → Prop} (h : P a) : ∃ i, V.int a = .int i ∧ P i := ⟨a, rfl, h⟩
theorem rd_slS {z : Str} {lo hi : Option Int} (e : z.length ≤ sizeLine) (h : Q (.str (cutS z lo hi)) H) : oSl K (.str z) lo hi H Q := .inr (.inl ⟨z, rfl, e, h⟩)
end

section
variable {CX : CXT} {P : Program} {w : World} {K : PySem.W.Frag} {mg : Str → Option Value} {base : Heap} {N : List Str} {q : Str} {sc : Scope} {f : Addr} {cdv : Value} {A : Around} {outer : List Env} {s : Shared} {H : Hp} {E : XK}
theorem cxK : (cxOf CX P w K mg base N q sc f cdv A outer s H E).nox.K = K := rfl
theorem cxK' : (cxOf CX P w K mg base N q sc f cdv A outer s H E).K = K := rfl
end

/-! ### loops and comprehensions -/
def forB (g : TG) (tb : TS) (D : Ends) (σ : L2.St) (J : It) (H : Hp) : Prop := tFor (fun _ H R => R J H) g tb D σ H
def lcB (g : TG) (tt : TT) (te : TE) (vs : List Nat) (σ : L2.St) (Q : VK) (J : It) (H : Hp) : Prop := tLc (fun _ H R => R J H) g tt te vs σ H Q
section
variable {K : PySem.W.Frag} {σ : L2.St} {H : Hp} {Q : VK} {D : Ends} {wi : TI} {g : TG} {tb : TS} {tt : TT} {te : TE} {vs : List Nat} {J : It} {n : Nat} {G : Hp → Prop} {Y : Nat → Hp → V → Hp → Prop} {R : It → Hp → Prop}
theorem rd_for (h : wi σ H (forB g tb D σ)) : tFor wi g tb D σ H := h
theorem rd_lc (h : wi σ H (lcB g tt te vs σ Q)) : tLc wi g tt te vs σ H Q := h
theorem fo_range {n : Nat} (Pv : Nat → L2.St → Hp → Prop) (h0 : Pv 0 σ H) (hs : ∀ (i : Nat) σ H, i < n → Pv i σ H → g (.int (i : Int)) σ H fun σ2 H2 => tb { D with nx := Pv (i + 1), ct := Pv (i + 1), bk := D.nx } σ2 H2) (hd : ∀ σ H, Pv n σ H → D.nx σ H) : forB g tb D σ (Itr 0 n) H :=
  for_range (lo := 0) Pv h0 (fun i σ H hi p => by rw [Int.zero_add]; exact hs i σ H hi p) hd
theorem fo_range2 {lo : Int} {n : Nat} (Pv : Nat → L2.St → Hp → Prop) (h0 : Pv 0 σ H) (hs : ∀ (i : Nat) σ H, i < n → Pv i σ H → g (.int (lo + (i : Int))) σ H fun σ2 H2 => tb { D with nx := Pv (i + 1), ct := Pv (i + 1), bk := D.nx } σ2 H2) (hd : ∀ σ H, Pv n σ H → D.nx σ H) : forB g tb D σ (Itr lo n) H :=
  for_range (lo := lo) Pv h0 hs hd
theorem fo_it (w : Walk J n G Y) (Pv : Nat → L2.St → Hp → Prop) (h0 : Pv 0 σ H) (hG : ∀ i σ H, i ≤ n → Pv i σ H → G H)
    (hs : ∀ i x σ H H', i < n → Pv i σ H → Y i H x H' → g x σ H' fun σ2 H2 => tb { D with nx := Pv (i + 1), ct := Pv (i + 1), bk := D.nx } σ2 H2) (hd : ∀ σ H, Pv n σ H → D.nx σ H) : forB g tb D σ J H := for_it w Pv h0 hG hs hd
/-- over a text -/
theorem fo_str {z : Str} (Pv : Nat → L2.St → Hp → Prop) (h0 : Pv 0 σ H) (hs : ∀ (i : Nat) c σ H, z.cps.toList[i]? = some c → Pv i σ H → g (.str ⟨#[c]⟩) σ H fun σ2 H2 => tb { D with nx := Pv (i + 1), ct := Pv (i + 1), bk := D.nx } σ2 H2) (hd : ∀ σ H, Pv z.length σ H → D.nx σ H) : forB g tb D σ (Its z) H :=
  fo_it walk_str Pv h0 (fun _ _ _ _ _ => True.intro) (fun i x σ H H' hi p y => by
    obtain ⟨rfl, c, e, rfl⟩ := y
    exact hs i c σ _ (by rw [Array.getElem?_toList]; exact e) p) hd
theorem fo_list {a : Addr} {xs : List V} (Pv : Nat → L2.St → Hp → Prop) (h0 : Pv 0 σ H) (hl : ∀ i σ H, i ≤ xs.length → Pv i σ H → SqL K H a xs) (hs : ∀ (i : Nat) x σ H, xs[i]? = some x → Pv i σ H → g x σ H fun σ2 H2 => tb { D with nx := Pv (i + 1), ct := Pv (i + 1), bk := D.nx } σ2 H2)
    (hd : ∀ σ H, Pv xs.length σ H → D.nx σ H) : forB g tb D σ (Itl K a) H := for_list Pv h0 hl hs hd
theorem fo_tup {a : Addr} {xs : List V} (Pv : Nat → L2.St → Hp → Prop) (h0 : Pv 0 σ H) (hl : ∀ i σ H, i ≤ xs.length → Pv i σ H → SqT K H a xs) (hs : ∀ (i : Nat) x σ H, xs[i]? = some x → Pv i σ H → g x σ H fun σ2 H2 => tb { D with nx := Pv (i + 1), ct := Pv (i + 1), bk := D.nx } σ2 H2)
    (hd : ∀ σ H, Pv xs.length σ H → D.nx σ H) : forB g tb D σ (Itt K a) H := for_tup Pv h0 hl hs hd
/-- what is walked -/
theorem rd_anyL {a : Addr} {xs : List V} {te : TE} (he : ∀ Q : VK, Q (.ref a) H → te σ H Q) (hs : SqL K H a xs) (h : R (Itl K a) H) : iAny K te σ H R := .inl (he _ ⟨a, rfl, ⟨xs, hs⟩, h⟩)
theorem rd_anyT {a : Addr} {xs : List V} {te : TE} (he : ∀ Q : VK, Q (.ref a) H → te σ H Q) (hs : SqT K H a xs) (h : R (Itt K a) H) : iAny K te σ H R := .inr (.inl (he _ ⟨a, rfl, ⟨xs, hs⟩, h⟩))
theorem rd_anyS {z : Str} {te : TE} (he : ∀ Q : VK, Q (.str z) H → te σ H Q) (h : R (Its z) H) : iAny K te σ H R := .inr (.inr (he _ ⟨z, rfl, h⟩))
/-- a comprehension whose parts leave the heap -/
theorem lc_pure {j : Nat} {xs : Nat → V} {f : Nat → Bool} {v : Nat → V} (w : Walk J n G Y) (hY : ∀ i H x H', i < n → Y i H x H' → H' = H ∧ x = xs i) (hG : ∀ Hc, Ex H Hc → G Hc) (hn : n < 100000)
    (ht : ∀ i Hc, i < n → Ex H Hc → Ans tt ((wipe σ [j]).set j (some (xs i))) Hc (f i)) (he : ∀ i Hc, i < n → Ex H Hc → f i = true → Val te ((wipe σ [j]).set j (some (xs i))) Hc (v i))
    (h : ∀ L, H L = none → Q (.ref L) (upd H L (.lst (Evl.given n f v)))) : lcB (gName j) tt te [j] σ Q J H := by
  intro L hL
  have hz : ∀ m, m ≤ n → (Evl.given m f v).length < sizeLine := fun m hm => Nat.lt_of_le_of_lt (Evl.given_len m f v) (Nat.lt_of_le_of_lt hm (Nat.lt_trans hn (by decide)))
  refine lc_it w (fun i Hc => i ≤ n ∧ Hc = upd H L (.lst (Evl.given i f v))) ⟨Nat.zero_le _, rfl⟩ (fun i Hc _ p => ?_) (fun i x Hc H' hi p y => ?_) fun Hc p => ?_
  · obtain ⟨_, rfl⟩ := p
    exact hG _ (Evl.Ex.new hL)
  · obtain ⟨hi1, rfl⟩ := p
    obtain ⟨rfl, rfl⟩ := hY _ _ _ _ hi y
    have e0 := Evl.Ex.new (o := .lst (Evl.given i f v)) hL
    refine ⟨by simp [wipe], ?_⟩
    refine ht i _ hi e0 _ ?_
    cases hf : f i with
    | true =>
      refine rd_iteT ?_
      refine he i _ hi e0 hf _ ?_
      refine ⟨_, upd_same, hz i (Nat.le_of_lt hi), hi, ?_⟩
      rw [upd_upd, Evl.given_yes hf]
    | false =>
      refine rd_iteF ⟨hi, ?_⟩
      rw [Evl.given_no hf]
  · obtain ⟨_, rfl⟩ := p
    exact h L hL
theorem rd_yes {QB : Bool → Hp → Prop} (h : QB true H) : tYes σ H QB := h
theorem ans_yes : Ans tYes σ H true := fun _ q => q
end
/-- the list that is given -/
theorem given_eq {α : Type} (l : List α) (p : α → Bool) (f : α → V) (q : Nat → Bool) (v : Nat → V) (hq : ∀ i x, l[i]? = some x → q i = p x) (hv : ∀ i x, l[i]? = some x → v i = f x) : ∀ n, n ≤ l.length → Evl.given n q v = ((l.take n).filter p).map f
  | 0, _ => rfl
  | n + 1, h => by
    have hx : l[n]? = some (l[n]'h) := List.getElem?_eq_getElem h
    have ih := given_eq l p f q v hq hv n (Nat.le_of_lt h)
    rw [List.take_succ, hx]
    cases e : p (l[n]'h) with
    | true =>
      rw [Evl.given_yes ((hq _ _ hx).trans e), ih, List.filter_append, List.map_append, hv _ _ hx]
      simp [e]
    | false =>
      rw [Evl.given_no ((hq _ _ hx).trans e), ih, List.filter_append, List.map_append]
      simp [e]

theorem rd_gsub {to ti : TE} {t : TSet} {v : V} {σ : L2.St} {H : Hp} {Q : L2.St → Hp → Prop} (h : to σ H fun o H1 => ti σ H1 fun i H2 => t o i v H2 fun H3 => Q σ H3) : gSub to ti t v σ H Q := h
theorem rd_while {tt : TT} {tb : TS} {D : Ends} {σ : L2.St} {H : Hp} (Pv : L2.St → Hp → Prop) (μ : L2.St → Hp → Nat) (h0 : Pv σ H)
    (hs : ∀ σ H, Pv σ H → tt σ H fun b H1 => if b = true then tb { D with nx := fun σ' H' => Pv σ' H' ∧ μ σ' H' < μ σ H, ct := fun σ' H' => Pv σ' H' ∧ μ σ' H' < μ σ H, bk := D.nx } σ H1 else D.nx σ H1)
    (mono : ∀ σ H Q Q', (∀ b H1, Q b H1 → Q' b H1) → tt σ H Q → tt σ H Q') : tWhile tt tb D σ H := while_by Pv μ h0 hs mono

/-! ### the same, the written part named -/
section
variable {X : Cx} (K : PySem.W.Frag) (hK : X.K = K := by rfl)
include hK
theorem kAdd : OpR X (binaryOp .Add) (oAdd K) := hK ▸ op_addP
theorem kEq (hu : X.A.units + 64 < cLine) : OpR X (compareOp .Eq) (oEq K) := hK ▸ op_eqP hu
theorem kNe (hu : X.A.units + 64 < cLine) : OpR X (compareOp .NotEq) (oNe K) := hK ▸ op_neP hu
theorem kIn : OpR X (compareOp .In) (oIn K) := hK ▸ op_inP
theorem kNotIn : OpR X (compareOp .NotIn) (oNotIn K) := hK ▸ op_notInP
theorem kLen : CallR X (.builtin "len") (cLen K) := hK ▸ call_lenP
theorem kSl : SlR X (oSl K) := hK ▸ sl_P
theorem kIx : IxR X (rIx K) := hK ▸ ix_seq
theorem kAny {tg e : Expr} {te : TE} (he : PE X e te) : PI X tg e (iAny K te) := hK ▸ pi_any he
theorem kAll (hc : X.calm = true := by rfl) : CallR X (.builtin "all") (rAll K) := hK ▸ cr_all hc
theorem kAnyOf (hc : X.calm = true := by rfl) : CallR X (.builtin "any") (rAny K) := hK ▸ cr_any hc
theorem kSum (hc : X.calm = true := by rfl) : CallR X (.builtin "sum") (rSum K) := hK ▸ cr_sum hc
end
section
variable {X : Cx} {x : Str} {pos : Pos}
theorem pe_globS {s : Str} {t : Tok} (hg : Gl X x) (hm : X.mg x = some (.str s t)) (hd : (x == ("__debug__" : Str)) = false := by decide) : PE X (.Name x pos) (tC (.str s)) := pe_glob hg hm ⟨t, rfl⟩ hd
theorem pe_globI {i : Int} {t : Tok} (hg : Gl X x) (hm : X.mg x = some (.int i t)) (hd : (x == ("__debug__" : Str)) = false := by decide) : PE X (.Name x pos) (tC (.int i)) := pe_glob hg hm ⟨t, rfl⟩ hd
theorem pe_globR {a : Addr} (hg : Gl X x) (hm : X.mg x = some (.ref a)) (hd : (x == ("__debug__" : Str)) = false := by decide) : PE X (.Name x pos) (tC (.ref a)) := pe_glob (v := .ref a) hg hm rfl hd
end

theorem rd_iteNF {A B : Prop} (h : A) : if (!false) = true then A else B := iteT h
theorem rd_iteNT {A B : Prop} (h : B) : if (!true) = true then A else B := iteF h

section
variable {X : Cx} {x : Str} {pos : Pos}
theorem pe_blT {n : String} (hg : Gl X x) (hm : X.mg x = none) (hv : bootBuiltins x = some (.type n)) (hn : x ≠ "__name__" := by decide) (hd : (x == ("__debug__" : Str)) = false := by decide) : PE X (.Name x pos) (tC (.ty n)) := pe_bltn (v := .ty n) hg hm hv rfl hn hd
end
/-! ### lists of flat values compared -/
def okS (z : Str) : Prop := PyData.strOk z = true
theorem okS_iff {z : Str} : okS z ↔ ∀ c ∈ z.cps.toList, c < 0x110000 := by
  unfold okS PyData.strOk
  rw [← Array.all_toList, List.all_eq_true]
  exact ⟨fun h c hc => by simpa using h c hc, fun h c hc => by simpa using h c hc⟩
theorem okS_app {x y : Str} (hx : okS x) (hy : okS y) : okS (x ++ y) := okS_iff.mpr fun c hc => by
  have e : (x ++ y).cps.toList = x.cps.toList ++ y.cps.toList := TL.tl_append x y
  rw [e] at hc
  exact (List.mem_append.mp hc).elim (okS_iff.mp hx c) (okS_iff.mp hy c)
theorem okS_one {z : Str} {c : Nat} (hz : okS z) (hc : c ∈ z.cps.toList) : okS ⟨#[c]⟩ := okS_iff.mpr fun d hd => by
  have e : d = c := by simpa using hd
  rw [e]
  exact okS_iff.mp hz c hc
theorem okS_sub {x y : Str} (hy : okS y) (h : ∀ c ∈ x.cps.toList, c ∈ y.cps.toList) : okS x := okS_iff.mpr fun c hc => okS_iff.mp hy c (h c hc)
def dOf : V → PyData
  | .bl b => .bool b
  | .int i => .int i
  | .str x => .str x
  | _ => .none
def flat1 : V → Bool
  | .non => true
  | .bl _ => true
  | .int _ => true
  | .str x => PyData.strOk x
  | _ => false
theorem dp_flat {K : PySem.W.Frag} {H : Hp} {v : V} (h : flat1 v = true) : Dp K H v (dOf v) := by
  cases v with
  | non => exact .non
  | bl b => exact .bl b
  | int i => exact .int i
  | str x => exact .str x
  | byt _ => exact absurd h Bool.false_ne_true
  | flt _ => exact absurd h Bool.false_ne_true
  | ref _ => exact absurd h Bool.false_ne_true
  | ty _ => exact absurd h Bool.false_ne_true
theorem lay_flat {v : V} (h : flat1 v = true) : (dOf v).canLay0 = true ∧ (dOf v).depth = 0 := by
  cases v with
  | str x => exact ⟨h, rfl⟩
  | _ => exact ⟨rfl, rfl⟩
theorem dpAll_flat {K : PySem.W.Frag} {H : Hp} : ∀ {xs : List V}, xs.all flat1 = true → DpAll K H xs (xs.map dOf)
  | [], _ => .nil
  | v :: xs, h => by
    rw [List.all_cons, Bool.and_eq_true] at h
    exact .cons (dp_flat h.1) (dpAll_flat h.2)
theorem lay_all : ∀ {xs : List V}, xs.all flat1 = true → PyData.canLayAll0 (xs.map dOf) = true ∧ PyData.depthAll (xs.map dOf) = 0
  | [], _ => ⟨rfl, rfl⟩
  | v :: xs, h => by
    rw [List.all_cons, Bool.and_eq_true] at h
    obtain ⟨h1, h2⟩ := lay_flat h.1
    obtain ⟨h3, h4⟩ := lay_all h.2
    refine ⟨?_, ?_⟩
    · show ((dOf v).canLay0 && PyData.canLayAll0 (xs.map dOf)) = true
      rw [h1, h3]
      rfl
    · show max (dOf v).depth (PyData.depthAll (xs.map dOf)) = 0
      rw [h2, h4]
      rfl
theorem shaped_list {xs : List V} (h : xs.all flat1 = true) : SeqAt.shaped (.list (xs.map dOf)) = true := by
  obtain ⟨h1, h2⟩ := lay_all h
  refine Bool.and_eq_true_iff.mpr ⟨h1, decide_eq_true ?_⟩
  show PyData.depthAll (xs.map dOf) + 1 ≤ 64
  rw [h2]
  decide
theorem refl_list {xs : List V} (h : xs.all flat1 = true) : PyData.eqv (.list (xs.map dOf)) (.list (xs.map dOf)) = true := SeqAt.eqv_refl _ (lay_all h).1
section
variable {K : PySem.W.Frag} {p q : Addr} {xs : List V} {H : Hp} {Q : VK}
theorem rd_neL (hp : SqL K H p xs) (hq : SqL K H q xs) (hf : xs.all flat1 = true) (h : Q (.bl false) H) : oNe K (.ref p) (.ref q) H Q :=
  .inr ⟨_, _, .lst hp (dpAll_flat hf), .lst hq (dpAll_flat hf), shaped_list hf, shaped_list hf, by rw [refl_list hf]; exact h⟩
theorem rd_eqL (hp : SqL K H p xs) (hq : SqL K H q xs) (hf : xs.all flat1 = true) (h : Q (.bl true) H) : oEq K (.ref p) (.ref q) H Q :=
  .inr ⟨_, _, .lst hp (dpAll_flat hf), .lst hq (dpAll_flat hf), shaped_list hf, shaped_list hf, by rw [refl_list hf]; exact h⟩
theorem rd_eqNil (hp : SqL K H p xs) (hq : SqL K H q []) (hf : xs.all flat1 = true) (h : Q (.bl xs.isEmpty) H) : oEq K (.ref p) (.ref q) H Q :=
  .inr ⟨_, .list [], .lst hp (dpAll_flat hf), .lst hq .nil, shaped_list hf, rfl, by
    cases xs with
    | nil => exact h
    | cons a r => exact h⟩
end
theorem rd_reprB {b : Bool} {H : Hp} {Q : VK} (h : Q (.str (if b then "True" else "False")) H) : cRepr [.bl b] H Q := .inr ⟨b, rfl, h⟩

section
variable {σ : L2.St} {H : Hp} {Q : VK} {D : Ends} {t u : TS} {te ta tb : TE} {g : TG} {a b : Bool}
theorem rd_seqA (h : tAsg te g { D with nx := u D } σ H) : tSeq (tAsg te g) u D σ H := h
theorem rd_seqD (h : tDrop te { D with nx := u D } σ H) : tSeq (tDrop te) u D σ H := h
/-- a statement, then the rest: R is what holds between -/
theorem rd_cut (R : L2.St → Hp → Prop) (h1 : ∀ N : L2.St → Hp → Prop, (∀ σ H, R σ H → N σ H) → t { D with nx := N } σ H) (h2 : ∀ σ H, R σ H → u D σ H) : tSeq t u D σ H := h1 (u D) h2
theorem val_andV (h1 : Val ta σ H (.bl a)) (h2 : a = true → Val tb σ H (.bl b)) : Val (tAndV ta tb) σ H (.bl (a && b)) := fun Q q => h1 _ ⟨a, rfl, by
  cases a with
  | true => exact iteT (h2 rfl _ q)
  | false => exact iteF q⟩
theorem val_orV (h1 : Val ta σ H (.bl a)) (h2 : a = false → Val tb σ H (.bl b)) : Val (tOrV ta tb) σ H (.bl (a || b)) := fun Q q => h1 _ ⟨a, rfl, by
  cases a with
  | true => exact iteT q
  | false => exact iteF (h2 rfl _ q)⟩
theorem val_is {v w : V} (h : Val te σ H v) (e : v = w) : Val te σ H w := e ▸ h
theorem rd_val {v : V} (h : Val te σ H v) (q : Q v H) : te σ H Q := h Q q
end

theorem rd_idS {t u : TS} {D : Ends} {σ : L2.St} {H : Hp} (h : tSeq t u D σ H) : tSeq t u D σ H := h
theorem rd_idI {c : TT} {t u : TS} {D : Ends} {σ : L2.St} {H : Hp} (h : tIfS c t u D σ H) : tIfS c t u D σ H := h
end AT

set_option Elab.async false
set_option linter.all false
set_option maxRecDepth 100000
set_option maxHeartbeats 4000000
/-! own words, second part: objects that are made and asked where something may be raised; data; tuples -/
namespace AT
open PySem PySem.Spec L2
section
variable {X : Cx} {Cx1 : CXT} {n : Nat} {fa Ca : Addr} {fn : FuncData} {pr : List Str} {pm : Sp} {W : WX} {nm mt : Str} {q1 q2 q3 : Pos} {o a0 : Expr} {as : List Expr} {to : TE} {ta : TA}
/-- C(..) whose __init__ may raise -/
def tMakeR (C : Addr) (sp : Sp) (W : WX) (t : TA) : TE := fun σ H Q => t σ H fun vs H1 => ∀ x dx, H1 x = none → H1 dx = none → dx ≠ x → sp (.ref x :: vs) (upd (upd H1 dx (.own x)) x (.ins C dx [])) (fun v H2 => v = .non ∧ Q (.ref x) H2) fun c d H2 => W c d σ H2
theorem pe_makeR (M : Mk X.K Ca fa) (G : FnOk X.prog X.w X.K X.mg X.base (L2.CX X.prog X.w) n fa fn pr pm) (hr : Room (n + 1) X.A) (hm : X.mg nm = some (.ref Ca)) (hb : Binds X.K fn pr []) (tk : Takes X W) (ha : PA X (a0 :: as) ta) (hg : Gl X nm := by rfl)
    (hdb : (nm == ("__debug__" : Str)) = false := by decide) (he : starEach (a0 :: as) X.env = (false, eval a0 X.env) :: starEach as X.env := by rfl) (hpl : (backTo q2 (starEach as X.env)).any (·.1) = false := by rfl) :
    PE X (.Call (.Name nm q1) (a0 :: as) [] q2) (tMakeR Ca pm W ta) := by
  refine ⟨fun P s σ H Q I h => wpAny_Call_Name_kw (ld_glob I hg hm ?_ hdb)⟩
  refine PySem.W.callWith_K (h₀ := X.base) I.ok.mod.kin M.kp (thn (ha.run q2 P s σ H _ I h) fun us t ⟨vs, H1, J, rv, q⟩ => ⟨J.kIn, ?_⟩) he hpl
  have fresh1 := J.hok.fresh (Nat.le_succ t.heap.objs.size)
  have fresh0 := J.hok.fresh (Nat.le_refl t.heap.objs.size)
  have asked := q _ _ fresh1 fresh0 (Nat.ne_of_lt (Nat.lt_succ_self _))
  have J2 := Inv.made (C := Ca) J
  have rel : Vals (V.ref (t.heap.objs.size + 1) :: vs) (Value.ref (t.heap.objs.size + 1) :: us) := .cons rfl rv
  have len : (Value.ref (t.heap.objs.size + 1) :: us ++ []).length = pr.length := by
    rw [List.append_nil, ← rel.length]
    exact G.len _ _ _ _ asked
  have bind := hb _ (Value.ref (t.heap.objs.size + 1) :: us) J2.kIn len
  rw [List.append_nil] at bind
  have ran := G.run _ X.stack _ _ ⟨Value.ref (t.heap.objs.size + 1) :: us, []⟩ _ _ _ (fun c d H2 => W c d σ H2) (hr.make Ca us []) (J2.env0.make Ca us []) bind rel asked
  refine wpAny_call (make_map (f := fa) J.kIn M.makes M.init (beq_iff_eq.mp M.fn) (codeAny_mono ran fun res z hz => ?_))
  cases res with
  | error er => exact passAt tk σ _ _ _ _ _ J2 hz
  | ok fl =>
    cases fl with
    | ret u =>
      have back := J2.after hz
      obtain ⟨v, H3, J3, r3, e3, q3⟩ := back
      subst e3
      exact ⟨r3, .ref (t.heap.objs.size + 1), H3, J3, rfl, q3⟩
    | next => exact hz.elim
    | brk => exact hz.elim
    | cont => exact hz.elim
/-- o.m(..) whose m may raise -/
def tMethR (C : Addr) (m : Str) (sp : Sp) (W : WX) (to : TE) (t : TA) : TE := fun σ H Q => to σ H fun x H1 => ∃ a dx fs, x = .ref a ∧ H1 a = some (.ins C dx fs) ∧ fs.lookup m = none ∧ t σ H1 fun vs H2 => sp (x :: vs) H2 Q fun c d H3 => W c d σ H3
theorem pe_methRs {pl : Sem Bool} (hmt : Meth X.K Ca mt fa) (cl : Cls X.K Ca) (ho : PE X o to) (G : FnOk X.prog X.w X.K X.mg X.base (L2.CX X.prog X.w) n fa fn pr pm) (hr : Room n X.A) (hb : Binds X.K fn pr []) (tk : Takes X W) (ha : PA X (a0 :: as) ta)
    (hst : starEach (a0 :: as) X.env = (false, eval a0 X.env) :: starEach as X.env := by rfl) (hpl : (backTo q2 (starEach as X.env)).any (·.1) = false := by rfl)
    (ht : eval (.Call (.Attribute o mt q3) (a0 :: as) [] q2) X.env = (do
      let r ← eval o X.env
      standAt q3.atName
      let (g, more) ← holding [r] (getMethod r mt pl)
      callWith q2 g more (backTo q2 (starEach (a0 :: as) X.env)) (backToKw q2 (keywordEach [] X.env))) := by rfl) : PE X (.Call (.Attribute o mt q3) (a0 :: as) [] q2) (tMethR Ca mt pm W to ta) := by
  refine ⟨fun P s σ H Q I h => PySem.W.methodCall_KW (pl := pl) (thn (ho.run P s σ H _ I h) fun u t ⟨x, H1, J, rx, a, dx, fs, ex, ea, nl, q⟩ => ?_) ht⟩
  subst ex
  obtain rfl : u = Value.ref a := rx
  refine getmeth_ok J ea cl hmt nl (PySem.W.callWith_K (first := [.ref a]) (h₀ := X.base) J.ok.mod.kin hmt.kp (thn (ha.run q2 P t σ H1 _ J q) fun us t2 ⟨vs, H2, J2, rv, z⟩ => ⟨J2.kIn, ?_⟩) hst hpl)
  exact run_fnS (us := .ref a :: us) (vs := .ref a :: vs) (E := WE W) G hr hb (passAt tk σ) J2 (.cons rfl rv) z
theorem pe_methR0 {pl : Sem Bool} (hmt : Meth X.K Ca mt fa) (cl : Cls X.K Ca) (ho : PE X o to) (G : FnOk X.prog X.w X.K X.mg X.base (L2.CX X.prog X.w) n fa fn pr pm) (hr : Room n X.A) (hb : Binds X.K fn pr []) (tk : Takes X W)
    (ht : eval (.Call (.Attribute o mt q3) [] [] q2) X.env = (do
      let r ← eval o X.env
      standAt q3.atName
      let (g, more) ← holding [r] (getMethod r mt pl)
      callWith q2 g more (backTo q2 (starEach [] X.env)) (backToKw q2 (keywordEach [] X.env))) := by rfl) : PE X (.Call (.Attribute o mt q3) [] [] q2) (tMethR Ca mt pm W to tNil) := by
  refine ⟨fun P s σ H Q I h => PySem.W.methodCall_KW (pl := pl) (thn (ho.run P s σ H _ I h) fun u t ⟨x, H1, J, rx, a, dx, fs, ex, ea, nl, q⟩ => ?_) ht⟩
  subst ex
  obtain rfl : u = Value.ref a := rx
  refine getmeth_ok J ea cl hmt nl ?_
  exact PySem.W.callWith_K0 (first := [.ref a]) J.kIn hmt.kp (run_fnS (us := [.ref a]) (vs := [.ref a]) (E := WE W) G hr hb (passAt tk σ) J (.cons rfl .nil) q)
end

/-! ### the place of a sign in a text -/
section
open PySem.Builtin.Str PySem.StrLaws
theorem first_sign (x : Str) (c : Nat) (h : c ∈ x.cps.toList) : ∃ rest, occurrences x ⟨#[c]⟩ 0 x.length 1 = x.cps.toList.idxOf c :: rest := by
  have key := occ_first x ⟨#[c]⟩ x.length 1 (Nat.le_refl 1) (List.range' 0 (x.length + 1 - 0)) 0 fun _ _ => Nat.zero_le _
  rw [occ_eq]
  have sub := fun k => subAt_one x c k
  rcases key with ⟨_, hn⟩ | ⟨pre, i, post, e, h0, hi, hn⟩
  · obtain ⟨j, hj⟩ := List.getElem?_of_mem h
    have hlt : j < x.length := (List.getElem?_eq_some_iff.mp hj).1
    exact absurd ((sub j).mpr hj) (hn j (List.mem_range'.mpr ⟨j, by omega, by omega⟩))
  · have hx := (sub i).mp hi
    have before : ∀ k, k < i → x.cps.toList[k]? ≠ some c := fun k hk q => hn k (range'_split e k hk) ((sub k).mpr q)
    obtain ⟨hl, hv⟩ := List.getElem?_eq_some_iff.mp hx
    have e2 : x.cps.toList.idxOf c = i := by
      have hlt : x.cps.toList.idxOf c < x.cps.toList.length := List.idxOf_lt_length_iff.mpr h
      have hget : x.cps.toList[x.cps.toList.idxOf c] = c := List.getElem_idxOf hlt
      rcases Nat.lt_trichotomy (x.cps.toList.idxOf c) i with z | z | z
      · exact absurd (List.getElem?_eq_some_iff.mpr ⟨hlt, hget⟩) (before _ z)
      · exact z
      · exact absurd hv (by
          have := List.not_of_lt_findIdx (p := (· == c)) (xs := x.cps.toList) z
          simpa using this)
    rw [e2]
    generalize hg : (forIn (List.range' 0 (x.length + 1 - 0)) ((#[] : Array Nat), 0) (occBody x ⟨#[c]⟩ x.length 1)).run.fst = arr at h0
    cases hl : arr.toList with
    | nil =>
      rw [← Array.getElem?_toList, hl] at h0
      cases h0
    | cons a r =>
      rw [← Array.getElem?_toList, hl] at h0
      exact ⟨r, by rw [Option.some.inj (show some a = some i from h0)]⟩
end
def mIdx : V → List V → Hp → VK → Prop := fun x xs H Q => ∃ (a : Str) (c : Nat), x = .str a ∧ xs = [.str ⟨#[c]⟩] ∧ c ∈ a.cps.toList ∧ Q (.int (a.cps.toList.idxOf c : Nat)) H
section
variable {X : Cx}
theorem mt_strIdx : MtR X "str.index" mIdx := by
  intro P s σ H x xs v us Q I rx rs h
  obtain ⟨a, c, ex, es, hc, q⟩ := h
  obtain ⟨rest, e⟩ := first_sign a c hc
  exact mt_sindex P s σ H x xs v us Q I rx rs ⟨a, _, _, rest, ex, es, e, q⟩
/-! ### the least and the greatest of a tuple of ints -/
theorem reads_ints {hp : Heap} : ∀ {ns : List Int} {us : List Value}, Vals (ns.map V.int) us → ReadsAll hp us (ns.map PyData.int) []
  | [], _, r => by cases r; exact .nil
  | n :: ns, _, r => by
    cases r with
    | cons r1 r2 =>
      obtain ⟨t, rfl⟩ := r1
      exact ReadsAll.cons (as := []) (bs := []) (.int n t) (reads_ints r2)
theorem alike_ints (ns : List Int) : PySem.W.AlikeAll (ns.map PyData.int) := ⟨fun x hx y hy => by
  obtain ⟨a, _, rfl⟩ := List.mem_map.mp hx
  obtain ⟨b, _, rfl⟩ := List.mem_map.mp hy
  rfl, fun x hx => by
  obtain ⟨a, _, rfl⟩ := List.mem_map.mp hx
  exact fun z => by cases z⟩
theorem depth_ints : ∀ ns : List Int, PyData.depthAll (ns.map PyData.int) = 0
  | [] => rfl
  | n :: ns => by
    show max 0 (PyData.depthAll (ns.map PyData.int)) = 0
    rw [depth_ints ns]
    rfl
/-- min(t), max(t): t a tuple of ints, not empty -/
def cMinT (K : PySem.W.Frag) : List V → Hp → VK → Prop := fun vs H Q => ∃ (a : Addr) (n : Int) (ns : List Int), vs = [.ref a] ∧ SqT K H a ((n :: ns).map V.int) ∧ Q (.int (ns.foldl min n)) H
def cMaxT (K : PySem.W.Frag) : List V → Hp → VK → Prop := fun vs H Q => ∃ (a : Addr) (n : Int) (ns : List Int), vs = [.ref a] ∧ SqT K H a ((n :: ns).map V.int) ∧ Q (.int (ns.foldl max n)) H
theorem call_minT (hc : X.calm = true) (hu : X.A.units + 64 < cLine) : CallR X (.builtin "min") (cMinT X.K) := by
  intro P s σ H vs us Q I r h
  obtain ⟨a, n, ns, rfl, ht, q⟩ := h
  obtain ⟨u, rfl, ru⟩ := vals1 r
  cases (show u = Value.ref a from ru)
  obtain ⟨its, rv, pl, _⟩ := I.tuple ht
  refine PySem.W.min_tuple_data (x := .int n) (xs := ns.map .int) (I.ok.hd hc) pl (reads_ints (ns := n :: ns) rv) (alike_ints (n :: ns)) (by
    have e := depth_ints (n :: ns)
    rw [List.map_cons] at e
    rw [e]
    omega) fun i v h' tk bs hv hr hk => ?_
  rw [PySem.W.minD_ints] at hr
  cases hr with
  | int _ t => exact ⟨.int _, H, I.kept hk, ⟨t, rfl⟩, q⟩
theorem call_maxT (hc : X.calm = true) (hu : X.A.units + 64 < cLine) : CallR X (.builtin "max") (cMaxT X.K) := by
  intro P s σ H vs us Q I r h
  obtain ⟨a, n, ns, rfl, ht, q⟩ := h
  obtain ⟨u, rfl, ru⟩ := vals1 r
  cases (show u = Value.ref a from ru)
  obtain ⟨its, rv, pl, _⟩ := I.tuple ht
  refine PySem.W.max_tuple_data (x := .int n) (xs := ns.map .int) (I.ok.hd hc) pl (reads_ints (ns := n :: ns) rv) (alike_ints (n :: ns)) (by
    have e := depth_ints (n :: ns)
    rw [List.map_cons] at e
    rw [e]
    omega) fun i v h' tk bs hv hr hk => ?_
  rw [PySem.W.maxD_ints] at hr
  cases hr with
  | int _ t => exact ⟨.int _, H, I.kept hk, ⟨t, rfl⟩, q⟩
end

section
variable {X : Cx} (K : PySem.W.Frag) (hK : X.K = K := by rfl)
include hK
theorem kMin (hu : X.A.units + 64 < cLine) (hc : X.calm = true := by rfl) : CallR X (.builtin "min") (cMinT K) := hK ▸ call_minT hc hu
theorem kMax (hu : X.A.units + 64 < cLine) (hc : X.calm = true := by rfl) : CallR X (.builtin "max") (cMaxT K) := hK ▸ call_maxT hc hu
theorem kFld {o : Expr} {f : Str} {p : Pos} {te : TE} (h : PE X (.Attribute o f p) (tFld X.K te f)) : PE X (.Attribute o f p) (tFld K te f) := hK ▸ h
theorem kBm {e : Expr} {T : String} {r : V → List V → Hp → VK → Prop} {to : TE} {t : TA} (h : PE X e (tBM X.K T r to t)) : PE X e (tBM K T r to t) := hK ▸ h
theorem kBm0 {e : Expr} {T : String} {r : V → List V → Hp → VK → Prop} {to : TE} (h : PE X e (tBM0 X.K T r to)) : PE X e (tBM0 K T r to) := hK ▸ h
def cTupOf (K : PySem.W.Frag) : List V → Hp → VK → Prop := fun xs H Q => ∃ p ys, xs = [.ref p] ∧ ((SqL K H p ys ∧ ∀ l, H l = none → Q (.ref l) (upd H l (.tup ys))) ∨ (SqT K H p ys ∧ Q (.ref p) H))
def cLstOf (K : PySem.W.Frag) : List V → Hp → VK → Prop := fun xs H Q => ∃ p ys, xs = [.ref p] ∧ (SqL K H p ys ∨ SqT K H p ys) ∧ ∀ l, H l = none → Q (.ref l) (upd H l (.lst ys))
def mJoin (K : PySem.W.Frag) : V → List V → Hp → VK → Prop := fun x xs H Q => ∃ a p, ∃ ys : List Str, x = .str a ∧ xs = [.ref p] ∧ (SqL K H p (ys.map V.str) ∨ SqT K H p (ys.map V.str)) ∧ (ys.map (·.length)).sum + ys.length * a.length ≤ 16777216 ∧ Q (.str (Txt.join a ys)) H
theorem kTupOf : CallR X (.type "tuple") (cTupOf K) := hK ▸ call_tuple_of
theorem kLstOf : CallR X (.type "list") (cLstOf K) := hK ▸ call_list_of
theorem kJoin : MtR X "str.join" (mJoin K) := hK ▸ mt_join
end
/-! ### a text, several times -/
def oMulP : R2 := fun x y H Q => oMul x y H Q ∨ ∃ (z : Str) (n : Int), x = .str z ∧ y = .int n ∧ MulOk z n ∧ Q (.str (Txt.mul z n)) H
theorem op_mulS {X : Cx} : OpR X (binaryOp .Mult) (fun x y H Q => ∃ (z : Str) (n : Int), x = .str z ∧ y = .int n ∧ MulOk z n ∧ Q (.str (Txt.mul z n)) H) := by
  intro P s σ H x y v u Q I rx ry h
  obtain ⟨z, n, rfl, rfl, ok, q⟩ := h
  obtain ⟨t, rfl⟩ := rx
  obtain ⟨t2, rfl⟩ := ry
  exact PySem.SB.mul ok fun t' k => ⟨.str _, H, I.tok _, ⟨t', rfl⟩, q⟩
theorem op_mulPP {X : Cx} : OpR X (binaryOp .Mult) oMulP := OpR.or op_mulP op_mulS
section
variable {K : PySem.W.Frag} {σ : L2.St} {H : Hp} {Q : VK} {D : Ends} {te tv : TE} {f : Str} {a C dx : Addr} {fs : List (Str × V)} {v : V} {t : TA} {sp : Sp} {W : WX}
theorem rd_fld (h : te σ H fun x H1 => ∃ a C dx fs v, x = .ref a ∧ H1 a = some (.ins C dx fs) ∧ Cls K C ∧ NoAttr K C f ∧ fs.lookup f = some v ∧ Q v H1) : tFld K te f σ H Q := h
theorem rd_fldv {P : Addr → Prop} : True := True.intro
theorem rd_mulN {x y : Int} (c : CMul x y) (h : Q (.int (x * y)) H) : oMulP (.int x) (.int y) H Q := .inl ⟨x, y, rfl, rfl, c, h⟩
theorem rd_mulT {z : Str} {n : Int} (c : MulOk z n) (h : Q (.str (Txt.mul z n)) H) : oMulP (.str z) (.int n) H Q := .inr ⟨z, n, rfl, rfl, c, h⟩
theorem rd_tupL {p : Addr} {ys : List V} (e : SqL K H p ys) (h : ∀ l, H l = none → Q (.ref l) (upd H l (.tup ys))) : cTupOf K [.ref p] H Q := ⟨p, ys, rfl, .inl ⟨e, h⟩⟩
theorem rd_tupT {p : Addr} {ys : List V} (e : SqT K H p ys) (h : Q (.ref p) H) : cTupOf K [.ref p] H Q := ⟨p, ys, rfl, .inr ⟨e, h⟩⟩
theorem rd_lstL {p : Addr} {ys : List V} (e : SqL K H p ys ∨ SqT K H p ys) (h : ∀ l, H l = none → Q (.ref l) (upd H l (.lst ys))) : cLstOf K [.ref p] H Q := ⟨p, ys, rfl, e, h⟩
theorem rd_idx {z : Str} {c : Nat} (hc : c ∈ z.cps.toList) (h : Q (.int (z.cps.toList.idxOf c : Nat)) H) : mIdx (.str z) [.str ⟨#[c]⟩] H Q := ⟨z, c, rfl, rfl, hc, h⟩
end

/-! ### comprehensions whose parts change the heap: P of the new list's place, the turn, what is in it, the heap -/
theorem lc_gen {J : It} {n j : Nat} {G : Hp → Prop} {Y : Nat → Hp → V → Hp → Prop} {xs : Nat → V} {σ : L2.St} {H : Hp} {Q : VK} {te : TE} (P : Addr → Nat → List V → Hp → Prop) (w : Walk J n G Y) (hY : ∀ i H x H', i < n → Y i H x H' → H' = H ∧ x = xs i) (hn : n < 100000)
    (h0 : ∀ L, H L = none → P L 0 [] (upd H L (.lst []))) (hG : ∀ L i vs Hc, H L = none → P L i vs Hc → G Hc)
    (he : ∀ L i vs Hc, i < n → H L = none → Hc L = some (.lst vs) → vs.length = i → P L i vs Hc → ∀ N : VK, (∀ v H2, H2 L = some (.lst vs) → P L (i + 1) (vs ++ [v]) (upd H2 L (.lst (vs ++ [v]))) → N v H2) → te ((wipe σ [j]).set j (some (xs i))) Hc N)
    (h : ∀ L vs Hc, H L = none → Hc L = some (.lst vs) → vs.length = n → P L n vs Hc → Q (.ref L) Hc) : lcB (gName j) tYes te [j] σ Q J H := by
  intro L hL
  refine lc_it w (fun i Hc => ∃ vs, Hc L = some (.lst vs) ∧ vs.length = i ∧ P L i vs Hc) ⟨[], upd_same, rfl, h0 L hL⟩ (fun i Hc _ p => ?_) (fun i x Hc H' hi p y => ?_) fun Hc p => ?_
  · obtain ⟨vs, _, _, p⟩ := p
    exact hG L i vs Hc hL p
  · obtain ⟨vs, h1, h2, p⟩ := p
    obtain ⟨rfl, rfl⟩ := hY _ _ _ _ hi y
    refine ⟨by simp [wipe], rd_yes ?_⟩
    refine rd_iteT ?_
    refine he L i vs _ hi hL h1 h2 p _ fun v H2 z1 z2 => ?_
    exact ⟨vs, z1, Nat.lt_of_lt_of_le (by rw [h2]; omega : vs.length < 100000) (by decide), vs ++ [v], upd_same, by rw [List.length_append, h2]; rfl, z2⟩
  · obtain ⟨vs, h1, h2, p⟩ := p
    exact h L vs Hc hL h1 h2 p
/-- the heap but for one place -/
def hide (L : Addr) (H : Hp) : Hp := fun b => if b = L then none else H b
theorem hide_ne {L b : Addr} {H : Hp} (h : b ≠ L) : hide L H b = H b := if_neg h
theorem hide_ex {L : Addr} {H : Hp} : Ex (hide L H) H := fun b o e => by
  by_cases h : b = L
  · rw [h] at e
    have z : hide L H L = none := if_pos rfl
    rw [z] at e
    cases e
  · rw [hide_ne h] at e
    exact e
theorem hide_mono {L : Addr} {H H' : Hp} (k : ∀ b o, b ≠ L → H b = some o → H' b = some o) : Ex (hide L H) (hide L H') := fun b o e => by
  by_cases h : b = L
  · rw [h] at e
    have z : hide L H L = none := if_pos rfl
    rw [z] at e
    cases e
  · rw [hide_ne h] at e ⊢
    exact k b o h e
theorem ex_hide {L : Addr} {H H' : Hp} (hL : H L = none) (e : Ex H H') : Ex H (hide L H') := fun b o q => by
  rw [hide_ne (ne_of_none q hL)]
  exact e b o q
/-- each value is new or stood before: R of the turn, the value and the heap without the new list -/
theorem lc_new {J : It} {n j : Nat} {G : Hp → Prop} {Y : Nat → Hp → V → Hp → Prop} {xs : Nat → V} {σ : L2.St} {H : Hp} {Q : VK} {te : TE} (R : Nat → V → Hp → Prop) (w : Walk J n G Y) (hY : ∀ i H x H', i < n → Y i H x H' → H' = H ∧ x = xs i) (hn : n < 100000)
    (hG : ∀ Hc, Ex H Hc → G Hc) (mR : ∀ i v H1 H2, Ex H1 H2 → R i v H1 → R i v H2)
    (he : ∀ L i Hc, i < n → H L = none → (∃ vs, Hc L = some (.lst vs)) → Ex H Hc → ∀ N : VK, (∀ v H2, Ex Hc H2 → R i v (hide L H2) → N v H2) → te ((wipe σ [j]).set j (some (xs i))) Hc N)
    (h : ∀ L vs Hc, H L = none → Ex H Hc → Hc L = some (.lst vs) → vs.length = n → (∀ i v, vs[i]? = some v → R i v (hide L Hc)) → Q (.ref L) Hc) : lcB (gName j) tYes te [j] σ Q J H := by
  refine lc_gen (fun L i vs Hc => Ex H Hc ∧ ∀ i v, vs[i]? = some v → R i v (hide L Hc)) w hY hn (fun L hL => ⟨Evl.Ex.new hL, fun i v z => by cases z⟩) (fun L i vs Hc _ p => hG Hc p.1) (fun L i vs Hc hi hL h1 h2 p N hN => ?_) (fun L vs Hc hL h1 h2 p => h L vs Hc hL p.1 h1 h2 p.2)
  refine he L i Hc hi hL ⟨vs, h1⟩ p.1 N fun v H2 e2 r2 => hN v H2 (e2 L _ h1) ?_
  have kp : Ex (hide L H2) (hide L (upd H2 L (.lst (vs ++ [v])))) := hide_mono fun b o hb q => by rw [upd_ne hb]; exact q
  have kp0 : Ex (hide L Hc) (hide L H2) := hide_mono fun b o _ q => e2 b o q
  refine ⟨Evl.Ex.mut (p.1.trans e2) hL, fun i' v' hv => ?_⟩
  by_cases hlt : i' < vs.length
  · rw [List.getElem?_append_left hlt] at hv
    exact mR _ _ _ _ (kp0.trans kp) (p.2 i' v' hv)
  · rw [List.getElem?_append_right (by omega)] at hv
    have e0 : i' - vs.length = 0 := by
      rcases Nat.eq_zero_or_pos (i' - vs.length) with z | z
      · exact z
      · rw [List.getElem?_eq_none (by simp; omega)] at hv
        cases hv
    rw [e0] at hv
    obtain rfl : v = v' := Option.some.inj hv
    have e3 : i' = i := by omega
    rw [e3]
    exact mR _ _ _ _ kp r2

theorem rd_sfld {K : PySem.W.Frag} {ta tv : TE} {f : Str} {D : Ends} {σ : L2.St} {H : Hp} (h : tv σ H fun y H1 => ta σ H1 fun x H2 => ∃ a C dx fs, x = .ref a ∧ H2 a = some (.ins C dx fs) ∧ Cls K C ∧ NoAttr K C f ∧ fs.length < 1000 ∧ D.nx σ (upd H2 a (.ins C dx (putF f y fs)))) : sFld K ta tv f D σ H := h
theorem kSf {X : Cx} (K : PySem.W.Frag) (hK : X.K = K := by rfl) {st : Stmt} {ta tv : TE} {f : Str} (h : PS X st (sFld X.K ta tv f)) : PS X st (sFld K ta tv f) := hK ▸ h

section
variable {K : PySem.W.Frag} {σ : L2.St} {H : Hp} {Q : VK} {te to : TE} {t : TA} {C : Addr} {m f : Str} {sp : Sp} {W : WX} {dvs : List V} {E : XK}
theorem rd_makeR (h : t σ H fun vs H1 => ∀ x dx, H1 x = none → H1 dx = none → dx ≠ x → sp (.ref x :: vs) (upd (upd H1 dx (.own x)) x (.ins C dx [])) (fun v H2 => v = .non ∧ Q (.ref x) H2) fun c d H2 => W c d σ H2) : tMakeR C sp W t σ H Q := h
theorem rd_methR (h : to σ H fun x H1 => ∃ a dx fs, x = .ref a ∧ H1 a = some (.ins C dx fs) ∧ fs.lookup m = none ∧ t σ H1 fun vs H2 => sp (x :: vs) H2 Q fun c d H3 => W c d σ H3) : tMethR C m sp W to t σ H Q := h
theorem rd_meth (h : to σ H fun x H1 => ∃ a dx fs, x = .ref a ∧ H1 a = some (.ins C dx fs) ∧ fs.lookup m = none ∧ t σ H1 fun vs H2 => sp (x :: (vs ++ dvs)) H2 Q E) : tMeth C m sp dvs E to t σ H Q := h
theorem rd_notV (h : te σ H fun x H1 => ∃ c, x = .bl c ∧ Q (.bl (!c)) H1) : tNotV te σ H Q := h
theorem rd_xf {a : Addr} {cls : Value} {d : Option Addr} {C : Addr} {f : Str} (h : te σ H fun x H1 => x = .ref a ∧ cls = .ref C ∧ ∃ (dd : Addr) (fs : List (Str × V)) (v : V), d = some dd ∧ H1 dd = some (.xd fs) ∧ fs.lookup f = some v ∧ Q v H1) : tXf a cls d C f te σ H Q := h
end
/-! ### more on comprehensions, numbers, texts -/
theorem look_map {f : NameKind → Bool} : ∀ (l : List (Str × NameKind)) (y : Str), (l.lookup y = some .cell ∨ l.lookup y = some .free) → ∀ g : Str × NameKind → Str × NameKind, (∀ n k, g (n, k) = (n, k) ∨ (k = .free ∧ g (n, k) = (n, .cell))) → ((l.map g).lookup y = some .cell ∨ (l.map g).lookup y = some .free)
  | [], _, h, _, _ => by rcases h with h | h <;> cases h
  | (n, k) :: l, y, h, g, hg => by
    rw [List.map_cons]
    rw [List.lookup_cons] at h
    cases e : y == n with
    | true =>
      rw [e] at h
      rcases hg n k with z | ⟨z1, z2⟩
      · rw [z, List.lookup_cons, e]; exact h
      · rw [z2, List.lookup_cons, e]; exact .inl rfl
    | false =>
      rw [e] at h
      have ih := look_map (f := f) l y h g hg
      rcases hg n k with z | ⟨z1, z2⟩
      · rw [z, List.lookup_cons, e]; exact ih
      · rw [z2, List.lookup_cons, e]; exact ih
theorem blkOk_in {X : Cx} {N : List Str} (hN : X.N = N) {s : Shared} {H : Hp} {sc0 scope : Scope} {C : Addr} {cl : List (Str × Addr)} {fp : List Addr} {own : List (Str × Nat)} (h : blkC N sc0 scope own = true) :
    BlkOk (X.blk s H sc0 (compEnvC sc0 cl C X.env) fp).N (X.blk s H sc0 (compEnvC sc0 cl C X.env) fp).env.scope scope own := by
  subst hN
  have b := blkOk_by h
  refine ⟨b.kind, b.uniq, b.ix, fun y hy hf => ?_, b.own⟩
  refine look_map (f := fun _ => true) _ _ (b.free y hy hf) _ fun n k => ?_
  by_cases c : (k == NameKind.free && X.env.scope.kind == ScopeKind.function && X.env.kindOf n == some NameKind.cell) = true
  · right
    refine ⟨?_, if_pos c⟩
    have c1 : (k == NameKind.free) = true := by
      rw [Bool.and_eq_true, Bool.and_eq_true] at c
      exact c.1.1
    cases k <;> first | rfl | cases c1
  · left
    exact if_neg c
theorem given_range (v : Nat → V) : ∀ n, Evl.given n (fun _ => true) v = (List.range n).map v
  | 0 => rfl
  | n + 1 => by rw [Evl.given_yes rfl, given_range v n, List.range_succ, List.map_append]; rfl
/-- a comprehension whose parts leave the heap, without a test -/
theorem lc_map {J : It} {n j : Nat} {G : Hp → Prop} {Y : Nat → Hp → V → Hp → Prop} {xs v : Nat → V} {σ : L2.St} {H : Hp} {Q : VK} {te : TE} (w : Walk J n G Y) (hY : ∀ i H x H', i < n → Y i H x H' → H' = H ∧ x = xs i) (hG : ∀ Hc, Ex H Hc → G Hc) (hn : n < 100000)
    (he : ∀ i Hc, i < n → Ex H Hc → Val te ((wipe σ [j]).set j (some (xs i))) Hc (v i))
    (h : ∀ L, H L = none → Q (.ref L) (upd H L (.lst ((List.range n).map v)))) : lcB (gName j) tYes te [j] σ Q J H := by
  refine lc_pure (f := fun _ => true) w hY hG hn (fun _ _ _ _ => ans_yes) (fun i Hc hi e _ => he i Hc hi e) fun L hL => ?_
  rw [given_range]
  exact h L hL
theorem walk_range0 {n : Nat} : Walk (Itr 0 n) n (fun _ => True) fun i H x H' => H' = H ∧ x = V.int (i : Nat) := by
  obtain ⟨a, b, c⟩ := walk_range (lo := 0) (n := n)
  refine ⟨a, b, fun i H x H' hi g y => ?_⟩
  have := c i H x H' hi g y
  refine ⟨this.1, ?_⟩
  rw [this.2]
  show V.int (0 + (i : Int)) = _
  rw [Int.zero_add]
theorem fmod_nat (a m : Nat) : Int.fmod (a : Int) (m : Int) = ((a % m : Nat) : Int) := by
  rw [Int.fmod_eq_emod_of_nonneg _ (Int.natCast_nonneg m)]
  rfl
theorem fold_app (c : Nat) : ∀ (k : Nat) (a : Array Nat), (List.foldl (fun x y => x ++ y) a (List.replicate k #[c])).toList = a.toList ++ List.replicate k c
  | 0, a => by simp
  | k + 1, a => by
    rw [List.replicate_succ, List.foldl_cons, fold_app c k, List.replicate_succ]
    simp
theorem mul_sign (c : Nat) (n : Int) (h : 0 < n) : (Txt.mul ⟨#[c]⟩ n).cps.toList = List.replicate n.toNat c := by
  unfold Txt.mul
  rw [if_neg (by omega)]
  by_cases e : n = 1
  · subst e; rfl
  · have hb : (n == 1 || (⟨#[c]⟩ : Str).length == 0) = false := by
      have : (⟨#[c]⟩ : Str).length = 1 := rfl
      simp [e, this]
    rw [if_neg (by rw [hb]; decide)]
    show (List.foldl (fun x y => x ++ y) #[] (List.replicate n.toNat #[c])).toList = _
    rw [fold_app]
    rfl
theorem ixN_nat {n j : Nat} (h : j < n) : ixN n (j : Int) = some j := by
  unfold ixN
  rw [if_pos (Int.natCast_nonneg j), if_pos (by omega), Int.toNat_natCast]
theorem seqIndex_nat {n j : Nat} (h : j < n) : seqIndex? (j : Int) n = some j := by
  unfold seqIndex?
  have h0 : ¬ (j : Int) < 0 := by omega
  simp only [h0, if_false]
  rw [if_pos (by simp; omega), Int.toNat_natCast]
theorem erase_map {α β : Type} (f : α → β) : ∀ (l : List α) (j : Nat), (l.map f).eraseIdx j = (l.eraseIdx j).map f
  | [], _ => rfl
  | _ :: _, 0 => rfl
  | a :: l, j + 1 => by
    show f a :: (l.map f).eraseIdx j = f a :: (l.eraseIdx j).map f
    rw [erase_map f l j]
theorem mulOk_sign (c : Nat) {n : Int} (h0 : 0 < n) (h1 : n < 100000) : MulOk ⟨#[c]⟩ n := by
  have e : (⟨#[c]⟩ : Str).length = 1 := rfl
  refine ⟨by simp; omega, fun _ _ => ?_, fun _ _ => ?_⟩
  · rw [e]
    intro hh
    have : ((2:Int) ^ 63 - 1) / n ≥ 1 := by
      refine Int.le_ediv_of_mul_le h0 ?_
      omega
    omega
  · rw [e]
    unfold Builtin.Str.tooLong
    have : sizeLine ≥ 100000 := by decide
    exact decide_eq_false (by omega)
theorem first_at {l : List Nat} {c : Nat} {r : List Nat} (h : l = c :: r) : l.idxOf c = 0 := by
  rw [h]
  exact List.idxOf_cons_self
theorem atI_last {α : Type} {l : List α} (h : 0 < l.length) : atI l (-1) = some (l[l.length - 1]'(by omega)) := by
  have e : ixN l.length (-1) = some (l.length - 1) := by
    unfold ixN
    rw [if_neg (by decide), if_pos (by omega)]
    congr 1
    omega
  show (ixN l.length (-1)).bind (fun j => l[j]?) = _
  rw [e]
  exact List.getElem?_eq_getElem _
end AT

set_option Elab.async false
set_option linter.all false
set_option maxRecDepth 100000
set_option maxHeartbeats 4000000
/-! own words, third part: a law's own def, run where nothing is being shown; the repr of data -/
namespace AT
open PySem PySem.Spec L2
/-- as FnOk, but only where no repr is under way -/
structure FnG (P : Program) (w : World) (K : PySem.W.Frag) (mg : Str → Option Value) (base : Heap) (CX : CXT) (k : Nat) (f : Addr) (fd : FuncData) (ps : List Str) (sp : Sp) : Prop where
  len : ∀ vs H Q E, sp vs H Q E → vs.length = ps.length
  run : ∀ (A : Around) (outer : List Env) (s : Shared) (H : Hp) (args : Args) (us : List Value) (vs : List V) (Q : VK) (E : XK), A.guards = some [] → Room k A → Env0 P w K mg base A outer s H → BindsTo s fd args (ps.zip us) → Vals vs us → sp vs H Q E →
    codeAny (model P w) A (.call (.ref f) args) (CR CX outer P w H s Q E) s
theorem fn_ofG {CX : CXT} {P : Program} {w : World} {K : PySem.W.Frag} {mg : Str → Option Value} {base : Heap} {k : Nat} {f : Addr} {name qual : Str} {params : Arguments} {body : List Stmt} {scope : Scope} {dV kV doc pm cdv ct oc : Value} {an od : Option Addr} {osl : Array (Option Value)} {N ps : List Str} {sp : Sp}
    (lk : List.lookup f K = some { cls := oc, dict := od, data := Data.func (PySem.W.fnOf name qual params body scope dV kV doc pm an cdv ct), slots := osl }) (hcd : PySem.W.codeIn K cdv qual = true) (S : FnScope N ps scope)
    (len : ∀ vs H Q E, sp vs H Q E → vs.length = ps.length)
    (hb : ∀ (A : Around) (outer : List Env) (s : Shared) (H : Hp) (vs : List V) (Q : VK) (E : XK), A.guards = some [] → Room k (A.deeper (PyProof.Rows.envOfC qual scope s.heap.objs.size f cdv)) → sp vs H Q E →
      ∃ t, PSs (cxOf CX P w K mg base N qual scope f cdv A outer s H E) body t ∧ t { nx := fun _ H' => Q .non H', rt := Q } (L2.start N vs) H) :
    FnG P w K mg base CX (k + 1) f (PySem.W.fnOf name qual params body scope dV kV doc pm an cdv ct) ps sp := by
  refine ⟨len, fun A outer s H args us vs Q E hg hr e0 bd rv hsp => ?_⟩
  have hl := len vs H Q E hsp
  have KX : K.In s.heap := e0.mod.kin.keeps fun b o e => (e0.bs b o e).1
  have lim : s.heap.NoLimit := e0.mod.nolimit.keeps fun b o e => (e0.bs b o e).1
  refine codeAny_call_function hr.depth (KX f _ lk) rfl S.co S.gen rfl (PySem.W.codeRec_of KX hcd) (bd _ _ _ _ ?_)
  refine wpAny_newFunctionEnv_cells S.kind (fun x hx => ?_) fun env he s1 x => ?_
  · obtain ⟨n, v⟩ := x
    rcases S.par n (List.of_mem_zip hx).1 with q | q
    · exact .inl q
    · exact .inr ⟨q, PySem.W.cellsFrom_some scope.names (s.heap.objs.size + 1) [] (.inl q)⟩
  · subst he
    refine ⟨lim.keeps x.toInCall.keep, codeAny_func ?_⟩
    obtain ⟨t, ht, hq⟩ := hb A outer s H vs Q E hg (hr.deeper _) hsp
    have I := inv_start (CX := CX) (E := E) S hr.hd e0 hl rv x
    refine wpAny_mono (ht.run [] s1 (L2.start N vs) H _ I hq) (fun fl s' hs => ?_) fun e s' hs => hs
    cases fl with
    | next =>
      obtain ⟨σ', H', J, q⟩ := hs
      exact ⟨.non, H', J.os, J.bare, J.base, J.hok, rfl, q⟩
    | brk =>
      obtain ⟨_, _, _, q⟩ := hs
      exact q.elim
    | cont =>
      obtain ⟨_, _, _, q⟩ := hs
      exact q.elim
    | ret u =>
      obtain ⟨v, σ', H', J, rv, q⟩ := hs
      exact ⟨v, H', J.os, J.bare, J.base, J.hok, rv, q⟩
theorem _root_.L2.Fun.okG {P : Program} {w : World} {K : PySem.W.Frag} {mg : Str → Option Value} {base : Heap} {x qual : Str} {st : Stmt} {f : Addr} {fd : FuncData} {N ps : List Str} {k : Nat} {sp : Sp} (F : Fun K x qual st f fd) (S : FnScope N ps (defScope st)) (len : ∀ vs H Q E, sp vs H Q E → vs.length = ps.length)
    (hb : ∀ (cdv : Value) (A : Around) (outer : List Env) (s : Shared) (H : Hp) (vs : List V) (Q : VK) (E : XK), A.guards = some [] → Room k (A.deeper (PyProof.Rows.envOfC qual (defScope st) s.heap.objs.size f cdv)) → sp vs H Q E →
      ∃ t, PSs (cxOf CX0 P w K mg base N qual (defScope st) f cdv A outer s H E).nox (defBody st) t ∧ t { nx := fun _ H' => Q .non H', rt := Q } (L2.start N vs) H) : FnG P w K mg base CX0 (k + 1) f fd ps sp := by
  obtain ⟨oc, od, kV, doc, pm, an, cdv, ct, osl, rfl, lk, hcd⟩ := F.ex
  refine fn_ofG lk hcd S len fun A outer s H vs Q E hg hr hsp => ?_
  obtain ⟨t, h, q⟩ := hb cdv A outer s H vs Q E hg hr hsp
  exact ⟨t, PSs.nox h, q⟩
theorem law_callG {P : Program} {w : World} {K : PySem.W.Frag} {mg mb : Str → Option Value} {k : Nat} {fa a : Addr} {fd : FuncData} {x : Str} {sp : Sp} {s₁ : Shared} {vs : List Value} {ns : List Int}
    (KX : K.In s₁.heap) (hns : s₁.heap.Ns mainGlobals mg) (hb : s₁.heap.Ns builtinsNs mb) (hbb : ∀ x : Str, x ≠ "__name__" → mb x = bootBuiltins x) (hlim : s₁.heap.NoLimit) (hg : s₁.gens = #[]) (ha : s₁.heap.get? a = some { cls := .type "list", data := .seq vs.toArray })
    (hi : PyProof.Rows.IntsAre vs ns) (hl : ns.length ≤ sizeLine) (hr : Room k callerA) (F : ∀ base : Heap, K.In base → base.Ns mainGlobals mg → FnG P w K mg base CX0 k fa fd [x] sp) (hbind : ∀ (s : Shared) (u : Value), BindsTo s fd { pos := [u] } [(x, u)])
    (hsp : ∀ H : Hp, Only H → SqL K H a (ns.map V.int) → sp [.ref a] H (fun v _ => v = .bl true) E0) :
    codeAny (model P w) callerA (.call (.ref fa) { pos := [.ref a] }) (fun r s' => r = .ok (.ret (.bool true)) ∧ OldK s₁.heap s'.heap ∧ s'.os = s₁.os ∧ PyProof.Rows.AllBare s'.gens) s₁ := by
  have core : ∀ H : Hp, Only H → SqL K H a (ns.map V.int) → HOk P w H s₁.heap → (∀ b, H b ≠ none → b = a) → (H a ≠ none → K.lookup a = none) →
      codeAny (model P w) callerA (.call (.ref fa) { pos := [.ref a] }) (fun r s' => r = .ok (.ret (.bool true)) ∧ OldK s₁.heap s'.heap ∧ s'.os = s₁.os ∧ PyProof.Rows.AllBare s'.gens) s₁ := by
    intro H hO hS hok hA hK
    have nd : ∀ {b : Addr} {o : Obj} {es ep}, s₁.heap.get? b = some o → o.data = .dict es ep → H b = none := by
      intro b o es ep e d
      cases q : H b with
      | none => rfl
      | some u =>
        obtain rfl := hA b (by rw [q]; exact fun z => by cases z)
        rw [ha] at e
        obtain rfl := Option.some.inj e
        cases d
    have nsK : ∀ {b : Addr} {m : Str → Option Value}, s₁.heap.Ns b m → (hidT s₁.heap H).Ns b m := by
      rintro b m ⟨o, es, ep, e, d, r⟩
      exact ⟨o, es, ep, hidT_get e (nd e d), d, r⟩
    have hKb : K.In (hidT s₁.heap H) := fun b o e => hidT_get (KX b o e) (by
      cases q : H b with
      | none => rfl
      | some u =>
        have nb : H b ≠ none := by rw [q]; exact fun z => by cases z
        obtain rfl := hA b nb
        have z := hK nb
        rw [e] at z
        cases z)
    have hM : L2.Mod K mg (hidT s₁.heap H) := ⟨hKb, nsK hns, ⟨mb, nsK hb, hbb⟩, by
      obtain ⟨mc, h1, h2⟩ := hlim
      exact ⟨mc, nsK h1, h2⟩⟩
    have e0 : Env0 P w K mg (hidT s₁.heap H) callerA [] s₁ H := ⟨rfl, hM, fun b o e => of_hidT e, Nat.le_of_eq (hidT_size s₁.heap H), trivial, (fun b z => by cases z), hok, PyProof.Rows.AllBare.of_eq hg⟩
    refine codeAny_mono ((F (hidT s₁.heap H) hKb (nsK hns)).run callerA [] s₁ H { pos := [.ref a] } [.ref a] [.ref a] _ E0 rfl hr e0 (hbind s₁ (.ref a)) (.cons rfl .nil) (hsp H hO hS)) fun r s' z => ?_
    cases r with
    | error e => exact absurd z fun z => by cases z
    | ok fl =>
      cases fl with
      | next => exact z.elim
      | brk => exact z.elim
      | cont => exact z.elim
      | ret u =>
        obtain ⟨v, H', os, bare, un, hok', rv, rfl⟩ := z
        obtain rfl : u = .bool true := rv
        refine ⟨rfl, OldK.of_keep fun b o e => ?_, os, bare⟩
        cases q : H b with
        | none => exact un.keep b o e q (fun z => by cases z) (fun z => by cases z)
        | some u =>
          rcases hO b with z | ⟨ob, xs, z⟩
          · rw [z] at q; cases q
          · have z2 := un.frzs b ob (.lst xs) z
            have e1 := (hok b _ z).1
            have e2 := (hok' b _ z2).1
            rw [e] at e1
            rw [e2, e1]
  cases hk : K.lookup a with
  | none =>
    refine core (fun b => if b = a then some (.frz { cls := .type "list", data := .seq vs.toArray } (.lst (ns.map V.int))) else none) (fun b => ?_) (.inl (.inr ⟨_, if_pos rfl⟩)) (fun b u z => ?_) (fun b z => ?_) fun _ => hk
    · by_cases e : b = a
      · exact .inr ⟨_, _, if_pos e⟩
      · exact .inl (if_neg e)
    · by_cases e : b = a
      · subst e
        have z' := (if_pos rfl).symm.trans z
        obtain rfl := Option.some.inj z'
        exact ⟨ha, by rw [List.length_map]; exact hl, vs, _, vals_ints hi, ha⟩
      · have z' := (if_neg e).symm.trans z
        cases z'
    · by_cases e : b = a
      · exact e
      · exact absurd (if_neg e) z
  | some o =>
    refine core (fun _ => none) (fun _ => .inl rfl) ?_ (fun b u z => by cases z) (fun b z => absurd rfl z) fun z => absurd rfl z
    have e := KX a o hk
    rw [ha] at e
    obtain rfl := Option.some.inj e
    refine .inr ⟨_, vs.toArray, _, hk, rfl, rfl, rfl, ?_, vals_ints hi⟩
    have := PyProof.Rows.IntsAre.length hi
    rw [List.size_toArray]
    omega
theorem walk_ofG {l : PySem.W.OpenLaw} {n k : Nat} {q : Program} {loose : List Str} {XP : (Str → Option Value) → Heap → Prop} {YP : World → Heap → Prop} {d : DefRec} {K : Params → PySem.W.Frag} {sp : PySem.W.Frag → Sp} {x : Str}
    (hn : l.most = some n) (hn2 : n ≤ sizeLine) (hdf : d.params.defaults = []) (hr : Room k callerA) (hY : ∀ (w : World) (h : Heap), YP w h → (K w.params).In h)
    (F : ∀ (w : World) (mg : Str → Option Value) (fa : Addr) (h : Heap), (K w.params).In h → h.Ns mainGlobals mg → mg d.name = some (.ref fa) → ∃ fd, (∀ (s : Shared) (u : Value), BindsTo s fd { pos := [u] } [(x, u)]) ∧ ∀ base : Heap, (K w.params).In base → base.Ns mainGlobals mg → FnG l.prog w (K w.params) mg base CX0 k fa fd [x] (sp (K w.params)))
    (hsp : ∀ (K : PySem.W.Frag) (H : Hp) (a : Addr) (ns : List Int), ns.length ≤ n → Only H → SqL K H a (ns.map V.int) → sp K [.ref a] H (fun v _ => v = .bl true) E0) : PySem.W.WalkO q loose XP YP l.row.toRowW d [] fun f vs => PySem.call f vs :=
  Att.attach_call hn hdf fun w s₀ s₁ mg mb fa o pm cd doc a vs ns G Y ho hd hcd hmg hobj hints hlen hg => by
    obtain ⟨fd, hb, hF⟩ := F w mg fa s₁.heap (hY w s₁.heap Y) G.T.g hmg
    exact law_callG (hY w s₁.heap Y) G.T.g G.T.b G.T.builtins G.T.nolimit hg hobj hints (Nat.le_trans hlen hn2) hr hF hb fun H hO hS => hsp _ H a ns hlen hO hS
/-- repr(v): v lists and tuples of plain values -/
def cReprD (K : PySem.W.Frag) : List V → Hp → VK → Prop := fun xs H Q => cRepr xs H Q ∨ ∃ (a : Addr) (d : PyData), xs = [.ref a] ∧ Dp K H (.ref a) d ∧ d.showable = true ∧ d.hasDict = false ∧ d.depth ≤ 60 ∧ d.shown.length ≤ sizeLine ∧ Q (.str d.shown) H
theorem call_reprD {X : Cx} (hg : X.A.guards = some []) (hu : X.A.units + 64 < cLine) : CallR X (.builtin "repr") (cReprD X.K) := by
  refine CallR.or call_reprP ?_
  intro P s σ H vs us Q I r h
  obtain ⟨a, d, rfl, hd, sh, nd, dl, sl, q⟩ := h
  obtain ⟨u, rfl, ru⟩ := vals1 r
  cases (show u = Value.ref a from ru)
  obtain ⟨as, rd⟩ := Dp.reads I d _ _ hd ru
  refine repr_of_reads' rd sh (fun z => by rw [nd] at z; cases z) hg (by omega) (fun b o e => e) (fun h' u tk hk => ?_) sl
  exact ⟨.str d.shown, H, I.kept hk, ⟨u, rfl⟩, q⟩
/-! ### how long what is shown may be -/
theorem join_len (sep : Str) (B : Nat) : ∀ ss : List Str, (∀ s ∈ ss, s.length ≤ B) → (Str.join sep ss).length ≤ ss.length * (B + sep.length)
  | [], _ => by unfold Str.join; exact Nat.zero_le _
  | [x], h => by
    unfold Str.join
    have := h x List.mem_cons_self
    simp
    omega
  | x :: y :: r, h => by
    have ih := join_len sep B (y :: r) fun s hs => h s (List.mem_cons_of_mem _ hs)
    have hx := h x List.mem_cons_self
    unfold Str.join
    rw [TL.len_tl, TL.tl_append, TL.tl_append, List.length_append, List.length_append, ← TL.len_tl, ← TL.len_tl, ← TL.len_tl]
    rw [List.length_cons, Nat.succ_mul]
    omega
theorem tuple_len {B : Nat} {ss : List Str} (h : ∀ s ∈ ss, s.length ≤ B) : (tupleText ss).length ≤ ss.length * (B + 2) + 3 := by
  have j := join_len (Str.ofString ", ") B ss h
  have e2 : (Str.ofString ", ").length = 2 := by decide +kernel
  rw [e2] at j
  unfold tupleText
  rw [TL.len_tl, TL.tl_append, TL.tl_append, List.length_append, List.length_append, ← TL.len_tl, ← TL.len_tl, ← TL.len_tl]
  have e1 : (Str.ofString "(").length = 1 := by decide +kernel
  have e3 : (Str.ofString (if (ss.length == 1) = true then ",)" else ")")).length ≤ 2 := by
    cases (ss.length == 1) <;> decide +kernel
  omega
theorem foldl_len {f : Nat → Array Nat} {B : Nat} : ∀ (l : List Nat) (a : Array Nat), (∀ c ∈ l, (f c).size ≤ B) → (l.foldl (fun out c => out ++ f c) a).size ≤ a.size + l.length * B
  | [], a, _ => by simp
  | c :: l, a, h => by
    have ih := foldl_len (f := f) (B := B) l (a ++ f c) fun d hd => h d (List.mem_cons_of_mem _ hd)
    have hc := h c List.mem_cons_self
    rw [List.foldl_cons, List.length_cons, Nat.succ_mul]
    rw [Array.size_append] at ih
    omega
theorem repr_len {z : Str} {B : Nat} (h : ∀ c ∈ z.cps.toList, (Builtin.Str.reprChar (reprQuote z) c).length ≤ B) : (reprText z).length ≤ 2 + z.length * B := by
  show ((Array.foldl (fun out c => out ++ (Builtin.Str.reprChar (reprQuote z) c).toArray) #[reprQuote z] z.cps).push (reprQuote z)).size ≤ _
  rw [Array.size_push, ← Array.foldl_toList]
  have := foldl_len (f := fun c => (Builtin.Str.reprChar (reprQuote z) c).toArray) (B := B) z.cps.toList #[reprQuote z] (fun c hc => by rw [List.size_toArray]; exact h c hc)
  have e : z.cps.toList.length = z.length := rfl
  rw [e] at this
  have e1 : (#[reprQuote z] : Array Nat).size = 1 := rfl
  omega
theorem quote_or (z : Str) : reprQuote z = 34 ∨ reprQuote z = 39 := by
  unfold reprQuote
  split
  · exact .inl rfl
  · exact .inr rfl
theorem repr_pl : ∀ c ∈ ("abcdefghijklmnopqrstuvwxyzABCDEFGHIJKLMNOPQRSTUVWXYZ0123456789<>=:_@#" : Str).cps.toList, (Builtin.Str.reprChar 34 c).length ≤ 10 ∧ (Builtin.Str.reprChar 39 c).length ≤ 10 := by decide +kernel
theorem small_text : ∀ n : Nat, n < 100 → (Str.ofString (toString (n : Int))).length ≤ 4 ∧ (n : Int).natAbs.log2 < 1920 := by decide +kernel
/-- data that may be shown: at most so long, so deep -/
structure Okd (d : PyData) (L D : Nat) : Prop where
  sh : d.showable = true
  nd : d.hasDict = false
  dp : d.depth ≤ D
  ln : d.shown.length ≤ L
theorem Okd.mono {d : PyData} {L D L' D' : Nat} (h : Okd d L D) (h1 : L ≤ L') (h2 : D ≤ D') : Okd d L' D' := ⟨h.sh, h.nd, Nat.le_trans h.dp h2, Nat.le_trans h.ln h1⟩
theorem Okd.bool (b : Bool) : Okd (.bool b) 5 0 := ⟨rfl, rfl, Nat.le_refl 0, by cases b <;> decide +kernel⟩
theorem Okd.int {n : Nat} (h : n < 100) : Okd (.int (n : Int)) 4 0 := ⟨decide_eq_true (small_text n h).2, rfl, Nat.le_refl 0, (small_text n h).1⟩
theorem Okd.str {z : Str} (h : ∀ c ∈ z.cps.toList, c ∈ ("abcdefghijklmnopqrstuvwxyzABCDEFGHIJKLMNOPQRSTUVWXYZ0123456789<>=:_@#" : Str).cps.toList) : Okd (.str z) (2 + z.length * 10) 0 := ⟨rfl, rfl, Nat.le_refl 0, repr_len fun c hc => by
  rcases quote_or z with e | e <;> rw [e]
  · exact (repr_pl c (h c hc)).1
  · exact (repr_pl c (h c hc)).2⟩
theorem all_okd {L D : Nat} : ∀ xs : List PyData, (∀ x ∈ xs, Okd x L D) → PyData.showableAll xs = true ∧ PyData.hasDictAll xs = false ∧ PyData.depthAll xs ≤ D ∧ (∀ s ∈ PyData.shownAll xs, s.length ≤ L) ∧ (PyData.shownAll xs).length = xs.length
  | [], _ => ⟨rfl, rfl, Nat.zero_le _, (fun s hs => by cases hs), rfl⟩
  | x :: xs, h => by
    obtain ⟨a, b, c, d, e⟩ := all_okd xs fun y hy => h y (List.mem_cons_of_mem _ hy)
    have hx := h x List.mem_cons_self
    refine ⟨?_, ?_, ?_, fun s hs => ?_, ?_⟩
    · show (x.showable && PyData.showableAll xs) = true
      rw [hx.sh, a]; rfl
    · show (x.hasDict || PyData.hasDictAll xs) = false
      rw [hx.nd, b]; rfl
    · show max x.depth (PyData.depthAll xs) ≤ D
      exact Nat.max_le.mpr ⟨hx.dp, c⟩
    · have hs' : s ∈ x.shown :: PyData.shownAll xs := hs
      rcases List.mem_cons.mp hs' with z | z
      · rw [z]; exact hx.ln
      · exact d s z
    · show (x.shown :: PyData.shownAll xs).length = _
      rw [List.length_cons, e]
      rfl
theorem Okd.tuple {L D : Nat} {xs : List PyData} (h : ∀ x ∈ xs, Okd x L D) : Okd (.tuple xs) (xs.length * (L + 2) + 3) (D + 1) := by
  obtain ⟨a, b, c, d, e⟩ := all_okd xs h
  refine ⟨a, b, Nat.succ_le_succ c, ?_⟩
  have := tuple_len d
  rw [e] at this
  exact this
section
variable {X : Cx} (K : PySem.W.Frag)
theorem kReprD (hg : X.A.guards = some []) (hu : X.A.units + 64 < cLine) (hK : X.K = K := by rfl) : CallR X (.builtin "repr") (cReprD K) := hK ▸ call_reprD hg hu
end
theorem rd_reprBD {K : PySem.W.Frag} {b : Bool} {H : Hp} {Q : VK} (h : Q (.str (if b then "True" else "False")) H) : cReprD K [.bl b] H Q := .inl (rd_reprB h)
theorem rd_reprD {K : PySem.W.Frag} {a : Addr} {d : PyData} {L D : Nat} {H : Hp} {Q : VK} (h1 : Dp K H (.ref a) d) (h2 : Okd d L D) (hL : L ≤ sizeLine) (hD : D ≤ 60) (h : Q (.str d.shown) H) : cReprD K [.ref a] H Q := .inr ⟨a, d, rfl, h1, h2.sh, h2.nd, Nat.le_trans h2.dp hD, Nat.le_trans h2.ln hL, h⟩
/-! ### signs, joined -/
theorem fold_signs : ∀ (cs : List Nat) (a : Array Nat), (List.foldl (fun acc (p : Str) => acc ++ (Str.ofString "").cps ++ p.cps) a (cs.map fun c => (⟨#[c]⟩ : Str))).toList = a.toList ++ cs
  | [], a => by simp
  | c :: cs, a => by
    rw [List.map_cons, List.foldl_cons, fold_signs cs]
    have e : (Str.ofString "").cps = #[] := by decide +kernel
    rw [e]
    simp
theorem join_signs (cs : List Nat) : (Txt.join "" (cs.map fun c => (⟨#[c]⟩ : Str))).cps.toList = cs := by
  cases cs with
  | nil => rfl
  | cons c cs =>
    show (List.foldl (fun acc (p : Str) => acc ++ (Str.ofString "").cps ++ p.cps) #[c] (cs.map fun c => (⟨#[c]⟩ : Str))).toList = _
    rw [fold_signs cs #[c]]
    rfl
theorem sum_signs : ∀ cs : List Nat, ((cs.map fun c => (⟨#[c]⟩ : Str)).map (·.length)).sum = cs.length
  | [] => rfl
  | c :: cs => by
    rw [List.map_cons, List.map_cons, List.sum_cons, sum_signs cs, List.length_cons]
    show 1 + cs.length = cs.length + 1
    omega
end AT

set_option Elab.async false
set_option linter.all false
set_option maxRecDepth 100000
set_option maxHeartbeats 4000000
local macro_rules | `(tactic| walk_at "rd1") => `(tactic| with_reducible first
  | refine AT.rd_seq ?_ | refine AT.rd_asg ?_ | refine AT.rd_name ?_ | refine AT.rd_var (by with_unfolding_all rfl) ?_ | refine AT.rd_c ?_ | refine AT.rd_op ?_ | refine AT.rd_ret ?_ | refine AT.rd_retN ?_ | refine AT.rd_if ?_ | refine AT.rd_ife ?_ | refine AT.rd_next ?_ | refine AT.rd_drop ?_
  | refine AT.rd_test ?_ | refine AT.rd_tB ?_ | refine AT.rd_bl ?_ | refine AT.rd_not ?_ | refine AT.rd_and ?_ | refine AT.rd_or ?_ | refine AT.rd_nil ?_ | refine AT.rd_cons ?_ | refine AT.rd_lst ?_ | refine AT.rd_tup ?_ | refine AT.rd_cb ?_ | refine AT.rd_chain ?_
  | refine AT.rd_called ?_ | refine AT.rd_calledR ?_ | refine AT.rd_raised ?_ | refine AT.rd_iteT ?_ | refine AT.rd_iteF ?_ | refine AT.rd_iteNF ?_ | refine AT.rd_iteNT ?_ | refine AT.rd_addI ?_ | refine AT.rd_subI ?_ | refine AT.rd_lt ?_ | refine AT.rd_le ?_ | refine AT.rd_gt ?_ | refine AT.rd_ge ?_ | refine AT.rd_eqI ?_ | refine AT.rd_neI ?_ | refine AT.rd_eqS ?_ | refine AT.rd_neS ?_
  | refine AT.rd_int ?_ | refine AT.rd_abs ?_ | refine AT.rd_inS ?_ | refine AT.rd_niS ?_ | refine AT.rd_rng1 ?_ | refine AT.rd_rng2 ?_ | refine AT.rd_bm ?_ | refine AT.rd_fld ?_ | refine AT.rd_sfld ?_ | refine AT.rd_makeR ?_ | refine AT.rd_methR ?_ | refine AT.rd_meth ?_ | refine AT.rd_notV ?_ | refine AT.rd_xf ?_ | refine AT.rd_andV ?_ | refine AT.rd_orV ?_ | refine AT.rd_sl ?_ | refine AT.rd_noPart ?_ | refine AT.rd_part ?_ | refine AT.rd_intv ?_ | refine AT.rd_raised1 ?_ | refine AT.rd_gsub ?_ | refine AT.rd_for ?_ | refine AT.rd_lc ?_ | refine AT.rd_lenL (by assumption) ?_ | refine AT.rd_lenT (by assumption) ?_)
local macro_rules | `(tactic| walk_at "rd") => `(tactic| (repeat walk_at "rd1"))
local macro_rules | `(tactic| walk_at "rc1") => `(tactic| with_reducible first
  | refine AT.rd_seqA ?_ | refine AT.rd_seqD ?_ | refine AT.rd_asg ?_ | refine AT.rd_name ?_ | refine AT.rd_var (by with_unfolding_all rfl) ?_ | refine AT.rd_c ?_ | refine AT.rd_op ?_ | refine AT.rd_ret ?_ | refine AT.rd_retN ?_ | refine AT.rd_if ?_ | refine AT.rd_next ?_ | refine AT.rd_drop ?_
  | refine AT.rd_test ?_ | refine AT.rd_tB ?_ | refine AT.rd_bl ?_ | refine AT.rd_not ?_ | refine AT.rd_and ?_ | refine AT.rd_or ?_ | refine AT.rd_nil ?_ | refine AT.rd_cons ?_ | refine AT.rd_lst ?_ | refine AT.rd_tup ?_ | refine AT.rd_cb ?_ | refine AT.rd_chain ?_
  | refine AT.rd_called ?_ | refine AT.rd_calledR ?_ | refine AT.rd_raised ?_ | refine AT.rd_iteT ?_ | refine AT.rd_iteF ?_ | refine AT.rd_iteNF ?_ | refine AT.rd_iteNT ?_ | refine AT.rd_addI ?_ | refine AT.rd_subI ?_ | refine AT.rd_lt ?_ | refine AT.rd_le ?_ | refine AT.rd_gt ?_ | refine AT.rd_ge ?_ | refine AT.rd_eqI ?_ | refine AT.rd_neI ?_ | refine AT.rd_eqS ?_ | refine AT.rd_neS ?_
  | refine AT.rd_int ?_ | refine AT.rd_abs ?_ | refine AT.rd_inS ?_ | refine AT.rd_niS ?_ | refine AT.rd_rng1 ?_ | refine AT.rd_rng2 ?_ | refine AT.rd_bm ?_ | refine AT.rd_fld ?_ | refine AT.rd_sfld ?_ | refine AT.rd_makeR ?_ | refine AT.rd_methR ?_ | refine AT.rd_meth ?_ | refine AT.rd_notV ?_ | refine AT.rd_xf ?_ | refine AT.rd_sl ?_ | refine AT.rd_noPart ?_ | refine AT.rd_part ?_ | refine AT.rd_intv ?_ | refine AT.rd_raised1 ?_ | refine AT.rd_gsub ?_ | refine AT.rd_for ?_ | refine AT.rd_lc ?_ | refine AT.rd_lenL (by assumption) ?_ | refine AT.rd_lenT (by assumption) ?_)
local macro_rules | `(tactic| walk_at "rc") => `(tactic| ((repeat walk_at "rc1"); (try with_reducible refine AT.rd_idS ?_)))
local macro_rules | `(tactic| walk_at "rs") => `(tactic| with_reducible refine AT.rd_seq ?_)

namespace AT
open PySem L2
def top (i : Nat) : Stmt := PySem.Challenge.pw_anytext_k07_machines.main.body.getD i (.Pass ⟨0, 0, 0, 0⟩)
abbrev s_cell : Stmt := top 9
theorem sc_cell : FnScope ["script", "k"] ["script", "k"] (defScope s_cell) := ⟨rfl, rfl, rfl, by decide +kernel, rfl, by decide +kernel, by decide +kernel⟩
abbrev s_numbers : Stmt := top 10
theorem sc_numbers : FnScope ["cell", "many", "rest", "whole", "numbers", "k", "mixed"] ["cell", "many"] (defScope s_numbers) := ⟨rfl, rfl, rfl, by decide +kernel, rfl, by decide +kernel, by decide +kernel⟩
abbrev s_state : Stmt := top 11
theorem sc_state : FnScope ["script", "start", "many", "numbers", "k", "cell"] ["script", "start", "many"] (defScope s_state) := ⟨rfl, rfl, rfl, by decide +kernel, rfl, by decide +kernel, by decide +kernel⟩
abbrev s_next : Stmt := top 12
theorem sc_next : FnScope ["state", "many", "numbers", "place"] ["state", "many"] (defScope s_next) := ⟨rfl, rfl, rfl, by decide +kernel, rfl, by decide +kernel, by decide +kernel⟩
abbrev s_letters : Stmt := top 13
theorem sc_letters : FnScope ["state", "most", "pool", "letters", "k", "letter"] ["state", "most"] (defScope s_letters) := ⟨rfl, rfl, rfl, by decide +kernel, rfl, by decide +kernel, by decide +kernel⟩
abbrev s_made : Stmt := top 14
theorem sc_made : FnScope ["letters", "accepting", "table", "e"] ["letters", "accepting", "table"] (defScope s_made) := ⟨rfl, rfl, rfl, by decide +kernel, rfl, by decide +kernel, by decide +kernel⟩
abbrev s_faulty : Stmt := top 15
theorem sc_faulty : FnScope ["letters", "accepting", "table", "state", "kind", "rows", "row", "at", "place"] ["letters", "accepting", "table", "state"] (defScope s_faulty) := ⟨rfl, rfl, rfl, by decide +kernel, rfl, by decide +kernel, by decide +kernel⟩
abbrev s_ring : Stmt := top 16
theorem sc_ring : FnScope ["letters", "many", "step", "accepting", "k", "machine", "j", "text", "due"] ["letters", "many", "step"] (defScope s_ring) := ⟨rfl, rfl, rfl, by decide +kernel, rfl, by decide +kernel, by decide +kernel⟩
abbrev s_law : Stmt := top 17
theorem sc_law : FnScope ["script", "state", "letters", "many", "accepting", "k", "table", "letter", "passed", "rows", "row", "machine", "twin", "due", "text", "j", "at", "shown"] ["script"] (defScope s_law) := ⟨rfl, rfl, rfl, by decide +kernel, rfl, by decide +kernel, by decide +kernel⟩
abbrev s_init : Stmt := inClass (top 1) 0
theorem sc_init : FnScope ["self", "what"] ["self", "what"] (defScope s_init) := ⟨rfl, rfl, rfl, by decide +kernel, rfl, by decide +kernel, by decide +kernel⟩
abbrev s_Machine_init : Stmt := inClass (top 7) 0
theorem sc_Machine_init : FnScope ["self", "letters", "accepting", "table", "row"] ["self", "letters", "accepting", "table"] (defScope s_Machine_init) := ⟨rfl, rfl, rfl, by decide +kernel, rfl, by decide +kernel, by decide +kernel⟩
abbrev s_Machine_check : Stmt := inClass (top 7) 1
theorem sc_Machine_check : FnScope ["self", "states", "row"] ["self"] (defScope s_Machine_check) := ⟨rfl, rfl, rfl, by decide +kernel, rfl, by decide +kernel, by decide +kernel⟩
abbrev s_Machine_run : Stmt := inClass (top 7) 2
theorem sc_Machine_run : FnScope ["self", "text"] ["self", "text"] (defScope s_Machine_run) := ⟨rfl, rfl, rfl, by decide +kernel, rfl, by decide +kernel, by decide +kernel⟩
abbrev s_Machine_run_from : Stmt := inClass (top 7) 3
theorem sc_Machine_run_from : FnScope ["self", "state", "text", "letter"] ["self", "state", "text"] (defScope s_Machine_run_from) := ⟨rfl, rfl, rfl, by decide +kernel, rfl, by decide +kernel, by decide +kernel⟩
abbrev s_Machine_accepts : Stmt := inClass (top 7) 4
theorem sc_Machine_accepts : FnScope ["self", "text"] ["self", "text"] (defScope s_Machine_accepts) := ⟨rfl, rfl, rfl, by decide +kernel, rfl, by decide +kernel, by decide +kernel⟩
abbrev s_Machine_picture : Stmt := inClass (top 7) 5
theorem sc_Machine_picture : FnScope ["self"] ["self"] (defScope s_Machine_picture) := ⟨rfl, rfl, rfl, by decide +kernel, rfl, by decide +kernel, by decide +kernel⟩
structure Txt (K : PySem.W.Frag) (mg : Str → Option Value) where
  a_cell : Addr
  d_cell : FuncData
  f_cell : Fun K "_law_cell" "_law_cell" s_cell a_cell d_cell
  o_cell : Own K mg "_law_cell" a_cell d_cell ["script", "k"]
  a_numbers : Addr
  d_numbers : FuncData
  f_numbers : Fun K "_law_numbers" "_law_numbers" s_numbers a_numbers d_numbers
  o_numbers : Own K mg "_law_numbers" a_numbers d_numbers ["cell", "many"]
  a_state : Addr
  d_state : FuncData
  f_state : Fun K "_law_state" "_law_state" s_state a_state d_state
  o_state : Own K mg "_law_state" a_state d_state ["script", "start", "many"]
  a_next : Addr
  d_next : FuncData
  f_next : Fun K "_law_next" "_law_next" s_next a_next d_next
  o_next : Own K mg "_law_next" a_next d_next ["state", "many"]
  a_letters : Addr
  d_letters : FuncData
  f_letters : Fun K "_law_letters" "_law_letters" s_letters a_letters d_letters
  o_letters : Own K mg "_law_letters" a_letters d_letters ["state", "most"]
  a_made : Addr
  d_made : FuncData
  f_made : Fun K "_law_made" "_law_made" s_made a_made d_made
  o_made : Own K mg "_law_made" a_made d_made ["letters", "accepting", "table"]
  a_faulty : Addr
  d_faulty : FuncData
  f_faulty : Fun K "_law_faulty" "_law_faulty" s_faulty a_faulty d_faulty
  o_faulty : Own K mg "_law_faulty" a_faulty d_faulty ["letters", "accepting", "table", "state"]
  a_ring : Addr
  d_ring : FuncData
  f_ring : Fun K "_law_ring" "_law_ring" s_ring a_ring d_ring
  o_ring : Own K mg "_law_ring" a_ring d_ring ["letters", "many", "step"]
  a_law : Addr
  d_law : FuncData
  f_law : Fun K "law" "law" s_law a_law d_law
  o_law : Own K mg "law" a_law d_law ["script"]
  a_init : Addr
  d_init : FuncData
  T_init : Addr
  f_init : FunD K "__init__" "AnytextError.__init__" (defArgs s_init) (defBody s_init) (defScope s_init) [.non] [] a_init d_init
  tI : PySem.W.typeIn K (.ref a_init) = some (.type "function")
  bI : Binds K d_init ["self", "what"] []
  C_AnytextError : Addr
  C_MachineError : Addr
  C_ProgramError : Addr
  C_BadMachine : Addr
  C_BadRewriter : Addr
  g_BadMachine : mg "BadMachine" = some (.ref C_BadMachine)
  g_BadRewriter : mg "BadRewriter" = some (.ref C_BadRewriter)
  g_MachineError : mg "MachineError" = some (.ref C_MachineError)
  g_ProgramError : mg "ProgramError" = some (.ref C_ProgramError)
  i_BadMachine : PySem.W.isClsIn K C_BadMachine = true
  t_BadMachine : PySem.W.typeIn K (.ref C_BadMachine) = some (.type "type")
  e_BadMachine : PySem.W.subIn K (.ref C_BadMachine) (.type "BaseException") = some true
  h_BadMachine : PySem.W.hasDictIn K C_BadMachine = true
  i_BadRewriter : PySem.W.isClsIn K C_BadRewriter = true
  t_BadRewriter : PySem.W.typeIn K (.ref C_BadRewriter) = some (.type "type")
  e_BadRewriter : PySem.W.subIn K (.ref C_BadRewriter) (.type "BaseException") = some true
  h_BadRewriter : PySem.W.hasDictIn K C_BadRewriter = true
  i_MachineError : PySem.W.isClsIn K C_MachineError = true
  t_MachineError : PySem.W.typeIn K (.ref C_MachineError) = some (.type "type")
  e_MachineError : PySem.W.subIn K (.ref C_MachineError) (.type "BaseException") = some true
  h_MachineError : PySem.W.hasDictIn K C_MachineError = true
  i_ProgramError : PySem.W.isClsIn K C_ProgramError = true
  t_ProgramError : PySem.W.typeIn K (.ref C_ProgramError) = some (.type "type")
  e_ProgramError : PySem.W.subIn K (.ref C_ProgramError) (.type "BaseException") = some true
  h_ProgramError : PySem.W.hasDictIn K C_ProgramError = true
  x_BadMachine : ErrX K C_BadMachine a_init
  s_BadMachine_BadMachine : PySem.W.subIn K (.ref C_BadMachine) (.ref C_BadMachine) = some true
  s_BadMachine_BadRewriter : PySem.W.subIn K (.ref C_BadMachine) (.ref C_BadRewriter) = some false
  s_BadMachine_MachineError : PySem.W.subIn K (.ref C_BadMachine) (.ref C_MachineError) = some true
  s_BadMachine_ProgramError : PySem.W.subIn K (.ref C_BadMachine) (.ref C_ProgramError) = some false
  clsB : ClsB K
  C_Machine : Addr
  g_Machine : mg "Machine" = some (.ref C_Machine)
  cl_Machine : Cls K C_Machine
  na_Machine_letters : NoAttr K C_Machine "letters"
  na_Machine_accepting : NoAttr K C_Machine "accepting"
  na_Machine_table : NoAttr K C_Machine "table"
  a_Machine_init : Addr
  d_Machine_init : FuncData
  f_Machine_init : Fun K "__init__" "Machine.__init__" s_Machine_init a_Machine_init d_Machine_init
  b_Machine_init : Binds K d_Machine_init ["self", "letters", "accepting", "table"] []
  mk_Machine : Mk K C_Machine a_Machine_init
  a_Machine_check : Addr
  d_Machine_check : FuncData
  f_Machine_check : Fun K "check" "Machine.check" s_Machine_check a_Machine_check d_Machine_check
  b_Machine_check : Binds K d_Machine_check ["self"] []
  m_Machine_check : Meth K C_Machine "check" a_Machine_check
  a_Machine_run : Addr
  d_Machine_run : FuncData
  f_Machine_run : Fun K "run" "Machine.run" s_Machine_run a_Machine_run d_Machine_run
  b_Machine_run : Binds K d_Machine_run ["self", "text"] []
  m_Machine_run : Meth K C_Machine "run" a_Machine_run
  a_Machine_run_from : Addr
  d_Machine_run_from : FuncData
  f_Machine_run_from : Fun K "run_from" "Machine.run_from" s_Machine_run_from a_Machine_run_from d_Machine_run_from
  b_Machine_run_from : Binds K d_Machine_run_from ["self", "state", "text"] []
  m_Machine_run_from : Meth K C_Machine "run_from" a_Machine_run_from
  a_Machine_accepts : Addr
  d_Machine_accepts : FuncData
  f_Machine_accepts : Fun K "accepts" "Machine.accepts" s_Machine_accepts a_Machine_accepts d_Machine_accepts
  b_Machine_accepts : Binds K d_Machine_accepts ["self", "text"] []
  m_Machine_accepts : Meth K C_Machine "accepts" a_Machine_accepts
  a_Machine_picture : Addr
  d_Machine_picture : FuncData
  f_Machine_picture : Fun K "picture" "Machine.picture" s_Machine_picture a_Machine_picture d_Machine_picture
  b_Machine_picture : Binds K d_Machine_picture ["self"] []
  m_Machine_picture : Meth K C_Machine "picture" a_Machine_picture
  nb_abs : mg "abs" = none
  nb_int : mg "int" = none
  nb_isinstance : mg "isinstance" = none
  nb_len : mg "len" = none
  nb_list : mg "list" = none
  nb_max : mg "max" = none
  nb_min : mg "min" = none
  nb_range : mg "range" = none
  nb_repr : mg "repr" = none
  nb_tuple : mg "tuple" = none
section
variable {P : Program} {w : World} {K : PySem.W.Frag} {mg : Str → Option Value} {base : Heap}
/-! ### the helpers that all laws have: cells of the script, numbers, a state, the next drawn number -/
def spCell (K : PySem.W.Frag) : Sp := fun vs H Q _ => ∃ (l : Addr) (ns : List Int) (k : Int), vs = [.ref l, .int k] ∧ SqL K H l (ns.map V.int) ∧ 0 ≤ k ∧ ∀ z, Q (.int z) H
theorem ok_cell (T : Txt K mg) : FnOk P w K mg base CX0 1 T.a_cell T.d_cell ["script", "k"] (spCell K) := by
  refine T.f_cell.ok sc_cell (fun vs H Q E h => ?_) (fun cdv A outer s H vs Q E hr h => ?_)
  · obtain ⟨_, _, _, rfl, _⟩ := h; rfl
  · obtain ⟨l, ns, k, rfl, hs, h0, q⟩ := h
    refine ⟨_, (pss_cons (ps_if (pt_cmpR op_ltP (pv 1) (pe_callB (kLen K) (by rfl) T.nb_len (by decide +kernel) (pa_cons (pv 0) pa_nil)) (by first | rfl | exact nomark _))
    (pss_one (ps_ret (pe_ix (kIx K) (pv 0) (pv 1) (fun _ _ => rfl))))
    pss_nil)
  (pss_one (ps_ret pe_int))), ?_⟩
    walk_at "rd"
    refine rd_iteD (fun h1 => ?_) (fun h1 => ?_)
    · walk_at "rd"
      rw [List.length_map] at h1
      refine rd_ixL (v := .int (ns.getD k.toNat 0)) hs ?_ (q _)
      have e : k = (k.toNat : Int) := (Int.toNat_of_nonneg h0).symm
      rw [e]
      refine atI_nat ?_
      rw [List.getElem?_map, Int.toNat_natCast, List.getD_eq_getElem?_getD, List.getElem?_eq_getElem (show k.toNat < ns.length by omega)]
      rfl
    · walk_at "rd"
      exact q 0
/-- numbers from 0 to 999 -/
def Small (ns : List Int) : Prop := ∀ x ∈ ns, 0 ≤ x ∧ x < 1000
theorem Small.more {ns : List Int} {x : Int} (h : Small ns) (h0 : 0 ≤ x) (h1 : x < 1000) : Small (ns ++ [x]) := fun y hy => by
  rcases List.mem_append.mp hy with hy | hy
  · exact h y hy
  · rw [List.mem_singleton.mp hy]; exact ⟨h0, h1⟩
theorem Small.app {ns ms : List Int} (h : Small ns) (k : Small ms) : Small (ns ++ ms) := fun y hy => (List.mem_append.mp hy).elim (h y) (k y)
theorem fmod_small {a m : Int} (h : 0 < m) : 0 ≤ a.fmod m ∧ a.fmod m < m := by
  rw [Int.fmod_eq_emod_of_nonneg _ (Int.le_of_lt h)]
  exact ⟨Int.emod_nonneg _ (by omega), Int.emod_lt_of_pos _ h⟩
/-- a new list of small numbers -/
def spNumbers : Sp := fun vs H Q _ => ∃ (c m : Int), vs = [.int c, .int m] ∧ 0 ≤ m ∧ m ≤ 1000 ∧ ∀ (p : Addr) (ns : List Int) (H' : Hp), H p = none → Ex H H' → H' p = some (.lst (ns.map V.int)) → (ns.length : Int) = m → Small ns → Q (.ref p) H'
theorem append_int {H' : Hp} {p : Addr} {ns : List Int} {D : VK} {K : PySem.W.Frag} {i : Nat} {x : Int} (hp : H' p = some (.lst (ns.map V.int))) (hi : ns.length = i) (hl : i < 100000) (q : D .non (upd H' p (.lst ((ns ++ [x]).map V.int)))) :
    rAppend (.ref p) [.int x] H' D := ⟨p, ns.map V.int, .int x, rfl, rfl, hp, Nat.lt_of_lt_of_le (by rw [List.length_map, hi]; exact hl) (by decide), by rw [List.map_append] at q; exact q⟩
theorem ok_numbers (T : Txt K mg) : FnOk P w K mg base CX0 1 T.a_numbers T.d_numbers ["cell", "many"] spNumbers := by
  refine T.f_numbers.ok sc_numbers (fun vs H Q E h => ?_) (fun cdv A outer s H vs Q E hr h => ?_)
  · obtain ⟨_, _, rfl, _⟩ := h; rfl
  · obtain ⟨c, m, rfl, h0, h1, q⟩ := h
    refine ⟨_, (pss_cons (ps_set (i := 2) sc_numbers.nd rfl (by first | exact Or.inl rfl | exact Or.inr rfl) (pe_callB call_absP (by rfl) T.nb_abs (by decide +kernel) (pa_cons (pv 0) pa_nil)))
  (pss_cons (ps_set (i := 3) sc_numbers.nd rfl (by first | exact Or.inl rfl | exact Or.inr rfl) (pv 2))
  (pss_cons (ps_set (i := 4) sc_numbers.nd rfl (by first | exact Or.inl rfl | exact Or.inr rfl) (pe_lst pa_nil))
  (pss_cons (ps_for PassesOwn.never rfl (pi_range1 (by rfl) T.nb_range (pa_cons (pv 1) pa_nil)) (pg_name (i := 5) sc_numbers.nd rfl (by first | exact Or.inl rfl | exact Or.inr rfl))
    (pss_one (ps_if (PW.pt (pw_and (pt_cmpR op_geP (pv 3) (pe_op op_powP pe_int pe_int) (by first | rfl | exact nomark _)) (pw_and1 (pt_cmpR op_gtP (pv 2) pe_int (by first | rfl | exact nomark _)))))
    (pss_cons (ps_expr (kBm K rfl (pe_bm PySem.F.plainAttrs_list PySem.F.slot_list_append PySem.F.type_list_append mt_append (pv 4) (pa_cons (pe_op op_modP (pe_callTy call_intP (by rfl) T.nb_int (by decide +kernel) (pa_cons (pv 2) pa_nil)) pe_int) pa_nil))))
  (pss_one (ps_set (i := 2) sc_numbers.nd rfl (by first | exact Or.inl rfl | exact Or.inr rfl) (pe_op op_divP (pv 2) pe_int))))
    (pss_cons (ps_set (i := 6) sc_numbers.nd rfl (by first | exact Or.inl rfl | exact Or.inr rfl) (pe_op op_modP (pe_callTy call_intP (by rfl) T.nb_int (by decide +kernel) (pa_cons (pe_op (kAdd K) (pe_op (kAdd K) (pe_op op_mulPP (pv 3) pe_int) (pe_op op_mulPP (pv 5) pe_int)) pe_int) pa_nil)) pe_int))
  (pss_cons (ps_set (i := 6) sc_numbers.nd rfl (by first | exact Or.inl rfl | exact Or.inr rfl) (pe_op op_modP (pe_callTy call_intP (by rfl) T.nb_int (by decide +kernel) (pa_cons (pe_op (kAdd K) (pe_op (kAdd K) (pe_op op_mulPP (pv 6) (pv 6)) (pe_op op_mulPP pe_int (pv 5))) pe_int) pa_nil)) pe_int))
  (pss_one (ps_expr (kBm K rfl (pe_bm PySem.F.plainAttrs_list PySem.F.slot_list_append PySem.F.type_list_append mt_append (pv 4) (pa_cons (pe_op op_modP (pe_callTy call_intP (by rfl) T.nb_int (by decide +kernel) (pa_cons (pe_op op_divP (pv 6) pe_int) pa_nil)) pe_int) pa_nil))))))))))
  (pss_one (ps_ret (pv 4))))))), ?_⟩
    walk_at "rd"
    refine ⟨by decide, fun p hp => ?_⟩
    walk_at "rd"
    refine ⟨_, rfl, by omega, by omega, fo_range (n := m.toNat) (fun i σ H' => ∃ (r : Int) (ns : List Int) (kk mm : Option V), σ = [some (.int c), some (.int m), some (.int r), some (.int (if c < 0 then -c else c)), some (.ref p), kk, mm] ∧ Ex H H' ∧ H' p = some (.lst (ns.map V.int)) ∧ ns.length = i ∧ Small ns)
      ⟨_, [], none, none, rfl, Evl.Ex.new hp, upd_same, rfl, fun x hx => by cases hx⟩ ?_ ?_⟩
    · rintro i σ H' hi ⟨r, ns, kk, mm, rfl, e, hl, hn, sm⟩
      have tl : tyV K "list" (.ref p) H' := .inl ⟨rfl, _, SqL.of hl⟩
      walk_at "rd"
      refine rd_powI ⟨by decide, by decide, by decide⟩ ?_
      walk_at "rd"
      refine rd_ite (fun h2 => ?_) (fun h2 => ?_)
      · walk_at "rd"
        refine rd_ite (fun h3 => ?_) (fun h3 => ?_)
        · walk_at "rd"
          refine ⟨tl, ?_⟩
          walk_at "rd"
          refine rd_modI (by decide) ?_
          walk_at "rd"
          refine append_int (K := K) hl hn (by omega) ?_
          walk_at "rd"
          refine rd_divI ⟨by decide, by decide⟩ ?_
          walk_at "rd"
          have fm := fmod_small (a := r) (m := 1000) (by decide)
          exact ⟨_, ns ++ [_], _, _, rfl, Evl.Ex.mut e hp, upd_same, by rw [List.length_append, hn]; rfl, sm.more fm.1 fm.2⟩
        · walk_at "rd"
          refine rd_mulN (.inr ⟨by decide, by decide⟩) ?_
          walk_at "rd"
          refine rd_mulN (.inr ⟨by decide, by decide⟩) ?_
          walk_at "rd"
          refine rd_modI (by decide) ?_
          walk_at "rd"
          have fa := fmod_small (a := (if c < 0 then -c else c) * 48271 + (i : Int) * 69621 + 11) (m := 2147483647) (by decide)
          refine rd_mulN (.inl ⟨by omega, by omega⟩) ?_
          walk_at "rd"
          refine rd_mulN (.inl ⟨by decide, by decide⟩) ?_
          walk_at "rd"
          refine rd_modI (by decide) ?_
          walk_at "rd"
          refine ⟨tl, ?_⟩
          walk_at "rd"
          refine rd_divI ⟨by decide, by decide⟩ ?_
          walk_at "rd"
          refine rd_modI (by decide) ?_
          walk_at "rd"
          refine append_int (K := K) hl hn (by omega) ?_
          have fm := fun a : Int => fmod_small (a := a) (m := 1000) (by decide)
          exact ⟨_, ns ++ [_], _, _, rfl, Evl.Ex.mut e hp, upd_same, by rw [List.length_append, hn]; rfl, sm.more (fm _).1 (fm _).2⟩
      · walk_at "rd"
        refine rd_mulN (.inr ⟨by decide, by decide⟩) ?_
        walk_at "rd"
        refine rd_mulN (.inr ⟨by decide, by decide⟩) ?_
        walk_at "rd"
        refine rd_modI (by decide) ?_
        walk_at "rd"
        have fa := fmod_small (a := (if c < 0 then -c else c) * 48271 + (i : Int) * 69621 + 11) (m := 2147483647) (by decide)
        refine rd_mulN (.inl ⟨by omega, by omega⟩) ?_
        walk_at "rd"
        refine rd_mulN (.inl ⟨by decide, by decide⟩) ?_
        walk_at "rd"
        refine rd_modI (by decide) ?_
        walk_at "rd"
        refine ⟨tl, ?_⟩
        walk_at "rd"
        refine rd_divI ⟨by decide, by decide⟩ ?_
        walk_at "rd"
        refine rd_modI (by decide) ?_
        walk_at "rd"
        refine append_int (K := K) hl hn (by omega) ?_
        have fm := fun a : Int => fmod_small (a := a) (m := 1000) (by decide)
        exact ⟨_, ns ++ [_], _, _, rfl, Evl.Ex.mut e hp, upd_same, by rw [List.length_append, hn]; rfl, sm.more (fm _).1 (fm _).2⟩
    · rintro σ H' ⟨r, ns, kk, mm, rfl, e, hl, hn, sm⟩
      walk_at "rd"
      exact q p ns H' hp e hl (by omega) sm
/-- a state: the numbers, the place -/
def StAt (H : Hp) (p : Addr) : Prop := ∃ (l : Addr) (ns : List Int) (place : Int), H p = some (.lst [.ref l, .int place]) ∧ H l = some (.lst (ns.map V.int)) ∧ Small ns ∧ 0 < ns.length ∧ ns.length ≤ 100000 ∧ 0 ≤ place
theorem StAt.ex {H H' : Hp} {p : Addr} (h : StAt H p) (e : Ex H H') : StAt H' p := by
  obtain ⟨l, ns, pl, h1, h2, h3⟩ := h
  exact ⟨l, ns, pl, e _ _ h1, e _ _ h2, h3⟩
def spState (K : PySem.W.Frag) : Sp := fun vs H Q _ => ∃ (l : Addr) (ns : List Int) (st many : Int), vs = [.ref l, .int st, .int many] ∧ SqL K H l (ns.map V.int) ∧ 0 ≤ st ∧ st ≤ 1000 ∧ 0 < many ∧ many ≤ 1000 ∧
  ∀ (p : Addr) (H' : Hp), H p = none → Ex H H' → StAt H' p → Q (.ref p) H'
theorem ok_state (T : Txt K mg) : FnOk P w K mg base CX0 2 T.a_state T.d_state ["script", "start", "many"] (spState K) := by
  refine T.f_state.ok sc_state (fun vs H Q E h => ?_) (fun cdv A outer s H vs Q E hr h => ?_)
  · obtain ⟨_, _, _, _, rfl, _⟩ := h; rfl
  · obtain ⟨l, ns, st, many, rfl, hs, h0, h1, h2, h3, q⟩ := h
    refine ⟨_, (pss_cons (ps_set (i := 3) sc_state.nd rfl (by first | exact Or.inl rfl | exact Or.inr rfl) (pe_lst pa_nil))
  (pss_cons (ps_for PassesOwn.never rfl (pi_range2 (by rfl) T.nb_range (pa_cons (pv 1) (pa_cons (pe_op (kAdd K) (pv 1) (pv 2)) pa_nil))) (pg_name (i := 4) sc_state.nd rfl (by first | exact Or.inl rfl | exact Or.inr rfl))
    (pss_cons (ps_set (i := 5) sc_state.nd rfl (by first | exact Or.inl rfl | exact Or.inr rfl) (pe_callE (ok_cell T) (hr.mono (by decide)) T.o_cell (pa_cons (pv 0) (pa_cons (pv 4) pa_nil))))
  (pss_cons (ps_if (pt_cmpR op_ltP (pe_callB call_absP (by rfl) T.nb_abs (by decide +kernel) (pa_cons (pv 5) pa_nil)) (pe_op op_powP pe_int pe_int) (by first | rfl | exact nomark _))
    (pss_one (ps_set (i := 5) sc_state.nd rfl (by first | exact Or.inl rfl | exact Or.inr rfl) (pe_op (kAdd K) (pe_op op_mulPP (pv 5) pe_int) (pv 4))))
    pss_nil)
  (pss_one (ps_set (i := 3) sc_state.nd rfl (by first | exact Or.inl rfl | exact Or.inr rfl) (pe_op (kAdd K) (pv 3) (pe_callE (ok_numbers T) (hr.mono (by decide)) T.o_numbers (pa_cons (pv 5) (pa_cons pe_int pa_nil)))))))))
  (pss_one (ps_ret (pe_lst (pa_cons (pv 3) (pa_cons pe_int pa_nil))))))), ?_⟩
    walk_at "rd"
    refine ⟨by decide, fun p hp => ?_⟩
    walk_at "rd"
    refine ⟨_, _, rfl, ⟨by omega, by omega, by omega, by omega⟩, fo_range2 (lo := st) (n := (st + many - st).toNat) (fun i σ H' => ∃ (p2 : Addr) (ms : List Int) (kk cc : Option V), σ = [some (.ref l), some (.int st), some (.int many), some (.ref p2), kk, cc] ∧ Ex H H' ∧ H p2 = none ∧ H' p2 = some (.lst (ms.map V.int)) ∧ ms.length = i * 20 ∧ Small ms)
      ⟨p, [], none, none, rfl, Evl.Ex.new hp, hp, upd_same, rfl, fun x hx => by cases hx⟩ ?_ ?_⟩
    · rintro i σ H' hi ⟨p2, ms, kk, cc, rfl, e, hp2, hl, hn, sm⟩
      walk_at "rd"
      refine ⟨l, ns, _, rfl, Evl.ex_l e hs, by omega, fun z => ?_⟩
      walk_at "rd"
      refine rd_powI ⟨by decide, by decide, by decide⟩ ?_
      walk_at "rd"
      have hi2 : i < 1000 := by omega
      have fin : ∀ (z2 : Int) (cc : Option V), cc = some (.int z2) → tAsg (tOp (oAdd K) (tVar 3) (tCalled spNumbers (tCons (tVar 5) (tCons (tC (.int 20)) tNil)))) (gName 3)
          { nx := fun σ H' => ∃ (p2 : Addr) (ms : List Int) (kk cc : Option V), σ = [some (.ref l), some (.int st), some (.int many), some (.ref p2), kk, cc] ∧ Ex H H' ∧ H p2 = none ∧ H' p2 = some (.lst (ms.map V.int)) ∧ ms.length = (i + 1) * 20 ∧ Small ms, rt := Q } [some (.ref l), some (.int st), some (.int many), some (.ref p2), some (.int (st + (i : Int))), cc] H' := by
        rintro z2 cc rfl
        walk_at "rd"
        refine ⟨z2, 20, rfl, by decide, by decide, fun p3 ns3 H3 hp3 e3 hl3 hn3 sm3 => ?_⟩
        refine rd_cat (e3 _ _ hl) hl3 ?_ fun p4 hp4 => ?_
        · rw [List.length_map, List.length_map, hn]
          refine Nat.le_trans (show i * 20 + ns3.length ≤ 100000 by omega) (by decide)
        · walk_at "rd"
          refine ⟨p4, ms ++ ns3, _, _, rfl, ex_upd (e.trans e3) hp4, Evl.fresh_back (e.trans e3) hp4, ?_, ?_, sm.app sm3⟩
          · rw [upd_same, List.map_append]
          · rw [List.length_append, hn]; omega
      refine rd_ite (fun h4 => ?_) (fun h4 => ?_)
      · walk_at "rd"
        refine rd_mulN (.inr ⟨by decide, by decide⟩) ?_
        walk_at "rd1"
        walk_at "rd1"
        walk_at "rd1"
        walk_at "rd1"
        exact fin _ _ rfl
      · exact fin _ _ rfl
    · rintro σ H' ⟨p2, ms, kk, cc, rfl, e, hp2, hl, hn, sm⟩
      walk_at "rd"
      refine ⟨by show 2 ≤ sizeLine; decide, fun p3 hp3 => ?_⟩
      refine q p3 _ (Evl.fresh_back e hp3) (ex_upd e hp3) ⟨p2, ms, 0, upd_same, ?_, sm, by omega, by omega, by decide⟩
      rw [upd_ne (ne_of_none hl hp3)]
      exact hl
/-- the same list within -/
def SameIn (p : Addr) (H H' : Hp) : Prop := ∀ (l : Addr) (n : V), H p = some (.lst [.ref l, n]) → ∃ n', H' p = some (.lst [.ref l, n'])
theorem SameIn.trans {p : Addr} {H H1 H2 : Hp} (a : SameIn p H H1) (b : SameIn p H1 H2) : SameIn p H H2 := fun l n e => by
  obtain ⟨n1, e1⟩ := a l n e
  exact b l n1 e1
theorem SameIn.ex {p : Addr} {H H1 H2 : Hp} (a : SameIn p H H1) (b : Ex H1 H2) : SameIn p H H2 := fun l n e => by
  obtain ⟨n1, e1⟩ := a l n e
  exact ⟨n1, b _ _ e1⟩
/-- the next number below many: any -/
def spNext : Sp := fun vs H Q _ => ∃ (p : Addr) (many : Int), vs = [.ref p, .int many] ∧ 0 < many ∧ StAt H p ∧ ∀ (r : Int) (H' : Hp), 0 ≤ r → r < many → StAt H' p → (∀ b o, b ≠ p → H b = some o → H' b = some o) → ((∀ b, H b = none → H' b = none) ∧ SameIn p H H') → Q (.int r) H'
theorem ok_next (T : Txt K mg) : FnOk P w K mg base CX0 1 T.a_next T.d_next ["state", "many"] spNext := by
  refine T.f_next.ok sc_next (fun vs H Q E h => ?_) (fun cdv A outer s H vs Q E hr h => ?_)
  · obtain ⟨_, _, rfl, _⟩ := h; rfl
  · obtain ⟨p, many, rfl, hm, ⟨l, ns, place, h1, h2, sm, l0, l1, p0⟩, q⟩ := h
    have lp : l ≠ p := fun z => by
      rw [z, h1] at h2
      have y := HO.lst.inj (Option.some.inj h2)
      cases ns with
      | nil => cases l0
      | cons a r => cases y
    refine ⟨_, (pss_cons (ps_set (i := 2) sc_next.nd rfl (by first | exact Or.inl rfl | exact Or.inr rfl) (pe_ix (kIx K) (pv 0) pe_int (fun _ _ => rfl)))
  (pss_cons (ps_set (i := 3) sc_next.nd rfl (by first | exact Or.inl rfl | exact Or.inr rfl) (pe_ix (kIx K) (pv 0) pe_int (fun _ _ => rfl)))
  (pss_cons (ps_asg (pe_op (kAdd K) (pv 3) pe_int) (pg_sub (pv 0) pe_int set_list))
  (pss_one (ps_ret (pe_op op_modP (pe_callTy call_intP (by rfl) T.nb_int (by decide +kernel) (pa_cons (pe_op (kAdd K) (pe_ix (kIx K) (pv 2) (pe_op op_modP (pv 3) (pe_callB (kLen K) (by rfl) T.nb_len (by decide +kernel) (pa_cons (pv 2) pa_nil))) (fun _ _ => rfl)) (pe_op op_mulPP (pe_op op_divP (pv 3) (pe_callB (kLen K) (by rfl) T.nb_len (by decide +kernel) (pa_cons (pv 2) pa_nil))) pe_int)) pa_nil)) (pv 1))))))), ?_⟩
    walk_at "rd"
    refine rd_ixL (v := .ref l) (SqL.of h1) (atI_nat (j := 0) rfl) ?_
    walk_at "rd"
    refine rd_ixL (v := .int place) (SqL.of h1) (atI_nat (j := 1) rfl) ?_
    walk_at "rd"
    refine ⟨p, _, 1, 1, rfl, rfl, h1, rfl, ?_⟩
    have h2' : upd H p (.lst (([.ref l, .int place] : List V).set 1 (.int (place + 1)))) l = some (.lst (ns.map V.int)) := by rw [upd_ne lp]; exact h2
    have hq : SqL K (upd H p (.lst (([.ref l, .int place] : List V).set 1 (.int (place + 1))))) l (ns.map V.int) := SqL.of h2'
    walk_at "rd"
    have lz : ((ns.map V.int).length : Int) = ns.length := by rw [List.length_map]
    refine rd_modI (by rw [lz]; omega) ?_
    rw [lz]
    have fm := fmod_small (a := place) (m := (ns.length : Int)) (by omega)
    have e : place.fmod (ns.length : Int) = ((place.fmod (ns.length : Int)).toNat : Int) := (Int.toNat_of_nonneg fm.1).symm
    refine rd_ixL (v := .int (ns.getD (place.fmod (ns.length : Int)).toNat 0)) hq ?_ ?_
    · rw [e]
      refine atI_nat ?_
      rw [List.getElem?_map, Int.toNat_natCast, List.getD_eq_getElem?_getD, List.getElem?_eq_getElem (show (place.fmod (ns.length : Int)).toNat < ns.length by omega)]
      rfl
    · walk_at "rd"
      refine rd_divI ⟨by rw [lz]; omega, by rw [lz]; omega⟩ ?_
      walk_at "rd"
      refine rd_mulN (.inr ⟨by decide, by decide⟩) ?_
      walk_at "rd"
      refine rd_modI (by omega) ?_
      have fr := fun a : Int => fmod_small (a := a) (m := many) hm
      refine q _ _ (fr _).1 (fr _).2 ⟨l, ns, place + 1, upd_same, h2', sm, l0, l1, by omega⟩ (fun b o hb ho => ?_) ⟨fun b hb => ?_, fun l' n' e => ⟨.int (place + 1), ?_⟩⟩
      · rw [upd_ne hb]; exact ho
      · rw [upd_ne (fun z => by rw [z, h1] at hb; cases hb)]; exact hb
      · rw [h1] at e
        have e2 := HO.lst.inj (Option.some.inj e)
        rw [upd_same, ← (List.cons.inj e2).1]
        rfl
/-! ### letters and texts -/
theorem ok_init (T : Txt K mg) : FnOk P w K mg base CX0 1 T.a_init T.d_init ["self", "what"] (spInit K) := by
  refine T.f_init.ok sc_init (fun vs H Q E h => ?_) (fun cdv A outer s H vs Q E hr h => ?_)
  · obtain ⟨_, _, _, rfl, _⟩ := h; rfl
  · obtain ⟨a, C, v, rfl, T1, nw, ha, q⟩ := h
    refine ⟨_, pss_one (ps_ost (pv 0) (pv 1)), ?_⟩
    exact ⟨_, rfl, _, rfl, a, C, rfl, T1, nw, .inl ⟨ha, q⟩⟩
/-! ### drawn letters -/
/-- the state at p goes on; what stood stands -/
structure Dr (p : Addr) (H H' : Hp) : Prop where
  st : StAt H' p
  old : ∀ b o, b ≠ p → H b = some o → H' b = some o
  inn : SameIn p H H'
theorem Dr.trans {p : Addr} {H H1 H2 : Hp} (a : Dr p H H1) (b : Dr p H1 H2) : Dr p H H2 := ⟨b.st, fun c o hc q => b.old c o hc (a.old c o hc q), a.inn.trans b.inn⟩
theorem Dr.ex {p : Addr} {H H1 H2 : Hp} (a : Dr p H H1) (e : Ex H1 H2) : Dr p H H2 := ⟨a.st.ex e, fun c o hc q => e c o (a.old c o hc q), a.inn.ex e⟩
theorem Dr.refl {p : Addr} {H : Hp} (h : StAt H p) : Dr p H H := ⟨h, fun _ _ _ q => q, fun _ n e => ⟨n, e⟩⟩
theorem StAt.some {H : Hp} {p : Addr} (h : StAt H p) : ∃ o, H p = some o := by
  obtain ⟨l, ns, pl, h1, _⟩ := h
  exact ⟨_, h1⟩
/-- new since H0: all of H0 stands -/
theorem Dr.from {p : Addr} {H0 H H' : Hp} (e : Ex H0 H) (hp : H0 p = none) (d : Dr p H H') : Ex H0 H' := fun b o q => d.old b o (ne_of_none q hp) (e b o q)
abbrev PL : Str := "abcdefghijklmnopqrstuvwxyzABCDEFGHIJKLMNOPQRSTUVWXYZ0123456789<>=:_@#"
theorem okS_PL : okS PL := by unfold okS; decide +kernel
theorem pl_len : PL.length = 69 := by decide +kernel
theorem okS_nil : okS "" := by unfold okS; decide +kernel
theorem str_len (x y : Str) : (x ++ y).length = x.length + y.length := by
  rw [TL.len_tl, TL.len_tl, TL.len_tl, TL.tl_append, List.length_append]
theorem at_str {z : Str} {r : Int} (h0 : 0 ≤ r) (h : r < z.length) : ∃ c, atI z.cps.toList r = some c ∧ c ∈ z.cps.toList := by
  obtain ⟨n, rfl⟩ := Int.eq_ofNat_of_zero_le h0
  have hl : n < z.cps.toList.length := by
    have : z.cps.toList.length = z.length := rfl
    omega
  exact ⟨z.cps.toList[n], atI_nat (List.getElem?_eq_getElem hl), List.getElem_mem hl⟩
/-- an alphabet of at most so many letters -/
structure Alpha (z : Str) (most : Nat) : Prop where
  l0 : 0 < z.length
  l1 : z.length ≤ most
  ok : okS z
  nd : z.cps.toList.Nodup
  pl : ∀ c ∈ z.cps.toList, c ∈ PL.cps.toList
def spLetters : Sp := fun vs H Q _ => ∃ (p : Addr) (most : Nat), vs = [.ref p, .int (most : Int)] ∧ 0 < most ∧ most ≤ 100 ∧ StAt H p ∧ ∀ (z : Str) (H' : Hp), Alpha z most → Dr p H H' → Q (.str z) H'
theorem ok_letters (T : Txt K mg) : FnOk P w K mg base CX0 2 T.a_letters T.d_letters ["state", "most"] spLetters := by
  refine T.f_letters.ok sc_letters (fun vs H Q E h => ?_) (fun cdv A outer s H vs Q E hr h => ?_)
  · obtain ⟨_, _, rfl, _⟩ := h; rfl
  · obtain ⟨p, most, rfl, h0, h1, hS, q⟩ := h
    refine ⟨_, (pss_cons (ps_set (i := 2) sc_letters.nd rfl (by first | exact Or.inl rfl | exact Or.inr rfl) pe_str)
  (pss_cons (ps_set (i := 3) sc_letters.nd rfl (by first | exact Or.inl rfl | exact Or.inr rfl) pe_str)
  (pss_cons (ps_for PassesOwn.never rfl (pi_range1 (by rfl) T.nb_range (pa_cons (pe_op (kAdd K) pe_int (pe_callE (ok_next T) (hr.mono (by decide)) T.o_next (pa_cons (pv 0) (pa_cons (pv 1) pa_nil)))) pa_nil)) (pg_name (i := 4) sc_letters.nd rfl (by first | exact Or.inl rfl | exact Or.inr rfl))
    (pss_cons (ps_set (i := 5) sc_letters.nd rfl (by first | exact Or.inl rfl | exact Or.inr rfl) (pe_ix (kIx K) (pv 2) (pe_callE (ok_next T) (hr.mono (by decide)) T.o_next (pa_cons (pv 0) (pa_cons pe_int pa_nil))) (fun _ _ => rfl)))
  (pss_one (ps_if (pt_cmpR (kNotIn K) (pv 5) (pv 3) (by first | rfl | exact nomark _))
    (pss_one (ps_set (i := 3) sc_letters.nd rfl (by first | exact Or.inl rfl | exact Or.inr rfl) (pe_op (kAdd K) (pv 3) (pv 5))))
    pss_nil))))
  (pss_one (ps_ret (pv 3)))))), ?_⟩
    walk_at "rc"
    walk_at "rs"
    walk_at "rc"
    refine ⟨p, most, rfl, by omega, hS, fun r H1 r0 r1 S1 k1 i1 => ?_⟩
    walk_at "rc"
    refine ⟨1 + r, rfl, by omega, by omega, fo_range (n := (1 + r).toNat) (fun i σ H' => ∃ (z : Str) (kk ll : Option V), σ = [some (.ref p), some (.int (most : Int)), some (.str PL), some (.str z), kk, ll] ∧ (0 < i → 0 < z.length) ∧ z.length ≤ i ∧ okS z ∧ z.cps.toList.Nodup ∧ (∀ c ∈ z.cps.toList, c ∈ PL.cps.toList) ∧ Dr p H H')
      ⟨"", none, none, rfl, fun z => absurd z (Nat.lt_irrefl 0), Nat.le_refl 0, okS_nil, List.nodup_nil, (fun c hc => nomatch hc), ⟨S1, k1, i1.2⟩⟩ ?_ ?_⟩
    · rintro i σ H' hi ⟨z, kk, ll, rfl, g0, g1, g2, g3, g4, g5⟩
      walk_at "rc"
      refine ⟨p, 69, rfl, by decide, g5.st, fun r2 H2 r20 r21 S2 k2 i2 => ?_⟩
      obtain ⟨c, hc, cm⟩ := at_str (z := PL) r20 (by rw [pl_len]; exact r21)
      refine rd_ixS (by rw [pl_len]; decide) hc ?_
      walk_at "rc"
      have d2 : Dr p H H2 := g5.trans ⟨S2, k2, i2.2⟩
      refine rd_iteN (fun h3 => ?_) (fun h3 => ?_)
      · walk_at "rc"
        refine rd_addS (Nat.le_trans (show z.length + 1 ≤ 1000 by omega) (by decide)) ?_
        walk_at "rc"
        have e : (z ++ (⟨#[c]⟩ : Str)).cps.toList = z.cps.toList ++ [c] := TL.tl_append z ⟨#[c]⟩
        refine ⟨_, _, _, rfl, fun _ => by rw [str_len]; exact Nat.succ_pos _, by rw [str_len]; exact Nat.succ_le_succ g1, okS_app g2 (okS_one okS_PL cm), ?_, fun d hd => ?_, d2⟩
        · rw [e]
          exact List.nodup_append.mpr ⟨g3, List.nodup_cons.mpr ⟨List.not_mem_nil, List.nodup_nil⟩, fun a ha b hb q => by
            rw [List.mem_singleton.mp hb] at q
            rw [q] at ha
            exact h3 ha⟩
        · rw [e] at hd
          rcases List.mem_append.mp hd with y | y
          · exact g4 d y
          · rw [List.mem_singleton.mp y]; exact cm
      · walk_at "rc"
        refine ⟨_, _, _, rfl, fun _ => ?_, Nat.le_succ_of_le g1, g2, g3, g4, d2⟩
        cases e : z.cps.toList with
        | nil => rw [e] at h3; cases h3
        | cons a l =>
          have e2 : z.length = z.cps.toList.length := rfl
          rw [e2, e]
          exact Nat.succ_pos _
    · rintro σ H' ⟨z, kk, ll, rfl, g0, g1, g2, g3, g4, g5⟩
      walk_at "rc"
      exact q z H' ⟨g0 (by omega), by omega, g2, g3, g4⟩ g5
/-! ### machines -/
/-- a list or a tuple of these values stands there -/
def SqA (K : PySem.W.Frag) (H : Hp) (a : Addr) (xs : List V) : Prop := SqL K H a xs ∨ SqT K H a xs
theorem SqA.ex {H H' : Hp} {a : Addr} {xs : List V} (h : SqA K H a xs) (e : Ex H H') : SqA K H' a xs := h.elim (fun z => .inl (Evl.ex_l e z)) fun z => .inr (Evl.ex_t e z)
/-- rows of ints: where each stands -/
inductive RowsA (K : PySem.W.Frag) (H : Hp) : List Addr → List (List Int) → Prop
  | nil : RowsA K H [] []
  | cons {r : Addr} {rs : List Addr} {ns : List Int} {tab : List (List Int)} : SqA K H r (ns.map V.int) → RowsA K H rs tab → RowsA K H (r :: rs) (ns :: tab)
inductive RowsT (K : PySem.W.Frag) (H : Hp) : List Addr → List (List Int) → Prop
  | nil : RowsT K H [] []
  | cons {r : Addr} {rs : List Addr} {ns : List Int} {tab : List (List Int)} : SqT K H r (ns.map V.int) → RowsT K H rs tab → RowsT K H (r :: rs) (ns :: tab)
theorem RowsA.len {H : Hp} : ∀ {rs : List Addr} {tab : List (List Int)}, RowsA K H rs tab → rs.length = tab.length
  | _, _, .nil => rfl
  | _, _, .cons _ t => congrArg Nat.succ t.len
theorem RowsT.len {H : Hp} : ∀ {rs : List Addr} {tab : List (List Int)}, RowsT K H rs tab → rs.length = tab.length
  | _, _, .nil => rfl
  | _, _, .cons _ t => congrArg Nat.succ t.len
theorem RowsA.ex {H H' : Hp} (e : Ex H H') : ∀ {rs : List Addr} {tab : List (List Int)}, RowsA K H rs tab → RowsA K H' rs tab
  | _, _, .nil => .nil
  | _, _, .cons h t => .cons (h.ex e) (t.ex e)
theorem RowsT.ex {H H' : Hp} (e : Ex H H') : ∀ {rs : List Addr} {tab : List (List Int)}, RowsT K H rs tab → RowsT K H' rs tab
  | _, _, .nil => .nil
  | _, _, .cons h t => .cons (Evl.ex_t e h) (t.ex e)
theorem RowsA.get {H : Hp} : ∀ {rs : List Addr} {tab : List (List Int)} {i : Nat} {r : Addr}, RowsA K H rs tab → rs[i]? = some r → ∃ ns, tab[i]? = some ns ∧ SqA K H r (ns.map V.int)
  | _, _, _, _, .nil, e => by simp at e
  | _, _, 0, _, .cons h _, e => by simp at e; subst e; exact ⟨_, rfl, h⟩
  | _, _, i + 1, _, .cons _ t, e => by
    obtain ⟨ns, h1, h2⟩ := t.get (i := i) (by simpa using e)
    exact ⟨ns, by simpa using h1, h2⟩
theorem RowsT.get {H : Hp} : ∀ {rs : List Addr} {tab : List (List Int)} {i : Nat} {r : Addr}, RowsT K H rs tab → rs[i]? = some r → ∃ ns, tab[i]? = some ns ∧ SqT K H r (ns.map V.int)
  | _, _, _, _, .nil, e => by simp at e
  | _, _, 0, _, .cons h _, e => by simp at e; subst e; exact ⟨_, rfl, h⟩
  | _, _, i + 1, _, .cons _ t, e => by
    obtain ⟨ns, h1, h2⟩ := t.get (i := i) (by simpa using e)
    exact ⟨ns, by simpa using h1, h2⟩
theorem RowsT.get2 {H : Hp} : ∀ {rs : List Addr} {tab : List (List Int)} {i : Nat} {ns : List Int}, RowsT K H rs tab → tab[i]? = some ns → ∃ r, rs[i]? = some r ∧ SqT K H r (ns.map V.int)
  | _, _, _, _, .nil, e => by simp at e
  | _, _, 0, _, .cons h _, e => by simp at e; subst e; exact ⟨_, rfl, h⟩
  | _, _, i + 1, _, .cons _ t, e => by
    obtain ⟨r, h1, h2⟩ := t.get2 (i := i) (by simpa using e)
    exact ⟨r, by simpa using h1, h2⟩
/-- rows, one by one -/
theorem RowsT.of {H : Hp} : ∀ {tab : List (List Int)} {vs : List V}, vs.length = tab.length → (∀ (i : Nat) v, vs[i]? = some v → ∃ (r : Addr) (ns : List Int), v = V.ref r ∧ tab[i]? = some ns ∧ SqT K H r (ns.map V.int)) → ∃ rs, vs = rs.map V.ref ∧ RowsT K H rs tab
  | [], [], _, _ => ⟨[], rfl, .nil⟩
  | [], _ :: _, h, _ => by cases h
  | _ :: _, [], h, _ => by cases h
  | ns :: tab, v :: vs, h, g => by
    obtain ⟨r, ms, e1, e2, e3⟩ := g 0 v rfl
    have e2' : ns = ms := Option.some.inj e2
    subst e2'
    subst e1
    obtain ⟨rs, e4, e5⟩ := RowsT.of (tab := tab) (vs := vs) (Nat.succ.inj h) fun i v hv => g (i + 1) v (by simpa using hv)
    exact ⟨r :: rs, by rw [e4]; rfl, .cons e3 e5⟩
def mFields (ls : Str) (ta tt : Addr) : List (Str × V) := [("letters", .str ls), ("accepting", .ref ta), ("table", .ref tt)]
/-- a machine stands at m -/
def MachineAt (K : PySem.W.Frag) (C : Addr) (H : Hp) (m : Addr) (ls : Str) (acc : List Bool) (tab : List (List Int)) : Prop := ∃ (dx ta tt : Addr) (rs : List Addr), H m = some (.ins C dx (mFields ls ta tt)) ∧ SqT K H ta (acc.map V.bl) ∧ SqT K H tt (rs.map V.ref) ∧ RowsT K H rs tab
theorem MachineAt.ex {C : Addr} {H H' : Hp} {m : Addr} {ls : Str} {acc : List Bool} {tab : List (List Int)} (h : MachineAt K C H m ls acc tab) (e : Ex H H') : MachineAt K C H' m ls acc tab := by
  obtain ⟨dx, ta, tt, rs, h1, h2, h3, h4⟩ := h
  exact ⟨dx, ta, tt, rs, e _ _ h1, Evl.ex_t e h2, Evl.ex_t e h3, h4.ex e⟩
def goodM (ls : Str) (acc : List Bool) (tab : List (List Int)) : Prop := acc.length ≠ 0 ∧ tab.length = acc.length ∧ ∀ row ∈ tab, row.length = ls.length ∧ ∀ x ∈ row, 0 ≤ x ∧ x < (acc.length : Int)
/-- what stood is as it was, but at m -/
def But (m : Addr) (H H' : Hp) : Prop := ∀ b o, b ≠ m → H b = some o → H' b = some o
theorem But.ex {m : Addr} {H H' H2 : Hp} (h : But m H H') (e : Ex H' H2) : But m H H2 := fun b o hb q => e b o (h b o hb q)
theorem foldl_min_le (n : Int) : ∀ ns : List Int, (∀ x ∈ n :: ns, ns.foldl min n ≤ x) ∧ ns.foldl min n ∈ n :: ns
  | [] => ⟨fun x hx => by rw [List.mem_singleton.mp hx]; exact Int.le_refl _, List.mem_cons_self⟩
  | k :: ns => by
    have ih := foldl_min_le (min n k) ns
    rw [List.foldl_cons]
    have h0 := ih.1 _ List.mem_cons_self
    refine ⟨fun x hx => ?_, ?_⟩
    · rcases List.mem_cons.mp hx with e | hx
      · rw [e]; omega
      · rcases List.mem_cons.mp hx with e | hx
        · rw [e]; omega
        · exact ih.1 x (List.mem_cons_of_mem _ hx)
    · rcases List.mem_cons.mp ih.2 with e | e
      · rw [e]
        rcases Int.le_total n k with z | z
        · rw [Int.min_eq_left z]; exact List.mem_cons_self
        · rw [Int.min_eq_right z]; exact List.mem_cons_of_mem _ List.mem_cons_self
      · exact List.mem_cons_of_mem _ (List.mem_cons_of_mem _ e)
theorem foldl_max_ge (n : Int) : ∀ ns : List Int, (∀ x ∈ n :: ns, x ≤ ns.foldl max n) ∧ ns.foldl max n ∈ n :: ns
  | [] => ⟨fun x hx => by rw [List.mem_singleton.mp hx]; exact Int.le_refl _, List.mem_cons_self⟩
  | k :: ns => by
    have ih := foldl_max_ge (max n k) ns
    rw [List.foldl_cons]
    have h0 := ih.1 _ List.mem_cons_self
    refine ⟨fun x hx => ?_, ?_⟩
    · rcases List.mem_cons.mp hx with e | hx
      · rw [e]; omega
      · rcases List.mem_cons.mp hx with e | hx
        · rw [e]; omega
        · exact ih.1 x (List.mem_cons_of_mem _ hx)
    · rcases List.mem_cons.mp ih.2 with e | e
      · rw [e]
        rcases Int.le_total n k with z | z
        · rw [Int.max_eq_right z]; exact List.mem_cons_of_mem _ List.mem_cons_self
        · rw [Int.max_eq_left z]; exact List.mem_cons_self
      · exact List.mem_cons_of_mem _ (List.mem_cons_of_mem _ e)
section
variable (T : Txt K mg)
def spCheck : Sp := fun vs H Q E => ∃ (m : Addr) (ls : Str) (acc : List Bool) (tab : List (List Int)), vs = [.ref m] ∧ 0 < ls.length ∧ ls.length ≤ 1000000 ∧ MachineAt K T.C_Machine H m ls acc tab ∧ (goodM ls acc tab → Q .non H) ∧ (¬ goodM ls acc tab → ∀ d, H d = none → E (.ref T.C_BadMachine) (some d) (upd H d (.xd [("what", .non)])))
theorem ok_Machine_check : FnOk P w K mg base (L2.CX P w) 4 T.a_Machine_check T.d_Machine_check ["self"] (spCheck T) := by
  refine T.f_Machine_check.okX sc_Machine_check (fun vs H Q E h => ?_) (fun cdv A outer s H vs Q E hr h => ?_)
  · obtain ⟨_, _, _, _, rfl, _⟩ := h; rfl
  · obtain ⟨m, ls, acc, tab, rfl, l0, l1, ⟨dx, ta, tt, rs, hm, hA, hT, hR⟩, qy, qn⟩ := h
    have lz : ls.length ≤ sizeLine := Nat.le_trans l1 (by decide)
    have rl := hR.len
    refine ⟨_, (pss_cons (ps_set (i := 1) sc_Machine_check.nd rfl (by first | exact Or.inl rfl | exact Or.inr rfl) (pe_callB (kLen K) (by rfl) T.nb_len (by decide +kernel) (pa_cons (kFld K rfl (pe_fld (pv 0) rfl)) pa_nil)))
  (pss_cons (ps_if (PW.pt (pw_or (pt_cmpR (kEq K rfl hr.units) (pv 1) pe_int (by first | rfl | exact nomark _)) (pw_or1 (pt_cmpR (kNe K rfl hr.units) (pe_callB (kLen K) (by rfl) T.nb_len (by decide +kernel) (pa_cons (kFld K rfl (pe_fld (pv 0) rfl)) pa_nil)) (pv 1) (by first | rfl | exact nomark _)))))
    (pss_one (ps_raiseW rfl T.x_BadMachine (ok_init T) T.tI T.bI (hr.mono (by decide)) T.g_BadMachine (takes_of rfl rfl rfl rfl) (pa_cons pe_non pa_nil) (MonoA.one mono_c)))
    pss_nil)
  (pss_one (ps_for (passes_of rfl) rfl (kAny K rfl (kFld K rfl (pe_fld (pv 0) rfl))) (pg_name (i := 2) sc_Machine_check.nd rfl (by first | exact Or.inl rfl | exact Or.inr rfl))
    (pss_one (ps_if (PW.pt (pw_or (pt_cmpR (kNe K rfl hr.units) (pe_callB (kLen K) (by rfl) T.nb_len (by decide +kernel) (pa_cons (pv 2) pa_nil)) (pe_callB (kLen K) (by rfl) T.nb_len (by decide +kernel) (pa_cons (kFld K rfl (pe_fld (pv 0) rfl)) pa_nil)) (by first | rfl | exact nomark _)) (pw_or (pt_cmpR op_ltP (pe_callB (kMin K rfl hr.units) (by rfl) T.nb_min (by decide +kernel) (pa_cons (pv 2) pa_nil)) pe_int (by first | rfl | exact nomark _)) (pw_or1 (pt_cmpR op_geP (pe_callB (kMax K rfl hr.units) (by rfl) T.nb_max (by decide +kernel) (pa_cons (pv 2) pa_nil)) (pv 1) (by first | rfl | exact nomark _))))))
    (pss_one (ps_raiseW rfl T.x_BadMachine (ok_init T) T.tI T.bI (hr.mono (by decide)) T.g_BadMachine (takes_of rfl rfl rfl rfl) (pa_cons pe_non pa_nil) (MonoA.one mono_c)))
    pss_nil)))))), ?_⟩
    walk_at "rc"
    refine ⟨m, T.C_Machine, dx, _, _, rfl, hm, T.cl_Machine, T.na_Machine_accepting, rfl, ?_⟩
    walk_at "rc"
    walk_at "rs"
    walk_at "rc"
    refine rd_iteD (fun h1 => ?_) (fun h1 => ?_)
    · walk_at "rc"
      exact qn fun g => g.1 (by rw [List.length_map] at h1; omega)
    · walk_at "rc"
      refine ⟨m, T.C_Machine, dx, _, _, rfl, hm, T.cl_Machine, T.na_Machine_table, rfl, ?_⟩
      walk_at "rc"
      refine rd_iteN (fun h2 => ?_) (fun h2 => ?_)
      · walk_at "rc"
        exact qn fun g => h2 (by rw [List.length_map, List.length_map, rl, g.2.1])
      · rw [List.length_map, List.length_map, rl] at h2
        walk_at "rc"
        refine rd_anyT (a := tt) (xs := rs.map V.ref) (fun Q q => ?_) hT (fo_tup (fun i σ H' => (∃ v, σ = [some (.ref m), some (.int ((acc.map V.bl).length : Nat)), v]) ∧ H' = H ∧ ∀ row ∈ tab.take i, row.length = ls.length ∧ ∀ x ∈ row, 0 ≤ x ∧ x < (acc.length : Int)) ⟨⟨none, rfl⟩, rfl, fun row hrow => by rw [List.take_zero] at hrow; cases hrow⟩ (fun i σ H' _ p => by rw [p.2.1]; exact hT) ?_ ?_)
        · walk_at "rc"
          exact ⟨m, T.C_Machine, dx, _, _, rfl, hm, T.cl_Machine, T.na_Machine_table, rfl, q⟩
        · rintro i x σ H' hi ⟨⟨v, rfl⟩, rfl, hp⟩
          rw [List.getElem?_map] at hi
          cases hri : rs[i]? with
          | none => rw [hri] at hi; cases hi
          | some r =>
            rw [hri] at hi
            obtain rfl : V.ref r = x := Option.some.inj hi
            obtain ⟨ns, ht, hs⟩ := hR.get hri
            have hmem : ns ∈ tab := List.mem_of_getElem? ht
            walk_at "rc"
            refine ⟨m, T.C_Machine, dx, _, _, rfl, hm, T.cl_Machine, T.na_Machine_letters, rfl, ?_⟩
            walk_at "rc"
            refine rd_lenS lz ?_
            walk_at "rc"
            refine rd_iteN (fun h3 => ?_) (fun h3 => ?_)
            · walk_at "rc"
              exact qn fun g => h3 (by rw [List.length_map, (g.2.2 ns hmem).1])
            · rw [List.length_map] at h3
              walk_at "rc"
              cases ns with
              | nil => have z : (0 : Int) = ls.length := h3; omega
              | cons n0 ns =>
                have mn := foldl_min_le n0 ns
                have mx := foldl_max_ge n0 ns
                refine ⟨r, n0, ns, rfl, hs, ?_⟩
                walk_at "rc"
                refine rd_iteD (fun h4 => ?_) (fun h4 => ?_)
                · walk_at "rc"
                  exact qn fun g => by have := ((g.2.2 _ hmem).2 _ mn.2).1; omega
                · walk_at "rc"
                  refine ⟨r, n0, ns, rfl, hs, ?_⟩
                  walk_at "rc"
                  rw [List.length_map]
                  refine rd_iteD (fun h5 => ?_) (fun h5 => ?_)
                  · walk_at "rc"
                    exact qn fun g => by have := ((g.2.2 _ hmem).2 _ mx.2).2; omega
                  · walk_at "rc"
                    refine ⟨⟨_, rfl⟩, rfl, fun row hrow => ?_⟩
                    rw [List.take_succ, ht] at hrow
                    rcases List.mem_append.mp hrow with z | z
                    · exact hp row z
                    · have e : row = n0 :: ns := by simpa using z
                      rw [e]
                      exact ⟨by omega, fun x hx => ⟨by have := mn.1 x hx; omega, by have := mx.1 x hx; omega⟩⟩
        · rintro σ H' ⟨⟨v, rfl⟩, rfl, hp⟩
          rw [List.length_map, rl, List.take_length] at hp
          exact qy ⟨fun z => h1 (by rw [List.length_map, z]; rfl), by omega, hp⟩
/-- Machine(letters, accepting, table) -/
def spMInit : Sp := fun vs H Q E => ∃ (m dx pa pt : Addr) (ls : Str) (acc : List Bool) (rs : List Addr) (tab : List (List Int)), vs = [.ref m, .str ls, .ref pa, .ref pt] ∧ 0 < ls.length ∧ ls.length ≤ 1000000 ∧ H m = some (.ins T.C_Machine dx []) ∧
  SqA K H pa (acc.map V.bl) ∧ SqA K H pt (rs.map V.ref) ∧ RowsA K H rs tab ∧ tab.length < 100000 ∧
  (goodM ls acc tab → ∀ H', But m H H' → MachineAt K T.C_Machine H' m ls acc tab → Q .non H') ∧ (¬ goodM ls acc tab → ∀ d H', But m H H' → H d = none → H' d = some (.xd [("what", .non)]) → E (.ref T.C_BadMachine) (some d) H')
theorem SqA.tup {pa : Addr} {xs : List V} {H : Hp} {Q : VK} (h : SqA K H pa xs) (q : ∀ ta H', Ex H H' → SqT K H' ta xs → (∀ b, H b = none ∧ H' b ≠ none → b = ta) → Q (.ref ta) H') : cTupOf K [.ref pa] H Q := by
  rcases h with h | h
  · refine rd_tupL h fun l hl => q l _ (Evl.Ex.new hl) (Evl.st_of upd_same) fun b hb => ?_
    by_cases e : b = l
    · exact e
    · rw [upd_ne e] at hb
      exact absurd hb.1 hb.2
  · exact rd_tupT h (q pa _ (Evl.Ex.refl H) h fun b hb => absurd hb.1 hb.2)
theorem But.of_upd {m : Addr} {H : Hp} {o : HO} : But m H (upd H m o) := fun b u hb q => by rw [upd_ne hb]; exact q
theorem But.trans {m : Addr} {H H1 H2 : Hp} (a : But m H H1) (b : But m H1 H2) : But m H H2 := fun c o hc q => b c o hc (a c o hc q)
theorem Ex.but {m : Addr} {H H' : Hp} (e : Ex H H') : But m H H' := fun b o _ q => e b o q
theorem But.sqt {m a : Addr} {H H' : Hp} {xs : List V} {o : HO} (k : But m H H') (hm : H m = some o) (no : ∀ ys, o ≠ .tup ys) (nf : ∀ ob u, o ≠ .frz ob u) (h : SqT K H a xs) : SqT K H' a xs := by
  rcases h with (h | ⟨ob, h⟩) | h
  · exact .inl (.inl (k _ _ (fun z => by rw [z, hm] at h; exact no _ (Option.some.inj h)) h))
  · exact .inl (.inr ⟨ob, k _ _ (fun z => by rw [z, hm] at h; exact nf _ _ (Option.some.inj h)) h⟩)
  · exact .inr h
theorem But.sql {m a : Addr} {H H' : Hp} {xs : List V} {o : HO} (k : But m H H') (hm : H m = some o) (no : ∀ ys, o ≠ .lst ys) (nf : ∀ ob u, o ≠ .frz ob u) (h : SqL K H a xs) : SqL K H' a xs := by
  rcases h with (h | ⟨ob, h⟩) | h
  · exact .inl (.inl (k _ _ (fun z => by rw [z, hm] at h; exact no _ (Option.some.inj h)) h))
  · exact .inl (.inr ⟨ob, k _ _ (fun z => by rw [z, hm] at h; exact nf _ _ (Option.some.inj h)) h⟩)
  · exact .inr h
theorem But.sqa {m a C dx : Addr} {H H' : Hp} {xs : List V} {fs : List (Str × V)} (k : But m H H') (hm : H m = some (.ins C dx fs)) (h : SqA K H a xs) : SqA K H' a xs :=
  h.elim (fun z => .inl (k.sql hm (fun _ z => by cases z) (fun _ _ z => by cases z) z)) fun z => .inr (k.sqt hm (fun _ z => by cases z) (fun _ _ z => by cases z) z)
theorem But.rowsA {m C dx : Addr} {H H' : Hp} {fs : List (Str × V)} (k : But m H H') (hm : H m = some (.ins C dx fs)) : ∀ {rs : List Addr} {tab : List (List Int)}, RowsA K H rs tab → RowsA K H' rs tab
  | _, _, .nil => .nil
  | _, _, .cons h t => .cons (k.sqa hm h) (k.rowsA hm t)
theorem But.rowsT {m C dx : Addr} {H H' : Hp} {fs : List (Str × V)} (k : But m H H') (hm : H m = some (.ins C dx fs)) : ∀ {rs : List Addr} {tab : List (List Int)}, RowsT K H rs tab → RowsT K H' rs tab
  | _, _, .nil => .nil
  | _, _, .cons h t => .cons (k.sqt hm (fun _ z => by cases z) (fun _ _ z => by cases z) h) (k.rowsT hm t)
theorem sqt_hide {L r : Addr} {H : Hp} {xs vs : List V} (hL : H L = some (.lst vs)) (h : SqT K H r xs) : SqT K (hide L H) r xs := by
  rcases h with (h | ⟨ob, h⟩) | h
  · exact .inl (.inl (by rw [hide_ne (fun z => by rw [z, hL] at h; cases h)]; exact h))
  · exact .inl (.inr ⟨ob, by rw [hide_ne (fun z => by rw [z, hL] at h; cases h)]; exact h⟩)
  · exact .inr h
theorem RowsA.get2 {H : Hp} : ∀ {rs : List Addr} {tab : List (List Int)} {i : Nat}, RowsA K H rs tab → i < rs.length → ∃ r ns, rs[i]? = some r ∧ tab[i]? = some ns ∧ SqA K H r (ns.map V.int)
  | _, _, _, .nil, e => by cases e
  | _, _, 0, .cons h _, _ => ⟨_, _, rfl, rfl, h⟩
  | _, _, i + 1, .cons _ t, e => by
    obtain ⟨r, ns, h1, h2, h3⟩ := t.get2 (i := i) (Nat.lt_of_succ_lt_succ e)
    exact ⟨r, ns, by simpa using h1, by simpa using h2, h3⟩
/-- [tuple(row) for row in table] -/
theorem lc_rows {j : Nat} {σ : L2.St} {H : Hp} {Q : VK} {pt : Addr} {rs : List Addr} {tab : List (List Int)} {te : TE} (he : ∀ Q : VK, Q (.ref pt) H → te σ H Q) (hj : ∀ v : V, ((wipe σ [j]).set j (some v))[j]? = some (some v)) (hn : tab.length < 100000) (hT : SqA K H pt (rs.map V.ref)) (hR : RowsA K H rs tab)
    (h : ∀ L rs2 Hc, H L = none → Ex H Hc → Hc L = some (.lst (rs2.map V.ref)) → RowsT K (hide L Hc) rs2 tab → Q (.ref L) Hc) : iAny K te σ H (lcB (gName j) tYes (tCB (cTupOf K) (tCons (tVar j) tNil)) [j] σ Q) := by
  have rl := hR.len
  have xl : (rs.map V.ref).length = rs.length := List.length_map ..
  have el : ∀ L i Hc, i < (rs.map V.ref).length → H L = none → (∃ vs, Hc L = some (.lst vs)) → Ex H Hc → ∀ N : VK, (∀ v H2, Ex Hc H2 → (∃ (r : Addr) (ns : List Int), v = V.ref r ∧ tab[i]? = some ns ∧ SqT K (hide L H2) r (ns.map V.int)) → N v H2) →
      tCB (cTupOf K) (tCons (tVar j) tNil) ((wipe σ [j]).set j (some ((rs.map V.ref).getD i .non))) Hc N := by
    intro L i Hc hi hL ⟨vs, hv⟩ e N hN
    rw [xl] at hi
    obtain ⟨r, ns, h1, h2, h3⟩ := hR.get2 hi
    have ex : (rs.map V.ref).getD i .non = .ref r := by rw [List.getD_eq_getElem?_getD, List.getElem?_map, h1]; rfl
    rw [ex]
    refine ⟨_, hj _, ?_⟩
    rcases h3.ex e with h3 | h3
    · refine rd_tupL h3 fun l hl => hN _ _ (Evl.Ex.new hl) ⟨l, ns, rfl, h2, ?_⟩
      refine .inl (.inl ?_)
      rw [hide_ne (Ne.symm (ne_of_none hv hl)), upd_same]
    · exact rd_tupT h3 (hN _ _ (Evl.Ex.refl _) ⟨r, ns, rfl, h2, sqt_hide hv h3⟩)
  have fin : ∀ L vs Hc, H L = none → Ex H Hc → Hc L = some (.lst vs) → vs.length = (rs.map V.ref).length → (∀ (i : Nat) v, vs[i]? = some v → ∃ (r : Addr) (ns : List Int), v = V.ref r ∧ tab[i]? = some ns ∧ SqT K (hide L Hc) r (ns.map V.int)) → Q (.ref L) Hc := by
    intro L vs Hc hL e hv hl g
    obtain ⟨rs2, rfl, h2⟩ := RowsT.of (tab := tab) (by rw [hl, xl, rl]) g
    exact h L rs2 Hc hL e hv h2
  have yl : ∀ (i : Nat) (H : Hp) (x : V) (H' : Hp), i < (rs.map V.ref).length → YAt (rs.map V.ref) i H x H' → H' = H ∧ x = (rs.map V.ref).getD i .non := fun i H x H' _ y => ⟨y.1, by rw [List.getD_eq_getElem?_getD, y.2]; rfl⟩
  have mR : ∀ (i : Nat) (v : V) (H1 H2 : Hp), Ex H1 H2 → (∃ (r : Addr) (ns : List Int), v = V.ref r ∧ tab[i]? = some ns ∧ SqT K H1 r (ns.map V.int)) → ∃ (r : Addr) (ns : List Int), v = V.ref r ∧ tab[i]? = some ns ∧ SqT K H2 r (ns.map V.int) := fun i v H1 H2 e ⟨r, ns, a, b, c⟩ => ⟨r, ns, a, b, Evl.ex_t e c⟩
  rcases hT with hT | hT
  · exact rd_anyL he hT (lc_new (fun i v H => ∃ (r : Addr) (ns : List Int), v = V.ref r ∧ tab[i]? = some ns ∧ SqT K H r (ns.map V.int)) walk_list yl (by rw [xl, rl]; exact hn) (fun Hc e => Evl.ex_l e hT) mR el fin)
  · exact rd_anyT he hT (lc_new (fun i v H => ∃ (r : Addr) (ns : List Int), v = V.ref r ∧ tab[i]? = some ns ∧ SqT K H r (ns.map V.int)) walk_tup yl (by rw [xl, rl]; exact hn) (fun Hc e => Evl.ex_t e hT) mR el fin)
theorem ok_Machine_init : FnOk P w K mg base (L2.CX P w) 5 T.a_Machine_init T.d_Machine_init ["self", "letters", "accepting", "table"] (spMInit T) := by
  refine T.f_Machine_init.okX sc_Machine_init (fun vs H Q E h => ?_) (fun cdv A outer s H vs Q E hr h => ?_)
  · obtain ⟨_, _, _, _, _, _, _, _, rfl, _⟩ := h; rfl
  · obtain ⟨m, dx, pa, pt, ls, acc, rs, tab, rfl, l0, l1, hm, hA, hT, hR, hn, qy, qn⟩ := h
    refine ⟨_, (pss_cons (kSf K rfl (ps_fld (pv 0) (pv 1) rfl))
  (pss_cons (kSf K rfl (ps_fld (pv 0) (pe_callTy (kTupOf K) (by rfl) T.nb_tuple (by decide +kernel) (pa_cons (pv 2) pa_nil)) rfl))
  (pss_cons (kSf K rfl (ps_fld (pv 0) (pe_callTy (kTupOf K) (by rfl) T.nb_tuple (by decide +kernel) (pa_cons (pe_lc (own := [("row", 4)]) (g := gName 4) (tt := tYes) (by rfl) sc_Machine_init.nd (kAny K rfl (pv 3)) (blkOk_by (own := [("row", 4)]) (N := ["self", "letters", "accepting", "table", "row"]) (sc := defScope s_Machine_init) (by decide +kernel)) (fun _ _ _ _ _ => (pg_name (i := 4) sc_Machine_init.nd rfl (by first | exact Or.inl rfl | exact Or.inr rfl))) (fun _ _ _ _ _ => pts_nil) (fun _ _ _ _ _ => (pe_callTy (kTupOf K) (by rfl) T.nb_tuple (by decide +kernel) (pa_cons (pv 4) pa_nil)))) pa_nil)) rfl))
  (pss_one (ps_expr (pe_methR0 T.m_Machine_check T.cl_Machine (pv 0) (ok_Machine_check T) (hr.mono (by decide)) T.b_Machine_check (takes_of rfl rfl rfl rfl))))))), ?_⟩
    walk_at "rs"
    walk_at "rc"
    refine ⟨m, T.C_Machine, dx, [], rfl, hm, T.cl_Machine, T.na_Machine_letters, by show 0 < 1000; decide, ?_⟩
    have k1 : But m H (upd H m (.ins T.C_Machine dx (putF "letters" (.str ls) []))) := But.of_upd
    generalize hH1 : upd H m (.ins T.C_Machine dx (putF "letters" (.str ls) [])) = H1 at k1
    have m1 : H1 m = some (.ins T.C_Machine dx [("letters", .str ls)]) := by rw [← hH1]; exact upd_same
    walk_at "rs"
    walk_at "rc"
    refine (k1.sqa hm hA).tup fun ta H2 e2 hta _ => ?_
    have m2 := e2 _ _ m1
    walk_at "rc"
    refine ⟨m, T.C_Machine, dx, _, rfl, m2, T.cl_Machine, T.na_Machine_accepting, by show 1 < 1000; decide, ?_⟩
    have k3 : But m H2 (upd H2 m (.ins T.C_Machine dx (putF "accepting" (.ref ta) [("letters", .str ls)]))) := But.of_upd
    generalize hH3 : upd H2 m (.ins T.C_Machine dx (putF "accepting" (.ref ta) [("letters", .str ls)])) = H3 at k3
    have m3 : H3 m = some (.ins T.C_Machine dx [("letters", .str ls), ("accepting", .ref ta)]) := by rw [← hH3]; exact upd_same
    have ka : But m H H3 := (k1.ex e2).trans k3
    have hta3 : SqT K H3 ta (acc.map V.bl) := k3.sqt m2 (fun _ z => by cases z) (fun _ _ z => by cases z) hta
    walk_at "rs"
    walk_at "rc"
    refine lc_rows (fun Q q => ⟨_, rfl, q⟩) (fun v => rfl) hn (ka.sqa hm hT) (ka.rowsA hm hR) fun L rs2 Hc hL ec hLc hRc => ?_
    walk_at "rc"
    refine rd_tupL (SqL.of hLc) fun tt htt => ?_
    have e5 : Ex Hc (upd Hc tt (.tup (rs2.map V.ref))) := Evl.Ex.new htt
    have hRT := (hRc.ex hide_ex).ex e5
    generalize hH5 : upd Hc tt (.tup (rs2.map V.ref)) = H5 at e5 hRT
    have htt5 : SqT K H5 tt (rs2.map V.ref) := by rw [← hH5]; exact Evl.st_of upd_same
    have m5 := e5 _ _ (ec _ _ m3)
    walk_at "rc"
    refine ⟨m, T.C_Machine, dx, _, rfl, m5, T.cl_Machine, T.na_Machine_table, by show 2 < 1000; decide, ?_⟩
    have k6 : But m H5 (upd H5 m (.ins T.C_Machine dx (putF "table" (.ref tt) [("letters", .str ls), ("accepting", .ref ta)]))) := But.of_upd
    generalize hH6 : upd H5 m (.ins T.C_Machine dx (putF "table" (.ref tt) [("letters", .str ls), ("accepting", .ref ta)])) = H6 at k6
    have m6 : H6 m = some (.ins T.C_Machine dx (mFields ls ta tt)) := by rw [← hH6]; exact upd_same
    have kz : But m H H6 := ((ka.ex ec).ex e5).trans k6
    have ma : MachineAt K T.C_Machine H6 m ls acc tab := ⟨dx, ta, tt, rs2, m6, k6.sqt m5 (fun _ z => by cases z) (fun _ _ z => by cases z) (Evl.ex_t (ec.trans e5) hta3), k6.sqt m5 (fun _ z => by cases z) (fun _ _ z => by cases z) htt5, k6.rowsT m5 hRT⟩
    walk_at "rc"
    refine ⟨m, dx, _, rfl, m6, rfl, ?_⟩
    walk_at "rc"
    refine ⟨m, ls, acc, tab, rfl, l0, l1, ma, fun g => ?_, fun g d hd => ?_⟩
    · exact qy g H6 kz ma
    · refine qn g d _ (kz.ex (Evl.Ex.new hd)) ?_ upd_same
      cases q0 : H d with
      | none => rfl
      | some o =>
        by_cases hdm : d = m
        · rw [hdm, m6] at hd; cases hd
        · rw [kz d o hdm q0] at hd; cases hd
/-! ### running -/
def stepM (ls : Str) (tab : List (List Int)) (s : Int) (c : Nat) : Int := (tab.getD s.toNat []).getD (ls.cps.toList.idxOf c) 0
def runM (ls : Str) (tab : List (List Int)) (t : List Nat) : Int := t.foldl (stepM ls tab) 0
theorem stepM_in {ls : Str} {acc : List Bool} {tab : List (List Int)} (g : goodM ls acc tab) {s : Int} {c : Nat} (h0 : 0 ≤ s) (h1 : s < acc.length) (hc : c ∈ ls.cps.toList) :
    ∃ row, tab[s.toNat]? = some row ∧ row[ls.cps.toList.idxOf c]? = some (stepM ls tab s c) ∧ 0 ≤ stepM ls tab s c ∧ stepM ls tab s c < acc.length := by
  obtain ⟨g0, g1, g2⟩ := g
  have hs : s.toNat < tab.length := by omega
  have hr : tab[s.toNat]? = some tab[s.toNat] := List.getElem?_eq_getElem hs
  have hm : tab[s.toNat] ∈ tab := List.getElem_mem hs
  obtain ⟨l1, l2⟩ := g2 _ hm
  have hi : ls.cps.toList.idxOf c < (tab[s.toNat]).length := by
    have := List.idxOf_lt_length_iff.mpr hc
    have e : ls.cps.toList.length = ls.length := rfl
    omega
  have e : stepM ls tab s c = (tab[s.toNat])[ls.cps.toList.idxOf c] := by
    have e0 : tab.getD s.toNat [] = tab[s.toNat] := by
      rw [List.getD_eq_getElem?_getD, hr]
      rfl
    unfold stepM
    rw [e0, List.getD_eq_getElem?_getD, List.getElem?_eq_getElem hi]
    rfl
  have b := l2 _ (List.getElem_mem hi)
  rw [← e] at b
  exact ⟨_, hr, by rw [List.getElem?_eq_getElem hi, e], b.1, b.2⟩
theorem runM_take {ls : Str} {tab : List (List Int)} {t : List Nat} {i : Nat} {c : Nat} (h : t[i]? = some c) : runM ls tab (t.take (i + 1)) = stepM ls tab (runM ls tab (t.take i)) c := by
  unfold runM
  rw [List.take_succ, h, List.foldl_append]
  rfl
def runF (ls : Str) (tab : List (List Int)) (s : Int) (t : List Nat) : Int := t.foldl (stepM ls tab) s
theorem runF_take {ls : Str} {tab : List (List Int)} {s : Int} {t : List Nat} {i : Nat} {c : Nat} (h : t[i]? = some c) : runF ls tab s (t.take (i + 1)) = stepM ls tab (runF ls tab s (t.take i)) c := by
  unfold runF
  rw [List.take_succ, h, List.foldl_append]
  rfl
theorem runF_in {ls : Str} {acc : List Bool} {tab : List (List Int)} (g : goodM ls acc tab) : ∀ (t : List Nat) (s : Int), (∀ c ∈ t, c ∈ ls.cps.toList) → 0 ≤ s → s < acc.length → 0 ≤ runF ls tab s t ∧ runF ls tab s t < acc.length := by
  intro t
  induction t with
  | nil => intro s _ h0 h1; exact ⟨h0, h1⟩
  | cons c t ih =>
    intro s hc h0 h1
    obtain ⟨_, _, _, a, b⟩ := stepM_in g h0 h1 (hc c List.mem_cons_self)
    exact ih _ (fun d hd => hc d (List.mem_cons_of_mem _ hd)) a b
theorem runM_in {ls : Str} {acc : List Bool} {tab : List (List Int)} (g : goodM ls acc tab) : ∀ (t : List Nat), (∀ c ∈ t, c ∈ ls.cps.toList) → 0 ≤ runM ls tab t ∧ runM ls tab t < acc.length := fun t hc => by
  have g0 := g.1
  exact runF_in g t 0 hc (Int.le_refl 0) (by omega)
def spRunF : Sp := fun vs H Q _ => ∃ (m : Addr) (ls t : Str) (s : Int) (acc : List Bool) (tab : List (List Int)), vs = [.ref m, .int s, .str t] ∧ MachineAt K T.C_Machine H m ls acc tab ∧ goodM ls acc tab ∧ 0 ≤ s ∧ s < acc.length ∧ (∀ c ∈ t.cps.toList, c ∈ ls.cps.toList) ∧ Q (.int (runF ls tab s t.cps.toList)) H
theorem ok_Machine_run_from : FnOk P w K mg base CX0 1 T.a_Machine_run_from T.d_Machine_run_from ["self", "state", "text"] (spRunF T) := by
  refine T.f_Machine_run_from.ok sc_Machine_run_from (fun vs H Q E h => ?_) (fun cdv A outer s H vs Q E hr h => ?_)
  · obtain ⟨_, _, _, _, _, _, rfl, _⟩ := h; rfl
  · obtain ⟨m, ls, t, s0, acc, tab, rfl, ⟨dx, ta, tt, rs, hm, hA, hT, hR⟩, g, z0, z1, hc, q⟩ := h
    have fl : ∀ (f : Str) (v : V) (H' : Hp) (σ : L2.St) (N : VK), NoAttr K T.C_Machine f → (mFields ls ta tt).lookup f = some v → σ[0]? = some (some (.ref m)) → H' = H → N v H' → tFld K (tVar 0) f σ H' N := fun f v H' σ N na hl h0 e z => by
      subst e
      exact ⟨_, h0, m, T.C_Machine, dx, _, v, rfl, hm, T.cl_Machine, na, hl, z⟩
    refine ⟨_, (pss_cons (ps_for PassesOwn.never rfl (kAny K rfl (pv 2)) (pg_name (i := 3) sc_Machine_run_from.nd rfl (by first | exact Or.inl rfl | exact Or.inr rfl))
    (pss_one (ps_set (i := 1) sc_Machine_run_from.nd rfl (by first | exact Or.inl rfl | exact Or.inr rfl) (pe_ix (kIx K) (pe_ix (kIx K) (kFld K rfl (pe_fld (pv 0) rfl)) (pv 1) (fun _ _ => rfl)) (kBm K rfl (pe_bm PySem.F.plainAttrs_str PySem.F.slot_str_index PySem.F.type_str_index mt_strIdx (kFld K rfl (pe_fld (pv 0) rfl)) (pa_cons (pv 3) pa_nil))) (fun _ _ => rfl)))))
  (pss_one (ps_ret (pv 1)))), ?_⟩
    walk_at "rs"
    walk_at "rc"
    refine rd_anyS (fun Q q => ⟨_, rfl, q⟩) (fo_str (fun i σ H' => (∃ v, σ = [some (.ref m), some (.int (runF ls tab s0 (t.cps.toList.take i))), some (.str t), v]) ∧ H' = H) ⟨⟨none, rfl⟩, rfl⟩ ?_ ?_)
    · rintro i c σ H' hi ⟨⟨v, rfl⟩, rfl⟩
      have hcm := hc c (List.mem_of_getElem? hi)
      have rin := runF_in g (t.cps.toList.take i) s0 (fun d hd => hc d (List.mem_of_mem_take hd)) z0 z1
      obtain ⟨row, hrow, hcell, s0', s1'⟩ := stepM_in g rin.1 rin.2 hcm
      obtain ⟨r, hrr, hsr⟩ := hR.get2 hrow
      have e : runF ls tab s0 (t.cps.toList.take i) = ((runF ls tab s0 (t.cps.toList.take i)).toNat : Int) := (Int.toNat_of_nonneg rin.1).symm
      walk_at "rc1"
      walk_at "rc1"
      walk_at "rc1"
      walk_at "rc1"
      refine fl "table" _ _ _ _ T.na_Machine_table rfl rfl rfl ?_
      walk_at "rc"
      refine rd_ixT (v := .ref r) hT ?_ ?_
      · rw [e]
        exact atI_nat (by rw [List.getElem?_map, hrr]; rfl)
      walk_at "rc1"
      walk_at "rc1"
      refine fl "letters" _ _ _ _ T.na_Machine_letters rfl rfl rfl ?_
      refine ⟨rfl, ?_⟩
      walk_at "rc"
      refine rd_idx hcm ?_
      refine rd_ixT (v := .int (stepM ls tab (runF ls tab s0 (t.cps.toList.take i)) c)) hsr (atI_nat (by rw [List.getElem?_map, hcell]; rfl)) ?_
      walk_at "rc"
      rw [runF_take hi]
      exact ⟨⟨_, rfl⟩, rfl⟩
    · rintro σ H' ⟨⟨v, rfl⟩, rfl⟩
      walk_at "rc"
      have e : t.cps.toList.length = t.length := rfl
      rw [← e, List.take_length]
      exact q
def spRun : Sp := fun vs H Q _ => ∃ (m : Addr) (ls t : Str) (acc : List Bool) (tab : List (List Int)), vs = [.ref m, .str t] ∧ MachineAt K T.C_Machine H m ls acc tab ∧ goodM ls acc tab ∧ (∀ c ∈ t.cps.toList, c ∈ ls.cps.toList) ∧ Q (.int (runM ls tab t.cps.toList)) H
theorem ok_Machine_run : FnOk P w K mg base CX0 2 T.a_Machine_run T.d_Machine_run ["self", "text"] (spRun T) := by
  refine T.f_Machine_run.ok sc_Machine_run (fun vs H Q E h => ?_) (fun cdv A outer s H vs Q E hr h => ?_)
  · obtain ⟨_, _, _, _, _, rfl, _⟩ := h; rfl
  · obtain ⟨m, ls, t, acc, tab, rfl, hM, g, hc, q⟩ := h
    obtain ⟨dx, ta, tt, rs, hm, hA, hT, hR⟩ := id hM
    have g0 := g.1
    refine ⟨_, (pss_one (ps_ret (pe_meth (pv 0) T.cl_Machine T.m_Machine_run_from (ok_Machine_run_from T) (hr.mono (by decide)) T.b_Machine_run_from .nil pass0 (pa_cons pe_int (pa_cons (pv 1) pa_nil))))), ?_⟩
    walk_at "rc"
    refine ⟨m, dx, _, rfl, hm, rfl, ?_⟩
    walk_at "rc"
    exact ⟨m, ls, t, 0, acc, tab, rfl, hM, g, Int.le_refl 0, by omega, hc, q⟩
def spAccepts : Sp := fun vs H Q _ => ∃ (m : Addr) (ls t : Str) (acc : List Bool) (tab : List (List Int)), vs = [.ref m, .str t] ∧ MachineAt K T.C_Machine H m ls acc tab ∧ goodM ls acc tab ∧ (∀ c ∈ t.cps.toList, c ∈ ls.cps.toList) ∧ Q (.bl (acc.getD (runM ls tab t.cps.toList).toNat false)) H
theorem ok_Machine_accepts : FnOk P w K mg base CX0 3 T.a_Machine_accepts T.d_Machine_accepts ["self", "text"] (spAccepts T) := by
  refine T.f_Machine_accepts.ok sc_Machine_accepts (fun vs H Q E h => ?_) (fun cdv A outer s H vs Q E hr h => ?_)
  · obtain ⟨_, _, _, _, _, rfl, _⟩ := h; rfl
  · obtain ⟨m, ls, t, acc, tab, rfl, hM, g, hc, q⟩ := h
    obtain ⟨dx, ta, tt, rs, hm, hA, hT, hR⟩ := id hM
    have rin := runM_in g t.cps.toList hc
    refine ⟨_, (pss_one (ps_ret (pe_ix (kIx K) (kFld K rfl (pe_fld (pv 0) rfl)) (pe_meth (pv 0) T.cl_Machine T.m_Machine_run (ok_Machine_run T) (hr.mono (by decide)) T.b_Machine_run .nil pass0 (pa_cons (pv 1) pa_nil)) (fun _ _ => rfl)))), ?_⟩
    walk_at "rc"
    refine ⟨m, T.C_Machine, dx, _, _, rfl, hm, T.cl_Machine, T.na_Machine_accepting, rfl, ?_⟩
    walk_at "rc"
    refine ⟨m, dx, _, rfl, hm, rfl, ?_⟩
    walk_at "rc"
    refine ⟨m, ls, t, acc, tab, rfl, hM, g, hc, ?_⟩
    obtain ⟨n, hn⟩ := Int.eq_ofNat_of_zero_le rin.1
    rw [hn]
    rw [hn] at q
    have hl : n < acc.length := by have := rin.2; omega
    refine rd_ixT (v := .bl (acc.getD n false)) hA (atI_nat (by rw [List.getElem?_map, List.getD_eq_getElem?_getD, List.getElem?_eq_getElem hl]; rfl)) ?_
    exact q
/-- what a machine is made of, as data -/
def picD (ls : Str) (acc : List Bool) (tab : List (List Int)) : PyData := .tuple [.str ls, .tuple (acc.map .bool), .tuple (tab.map fun r => .tuple (r.map .int))]
theorem dp_bools {H : Hp} : ∀ {bs : List Bool}, DpAll K H (bs.map V.bl) (bs.map PyData.bool)
  | [] => .nil
  | b :: bs => .cons (.bl b) dp_bools
theorem dp_ints {H : Hp} : ∀ {ns : List Int}, DpAll K H (ns.map V.int) (ns.map PyData.int)
  | [] => .nil
  | n :: ns => .cons (.int n) dp_ints
theorem dp_rows {H : Hp} : ∀ {rs : List Addr} {tab : List (List Int)}, RowsT K H rs tab → DpAll K H (rs.map V.ref) (tab.map fun r => PyData.tuple (r.map .int))
  | _, _, .nil => .nil
  | _, _, .cons h t => .cons (.tup h dp_ints) (dp_rows t)
def spPicture : Sp := fun vs H Q _ => ∃ (m : Addr) (ls : Str) (acc : List Bool) (tab : List (List Int)), vs = [.ref m] ∧ MachineAt K T.C_Machine H m ls acc tab ∧ ∀ p H', Ex H H' → Dp K H' (.ref p) (picD ls acc tab) → Q (.ref p) H'
theorem ok_Machine_picture : FnOk P w K mg base CX0 1 T.a_Machine_picture T.d_Machine_picture ["self"] (spPicture T) := by
  refine T.f_Machine_picture.ok sc_Machine_picture (fun vs H Q E h => ?_) (fun cdv A outer s H vs Q E hr h => ?_)
  · obtain ⟨_, _, _, _, rfl, _⟩ := h; rfl
  · obtain ⟨m, ls, acc, tab, rfl, ⟨dx, ta, tt, rs, hm, hA, hT, hR⟩, q⟩ := h
    refine ⟨_, (pss_one (ps_ret (pe_tup (pa_cons (kFld K rfl (pe_fld (pv 0) rfl)) (pa_cons (kFld K rfl (pe_fld (pv 0) rfl)) (pa_cons (kFld K rfl (pe_fld (pv 0) rfl)) pa_nil)))))), ?_⟩
    walk_at "rc"
    refine ⟨m, T.C_Machine, dx, _, _, rfl, hm, T.cl_Machine, T.na_Machine_letters, rfl, ?_⟩
    walk_at "rc"
    refine ⟨m, T.C_Machine, dx, _, _, rfl, hm, T.cl_Machine, T.na_Machine_accepting, rfl, ?_⟩
    walk_at "rc"
    refine ⟨m, T.C_Machine, dx, _, _, rfl, hm, T.cl_Machine, T.na_Machine_table, rfl, ?_⟩
    walk_at "rc"
    refine ⟨by show 3 ≤ sizeLine; decide, fun p hp => ?_⟩
    have e := Evl.Ex.new (o := .tup [.str ls, .ref ta, .ref tt]) hp
    exact q p _ e (.tup (Evl.st_of upd_same) (.cons (.str _) (.cons (.tup (Evl.ex_t e hA) dp_bools) (.cons (.tup (Evl.ex_t e hT) (dp_rows (hR.ex e))) .nil))))
/-! ### the law's own helpers -/
theorem made_ex {C x dx : Addr} {H H' : Hp} (hx : H x = none) (hd : H dx = none) (ne : dx ≠ x) (k : But x (upd (upd H dx (.own x)) x (.ins C dx [])) H') : Ex H H' := fun b o q =>
  k b o (ne_of_none q hx) (by rw [upd_ne (ne_of_none q hx), upd_ne (ne_of_none q hd)]; exact q)
theorem RowsA.made {C x dx : Addr} {H : Hp} (hx : H x = none) (hd : H dx = none) {rs : List Addr} {tab : List (List Int)} (h : RowsA K H rs tab) : RowsA K (upd (upd H dx (.own x)) x (.ins C dx [])) rs tab :=
  h.ex fun b o q => by rw [upd_ne (ne_of_none q hx), upd_ne (ne_of_none q hd)]; exact q
theorem SqA.made {C x dx a : Addr} {H : Hp} (hx : H x = none) (hd : H dx = none) {xs : List V} (h : SqA K H a xs) : SqA K (upd (upd H dx (.own x)) x (.ins C dx [])) a xs :=
  h.ex fun b o q => by rw [upd_ne (ne_of_none q hx), upd_ne (ne_of_none q hd)]; exact q
noncomputable instance (ls : Str) (acc : List Bool) (tab : List (List Int)) : Decidable (goodM ls acc tab) := Classical.propDecidable _
def spMade : Sp := fun vs H Q _ => ∃ (pa pt : Addr) (ls : Str) (acc : List Bool) (rs : List Addr) (tab : List (List Int)), vs = [.str ls, .ref pa, .ref pt] ∧ 0 < ls.length ∧ ls.length ≤ 1000000 ∧ SqA K H pa (acc.map V.bl) ∧ SqA K H pt (rs.map V.ref) ∧ RowsA K H rs tab ∧ tab.length < 100000 ∧
  ∀ H', Ex H H' → Q (.bl (!decide (goodM ls acc tab))) H'
theorem ok_made : FnOk P w K mg base CX0 7 T.a_made T.d_made ["letters", "accepting", "table"] (spMade (K := K)) := by
  refine T.f_made.ok sc_made (fun vs H Q E h => ?_) (fun cdv A outer s H vs Q E hr h => ?_)
  · obtain ⟨_, _, _, _, _, _, rfl, _⟩ := h; rfl
  · obtain ⟨pa, pt, ls, acc, rs, tab, rfl, l0, l1, hA, hT, hR, hn, q⟩ := h
    refine ⟨_, (pss_cons (ps_try_as (i := 3) rfl rfl sc_made.nd rfl rfl ⟨rfl, by decide, Or.inl T.g_MachineError⟩ takes0
   (fun W pn xe tk hp => (pss_one (ps_expr (pe_makeR T.mk_Machine (ok_Machine_init T) (hr.mono (by decide)) T.g_Machine T.b_Machine_init tk (pa_cons (pv 0) (pa_cons (pv 1) (pa_cons (pv 2) pa_nil)))))))
   (fun a oe cls d pn hz hf => PSs.exi (P := Caught K cls d) fun i hi => (pss_one (ps_ret (pe_and (pe_callB (call_isX hi.x T.clsB (hi.z hz) hf) (by rfl) T.nb_isinstance (by decide +kernel) (pa_cons (pv 3) (pa_cons (pe_globR (by rfl) T.g_BadMachine) pa_nil))) (pe_and (pe_not (pe_callB (call_isX hi.x T.clsB (hi.z hz) hf) (by rfl) T.nb_isinstance (by decide +kernel) (pa_cons (pv 3) (pa_cons (pe_tup (pa_cons (pe_globR (by rfl) T.g_BadRewriter) (pa_cons (pe_globR (by rfl) T.g_ProgramError) pa_nil))) pa_nil)))) (pe_one (pe_cmpR op_isN (pe_xf hi.x.xf hi.x.nw (hi.z hz) hf (pv 3)) pe_non (by first | rfl | exact nomark _)))))))))
  (pss_one (ps_ret pe_bl))), ?_⟩
    walk_at "rc"
    walk_at "rs"
    walk_at "rc"
    intro x dx hx hdx ne
    refine ⟨x, dx, pa, pt, ls, acc, rs, tab, rfl, l0, l1, upd_same, hA.made hx hdx, hT.made hx hdx, hR.made hx hdx, hn, fun g H' k _ => ⟨rfl, ?_⟩, fun g d H' k hd hw => ?_⟩
    · walk_at "rc"
      have e := q H' (made_ex hx hdx ne k)
      rw [decide_eq_true g] at e
      exact e
    · have X := T.x_BadMachine
      refine ⟨true, PySem.W.exm_ref T.e_MachineError T.h_MachineError T.t_MachineError T.s_BadMachine_MachineError, fun _ a0 _ => ?_, fun h => by cases h⟩
      refine ⟨(T.C_BadMachine, d, T.a_init), ⟨rfl, rfl, X⟩, ?_⟩
      have e := q H' (made_ex hx hdx ne k)
      rw [decide_eq_false g] at e
      walk_at "rd"
      refine ⟨_, true, hw, .inl ⟨_, _, rfl, .own _, kit_ref X T.i_BadMachine T.t_BadMachine T.s_BadMachine_BadMachine⟩, ?_⟩
      walk_at "rd"
      refine ⟨by show 2 ≤ sizeLine; decide, fun tp htp => ?_⟩
      have hw2 : (upd H' tp (.tup [.ref T.C_BadRewriter, .ref T.C_ProgramError])) d = some (.xd [("what", .non)]) := by
        rw [upd_ne (ne_of_none hw htp), hw]
      walk_at "rd"
      refine ⟨_, false, hw2, .inr ⟨tp, _, [.ref T.C_BadRewriter, .ref T.C_ProgramError], rfl, upd_same, .cons (.own _) (.cons (.own _) .nil), kitAny_cons (kit_ref X T.i_BadRewriter T.t_BadRewriter T.s_BadMachine_BadRewriter) (fun _ => kitAny_cons (kit_ref X T.i_ProgramError T.t_ProgramError T.s_BadMachine_ProgramError) (fun _ => kitAny_nil) (fun h => by cases h)) (fun h => by cases h)⟩, ?_⟩
      walk_at "rd"
      refine ⟨rfl, rfl, d, _, _, rfl, hw2, rfl, ?_⟩
      walk_at "rd"
      refine ⟨rfl, ?_⟩
      have e2 := q _ (ex_upd (o := .tup [.ref T.C_BadRewriter, .ref T.C_ProgramError]) (made_ex hx hdx ne k) htp)
      rw [decide_eq_false g] at e2
      exact e2
/-! ### rows in lists of their own -/
/-- rows, each in a list of its own -/
def RowsF (H : Hp) (rs : List Addr) (tab : List (List Int)) : Prop := rs.Nodup ∧ rs.length = tab.length ∧ ∀ (i : Nat) (r : Addr) (ns : List Int), rs[i]? = some r → tab[i]? = some ns → H r = some (.lst (ns.map V.int))
theorem RowsA.of {H : Hp} : ∀ {rs : List Addr} {tab : List (List Int)}, rs.length = tab.length → (∀ (i : Nat) (r : Addr) (ns : List Int), rs[i]? = some r → tab[i]? = some ns → SqA K H r (ns.map V.int)) → RowsA K H rs tab
  | [], [], _, _ => .nil
  | [], _ :: _, h, _ => by cases h
  | _ :: _, [], h, _ => by cases h
  | r :: rs, ns :: tab, h, g => .cons (g 0 r ns rfl rfl) (RowsA.of (Nat.succ.inj h) fun i r ns h1 h2 => g (i + 1) r ns (by simpa using h1) (by simpa using h2))
theorem RowsF.a {H : Hp} {rs : List Addr} {tab : List (List Int)} (h : RowsF H rs tab) : RowsA K H rs tab := .of h.2.1 fun i r ns h1 h2 => .inl (SqL.of (h.2.2 i r ns h1 h2))
theorem RowsF.but {H H' : Hp} {rs : List Addr} {tab : List (List Int)} (h : RowsF H rs tab) (k : ∀ b o, b ∈ rs → H b = some o → H' b = some o) : RowsF H' rs tab :=
  ⟨h.1, h.2.1, fun i r ns h1 h2 => k r _ (List.mem_of_getElem? h1) (h.2.2 i r ns h1 h2)⟩
theorem RowsF.stands {H : Hp} {rs : List Addr} {tab : List (List Int)} (h : RowsF H rs tab) {r : Addr} (hr : r ∈ rs) : ∃ ns : List Int, H r = some (.lst (ns.map V.int)) := by
  obtain ⟨i, hi⟩ := List.getElem?_of_mem hr
  have hl : i < rs.length := (List.getElem?_eq_some_iff.mp hi).1
  have ht : i < tab.length := by rw [← h.2.1]; exact hl
  exact ⟨_, h.2.2 i r _ hi (List.getElem?_eq_getElem ht)⟩
theorem RowsF.get {H : Hp} {rs : List Addr} {tab : List (List Int)} {i : Nat} (h : RowsF H rs tab) (hi : i < tab.length) : ∃ r ns, rs[i]? = some r ∧ tab[i]? = some ns ∧ H r = some (.lst (ns.map V.int)) := by
  have hr : i < rs.length := by rw [h.2.1]; exact hi
  exact ⟨_, _, List.getElem?_eq_getElem hr, List.getElem?_eq_getElem hi, h.2.2 i _ _ (List.getElem?_eq_getElem hr) (List.getElem?_eq_getElem hi)⟩
theorem RowsF.set {H : Hp} {rs : List Addr} {tab : List (List Int)} {at' : Nat} {r : Addr} {ns : List Int} (h : RowsF H rs tab) (hr : rs[at']? = some r) : RowsF (upd H r (.lst (ns.map V.int))) rs (tab.set at' ns) := by
  refine ⟨h.1, by rw [List.length_set]; exact h.2.1, fun i q ms h1 h2 => ?_⟩
  have hl : at' < rs.length := (List.getElem?_eq_some_iff.mp hr).1
  by_cases e : i = at'
  · subst e
    rw [hr] at h1
    obtain rfl : r = q := Option.some.inj h1
    rw [List.getElem?_set_self (by rw [← h.2.1]; exact hl)] at h2
    obtain rfl : ns = ms := Option.some.inj h2
    exact upd_same
  · rw [List.getElem?_set_ne (fun z => e z.symm)] at h2
    have hne : q ≠ r := fun z => by
      subst z
      have hil : i < rs.length := (List.getElem?_eq_some_iff.mp h1).1
      exact e ((List.getElem?_inj hil h.1).mp (h1.trans hr.symm))
    rw [upd_ne hne]
    exact h.2.2 i q ms h1 h2
/-- one more row -/
theorem RowsF.snoc {H : Hp} {rs : List Addr} {tab : List (List Int)} {r : Addr} {ns : List Int} (h : RowsF H rs tab) (hr : H r = some (.lst (ns.map V.int))) (hn : r ∉ rs) : RowsF H (rs ++ [r]) (tab ++ [ns]) := by
  refine ⟨List.nodup_append.mpr ⟨h.1, List.nodup_cons.mpr ⟨List.not_mem_nil, List.nodup_nil⟩, fun a ha b hb z => hn (by rw [List.mem_singleton.mp hb] at z; exact z ▸ ha)⟩, by rw [List.length_append, List.length_append, h.2.1]; rfl, fun i q ms h1 h2 => ?_⟩
  by_cases e : i < rs.length
  · rw [List.getElem?_append_left e] at h1
    rw [List.getElem?_append_left (by rw [← h.2.1]; exact e)] at h2
    exact h.2.2 i q ms h1 h2
  · rw [List.getElem?_append_right (by omega)] at h1
    rw [List.getElem?_append_right (by rw [← h.2.1]; omega), ← h.2.1] at h2
    cases k : i - rs.length with
    | zero =>
      rw [k] at h1 h2
      obtain rfl : r = q := Option.some.inj h1
      obtain rfl : ns = ms := Option.some.inj h2
      exact hr
    | succ n => rw [k] at h1; cases h1
/-- [list(row) for row in table] -/
theorem lc_copy {j : Nat} {σ : L2.St} {H : Hp} {Q : VK} {pt : Addr} {rs : List Addr} {tab : List (List Int)} {te : TE} (he : ∀ Q : VK, Q (.ref pt) H → te σ H Q) (hj : ∀ v : V, ((wipe σ [j]).set j (some v))[j]? = some (some v)) (hn : tab.length < 100000) (hT : SqL K H pt (rs.map V.ref)) (hR : RowsA K H rs tab)
    (h : ∀ L rs2 Hc, H L = none → Ex H Hc → Hc L = some (.lst (rs2.map V.ref)) → RowsF Hc rs2 tab → L ∉ rs2 → (∀ r ∈ rs2, H r = none) → Q (.ref L) Hc) : iAny K te σ H (lcB (gName j) tYes (tCB (cLstOf K) (tCons (tVar j) tNil)) [j] σ Q) := by
  have rl := hR.len
  have xl : (rs.map V.ref).length = rs.length := List.length_map ..
  have yl : ∀ (i : Nat) (H : Hp) (x : V) (H' : Hp), i < (rs.map V.ref).length → YAt (rs.map V.ref) i H x H' → H' = H ∧ x = (rs.map V.ref).getD i .non := fun i H x H' _ y => ⟨y.1, by rw [List.getD_eq_getElem?_getD, y.2]; rfl⟩
  refine rd_anyL he hT (lc_gen (fun L i vs Hc => Ex H Hc ∧ ∃ rs2, vs = rs2.map V.ref ∧ RowsF Hc rs2 (tab.take i) ∧ L ∉ rs2 ∧ ∀ r ∈ rs2, H r = none) walk_list yl (by rw [xl, rl]; exact hn) (fun L hL => ⟨Evl.Ex.new hL, [], rfl, ⟨List.nodup_nil, rfl, fun i r ns h1 _ => by cases h1⟩, List.not_mem_nil, fun r hr => by cases hr⟩) (fun L i vs Hc _ p => Evl.ex_l p.1 hT) (fun L i vs Hc hi hL h1 h2 p N hN => ?_) (fun L vs Hc hL h1 h2 p => ?_))
  · obtain ⟨e, rs2, rfl, f, nl, fr⟩ := p
    rw [xl] at hi
    obtain ⟨r, ns, g1, g2, g3⟩ := hR.get2 hi
    have ex : (rs.map V.ref).getD i .non = .ref r := by rw [List.getD_eq_getElem?_getD, List.getElem?_map, g1]; rfl
    rw [ex]
    refine ⟨_, hj _, ?_⟩
    refine rd_lstL (ys := ns.map V.int) (g3.ex e) fun l hl => ?_
    have lL : l ≠ L := fun z => by rw [z, h1] at hl; cases hl
    have e2 := ex_upd (o := .lst (ns.map V.int)) e hl
    have f2 : RowsF (upd Hc l (.lst (ns.map V.int))) rs2 (tab.take i) := f.but fun b o _ q => Evl.Ex.new hl b o q
    refine hN _ _ ((Evl.Ex.new hl) _ _ h1) ⟨Evl.Ex.mut e2 hL, rs2 ++ [l], by rw [List.map_append]; rfl, ?_, fun z => ?_, fun r hr => ?_⟩
    · rw [List.take_succ, g2]
      have f3 := f2.snoc (r := l) (ns := ns) upd_same fun z => by
        obtain ⟨ms, hm⟩ := f.stands z
        rw [hl] at hm
        cases hm
      exact f3.but fun b o hb q => by
        rw [upd_ne fun z => ?_]
        · exact q
        · subst z
          rcases List.mem_append.mp hb with y | y
          · exact nl y
          · exact lL (List.mem_singleton.mp y).symm
    · rcases List.mem_append.mp z with y | y
      · exact nl y
      · exact lL (List.mem_singleton.mp y).symm
    · rcases List.mem_append.mp hr with y | y
      · exact fr r y
      · rw [List.mem_singleton.mp y]
        exact Evl.fresh_back e hl
  · obtain ⟨e, rs2, rfl, f, nl, fr⟩ := p
    rw [xl, rl, List.take_length] at f
    exact h L rs2 Hc hL e h1 f nl fr
theorem ne_of_two {a b : Addr} {H : Hp} {x y : HO} (ha : H a = some x) (hb : H b = some y) (h : x ≠ y) : a ≠ b := fun z => by
  rw [z, hb] at ha
  exact h (Option.some.inj ha).symm
theorem Dr.sql {p a : Addr} {H H' : Hp} {xs : List V} (d : Dr p H H') (ne : a ≠ p) (h : H a = some (.lst xs)) : H' a = some (.lst xs) := d.old _ _ ne h
/-- a list that was not there may change -/
theorem Dr.put {p r : Addr} {H H' : Hp} {o : HO} (hS : StAt H p) (d : Dr p H H') (hr : H r = none) : Dr p H (upd H' r o) := by
  obtain ⟨l, ns, pl, h1, h2, _⟩ := hS
  have nS : ∀ b u, b ≠ r → H' b = some u → upd H' r o b = some u := fun b u hb z => by rw [upd_ne hb]; exact z
  have rp : p ≠ r := ne_of_none h1 hr
  obtain ⟨n1, e1⟩ := d.inn l _ h1
  refine ⟨?_, fun b u hb z => nS _ _ (ne_of_none z hr) (d.old b u hb z), fun l2 n2 e2 => ?_⟩
  · obtain ⟨l3, ns3, pl3, g1, g2, g3⟩ := d.st
    rw [e1] at g1
    have e4 := (List.cons.inj (HO.lst.inj (Option.some.inj g1))).1
    have e5 : l = l3 := by cases e4; rfl
    subst e5
    refine ⟨l, ns3, pl3, nS _ _ rp ?_, nS _ _ (ne_of_none h2 hr) g2, g3⟩
    rw [e1, g1]
  · obtain ⟨n3, e3⟩ := d.inn l2 n2 e2
    exact ⟨n3, nS _ _ rp e3⟩
theorem RowsA.snoc {H : Hp} {r : Addr} {ns : List Int} : ∀ {rs : List Addr} {tab : List (List Int)}, RowsA K H rs tab → SqA K H r (ns.map V.int) → RowsA K H (rs ++ [r]) (tab ++ [ns])
  | _, _, .nil, z => .cons z .nil
  | _, _, .cons h t, z => .cons h (t.snoc z)
def spFaulty : Sp := fun vs H Q _ => ∃ (pa pt p : Addr) (ls : Str) (acc : List Bool) (rs : List Addr) (tab : List (List Int)), vs = [.str ls, .ref pa, .ref pt, .ref p] ∧ 0 < ls.length ∧ ls.length ≤ 100 ∧ acc.length ≤ 1000 ∧ H pa = some (.lst (acc.map V.bl)) ∧ H pt = some (.lst (rs.map V.ref)) ∧ RowsF H rs tab ∧ goodM ls acc tab ∧ StAt H p ∧ pa ≠ p ∧ pt ≠ p ∧ p ∉ rs ∧
  ∀ H', Dr p H H' → Q (.bl true) H'
theorem made_no {H : Hp} {Q : VK} {E : XK} {ls : Str} {pa pt : Addr} {acc : List Bool} {rs : List Addr} {tab : List (List Int)} (l0 : 0 < ls.length) (l1 : ls.length ≤ 100) (hA : SqL K H pa (acc.map V.bl)) (hT : SqL K H pt (rs.map V.ref)) (hR : RowsA K H rs tab) (hn : tab.length < 100000) (ng : ¬ goodM ls acc tab) (q : ∀ H', Ex H H' → Q (.bl true) H') :
    spMade (K := K) [.str ls, .ref pa, .ref pt] H Q E := by
  refine ⟨pa, pt, ls, acc, rs, tab, rfl, l0, by omega, .inl hA, .inl hT, hR, hn, fun H' e => ?_⟩
  rw [decide_eq_false ng]
  exact q H' e
theorem bad_row {ls : Str} {acc : List Bool} {tab : List (List Int)} {i : Nat} {ns : List Int} (hi : i < tab.length) (h : ns.length ≠ ls.length ∨ ∃ x ∈ ns, x < 0 ∨ (acc.length : Int) ≤ x) : ¬ goodM ls acc (tab.set i ns) := fun g => by
  have hm : ns ∈ tab.set i ns := List.mem_of_getElem? (List.getElem?_set_self hi)
  obtain ⟨a, b⟩ := g.2.2 ns hm
  rcases h with h | ⟨x, hx, h⟩
  · exact h a
  · have := b x hx
    omega
theorem ok_faulty : FnOk P w K mg base CX0 8 T.a_faulty T.d_faulty ["letters", "accepting", "table", "state"] spFaulty := by
  refine T.f_faulty.ok sc_faulty (fun vs H Q E h => ?_) (fun cdv A outer s H vs Q E hr h => ?_)
  · obtain ⟨_, _, _, _, _, _, _, rfl, _⟩ := h; rfl
  · obtain ⟨pa, pt, p, ls, acc, rs, tab, rfl, l0, l1, l2, hA, hT, hR, g, hS, na, nt, nr, q⟩ := h
    have tl : tab.length = acc.length := g.2.1
    have t0 : 0 < tab.length := by have := g.1; omega
    refine ⟨_, (pss_cons (ps_set (i := 4) sc_faulty.nd rfl (by first | exact Or.inl rfl | exact Or.inr rfl) (pe_callE (ok_next T) (hr.mono (by decide)) T.o_next (pa_cons (pv 3) (pa_cons pe_int pa_nil))))
  (pss_cons (ps_setLc (i := 5) (own := [("row", 6)]) (g := gName 6) (tt := tYes) (by rfl) sc_faulty.nd rfl rfl (sw_true rfl rfl rfl (by decide +kernel)) (kAny K rfl (pv 2)) (blkOk_by (own := [("row", 6)]) (N := ["letters", "accepting", "table", "state", "kind", "rows", "row", "at", "place"]) (sc := defScope s_faulty) (by decide +kernel)) (fun _ _ _ _ _ => (pg_name (i := 6) sc_faulty.nd rfl (by first | exact Or.inl rfl | exact Or.inr rfl))) (fun _ _ _ _ _ => pts_nil) (fun _ _ _ _ _ => (pe_callTy (kLstOf K) (by rfl) T.nb_list (by decide +kernel) (pa_cons (pv 6) pa_nil))))
  (pss_cons (ps_set (i := 7) sc_faulty.nd rfl (by first | exact Or.inl rfl | exact Or.inr rfl) (pe_callE (ok_next T) (hr.mono (by decide)) T.o_next (pa_cons (pv 3) (pa_cons (pe_callB (kLen K) (by rfl) T.nb_len (by decide +kernel) (pa_cons (pv 5) pa_nil)) pa_nil))))
  (pss_cons (ps_set (i := 8) sc_faulty.nd rfl (by first | exact Or.inl rfl | exact Or.inr rfl) (pe_callE (ok_next T) (hr.mono (by decide)) T.o_next (pa_cons (pv 3) (pa_cons (pe_callB (kLen K) (by rfl) T.nb_len (by decide +kernel) (pa_cons (pv 0) pa_nil)) pa_nil))))
  (pss_cons (ps_if (pt_cmpR (kEq K rfl hr.units) (pv 4) pe_int (by first | rfl | exact nomark _))
    (pss_one (ps_ret (pe_callE (ok_made T) (hr.mono (by decide)) T.o_made (pa_cons (pv 0) (pa_cons (pe_lst pa_nil) (pa_cons (pe_lst pa_nil) pa_nil))))))
    pss_nil)
  (pss_cons (ps_if (pt_cmpR (kEq K rfl hr.units) (pv 4) pe_int (by first | rfl | exact nomark _))
    (pss_one (ps_ret (pe_callE (ok_made T) (hr.mono (by decide)) T.o_made (pa_cons (pv 0) (pa_cons (pv 1) (pa_cons (pe_op (kAdd K) (pv 5) (pe_lst (pa_cons (pe_ix (kIx K) (pv 5) pe_int (fun _ _ => rfl)) pa_nil))) pa_nil))))))
    pss_nil)
  (pss_cons (ps_if (pt_cmpR (kEq K rfl hr.units) (pv 4) pe_int (by first | rfl | exact nomark _))
    (pss_one (ps_ret (pe_callE (ok_made T) (hr.mono (by decide)) T.o_made (pa_cons (pv 0) (pa_cons (pe_op (kAdd K) (pv 1) (pe_lst (pa_cons pe_bl pa_nil))) (pa_cons (pv 5) pa_nil))))))
    pss_nil)
  (pss_cons (ps_if (pt_cmpR (kEq K rfl hr.units) (pv 4) pe_int (by first | rfl | exact nomark _))
    (pss_one (ps_expr (kBm K rfl (pe_bm PySem.F.plainAttrs_list PySem.F.slot_list_append PySem.F.type_list_append mt_append (pe_ix (kIx K) (pv 5) (pv 7) (fun _ _ => rfl)) (pa_cons pe_int pa_nil)))))
    (pss_one (ps_if (pt_cmpR (kEq K rfl hr.units) (pv 4) pe_int (by first | rfl | exact nomark _))
    (pss_one (ps_expr (kBm K rfl (pe_bm PySem.F.plainAttrs_list PySem.F.slot_list_pop PySem.F.type_list_pop mt_popAt (pe_ix (kIx K) (pv 5) (pv 7) (fun _ _ => rfl)) (pa_cons (pv 8) pa_nil)))))
    (pss_one (ps_if (pt_cmpR (kEq K rfl hr.units) (pv 4) pe_int (by first | rfl | exact nomark _))
    (pss_one (ps_asg (pe_op (kAdd K) (pe_callB (kLen K) (by rfl) T.nb_len (by decide +kernel) (pa_cons (pv 5) pa_nil)) (pe_callE (ok_next T) (hr.mono (by decide)) T.o_next (pa_cons (pv 3) (pa_cons pe_int pa_nil)))) (pg_sub (pe_ix (kIx K) (pv 5) (pv 7) (fun _ _ => rfl)) (pv 8) set_list)))
    (pss_one (ps_asg (pe_op op_subP (pe_un un_neg pe_int) (pe_callE (ok_next T) (hr.mono (by decide)) T.o_next (pa_cons (pv 3) (pa_cons pe_int pa_nil)))) (pg_sub (pe_ix (kIx K) (pv 5) (pv 7) (fun _ _ => rfl)) (pv 8) set_list))))))))
  (pss_one (ps_ret (pe_callE (ok_made T) (hr.mono (by decide)) T.o_made (pa_cons (pv 0) (pa_cons (pv 1) (pa_cons (pv 5) pa_nil)))))))))))))), ?_⟩
    walk_at "rc"
    refine ⟨p, 7, rfl, by decide, hS, fun kind H1 k0 k7 S1 o1 i1 => ?_⟩
    have d1 : Dr p H H1 := ⟨S1, o1, i1.2⟩
    have hA1 := d1.sql na hA
    have hT1 := d1.sql nt hT
    have hR1 : RowsF H1 rs tab := hR.but fun b o hb z => d1.old b o (fun y => nr (y ▸ hb)) z
    walk_at "rc"
    refine lc_copy (fun Q q => ⟨_, rfl, q⟩) (fun v => rfl) (by omega) (SqL.of hT1) hR1.a fun L rs2 H2 hL e2 hL2 hR2 nL fr => ?_
    obtain ⟨o1, ho1⟩ := S1.some
    have lp : L ≠ p := fun z => by rw [z, ho1] at hL; cases hL
    have pr2 : p ∉ rs2 := fun z => by have := fr p z; rw [ho1] at this; cases this
    have rl2 : rs2.length = tab.length := hR2.2.1
    walk_at "rc"
    refine rd_lenL (SqL.of hL2) ?_
    refine ⟨p, _, rfl, by rw [List.length_map]; omega, S1.ex e2, fun ai H3 a0 a1 S3 o3 i3 => ?_⟩
    rw [List.length_map] at a1
    obtain ⟨i, rfl⟩ := Int.eq_ofNat_of_zero_le a0
    have d3 : Dr p H1 H3 := ((Dr.refl S1).ex e2).trans ⟨S3, o3, i3.2⟩
    have hL3 := o3 _ _ lp hL2
    have hR3 : RowsF H3 rs2 tab := hR2.but fun b o hb z => o3 b o (fun y => pr2 (y ▸ hb)) z
    walk_at "rc"
    refine rd_lenS (by have : sizeLine ≥ 100 := by decide
                       omega) ?_
    refine ⟨p, _, rfl, by omega, S3, fun pi H4 p0 p1 S4 o4 i4 => ?_⟩
    obtain ⟨j, rfl⟩ := Int.eq_ofNat_of_zero_le p0
    have d4 : Dr p H1 H4 := d3.trans ⟨S4, o4, i4.2⟩
    have d4' := d1.trans d4
    have hL4 := o4 _ _ lp hL3
    have hR4 : RowsF H4 rs2 tab := hR3.but fun b o hb z => o4 b o (fun y => pr2 (y ▸ hb)) z
    have hA4 := d4'.sql na hA
    have hi : i < tab.length := by omega
    obtain ⟨r, ns, hr1, hr2, hr3⟩ := hR4.get hi
    have hns := g.2.2 ns (List.mem_of_getElem? hr2)
    have rm : r ∈ rs2 := List.mem_of_getElem? hr1
    have rL : r ≠ L := fun z => nL (z ▸ rm)
    have rp : r ≠ p := fun z => pr2 (z ▸ rm)
    have rA : r ≠ pa := fun z => by
      have a := fr r rm
      rw [z, d1.sql na hA] at a
      cases a
    walk_at "rc"
    walk_at "rs"
    walk_at "rc"
    refine rd_iteD (fun h0 => ?_) (fun h0 => ?_)
    · walk_at "rc"
      refine ⟨by decide, fun pa2 hpa2 => ?_⟩
      walk_at "rc"
      refine ⟨by decide, fun pt2 hpt2 => ?_⟩
      refine made_no (E := E0) (acc := []) (rs := []) (tab := []) l0 l1 (SqL.of (at_upd hpt2 upd_same)) (SqL.of upd_same) .nil (by decide) (fun g => g.1 rfl) fun H' e => ?_
      exact q H' (d4'.ex (((Evl.Ex.new hpa2).trans (Evl.Ex.new hpt2)).trans e))
    walk_at "rc"
    walk_at "rs"
    walk_at "rc"
    refine rd_iteD (fun h1 => ?_) (fun h1 => ?_)
    · walk_at "rc"
      obtain ⟨r0, n0, g1, g2, g3⟩ := hR4.get t0
      refine rd_ixL (v := .ref r0) (SqL.of hL4) (atI_nat (j := 0) (by rw [List.getElem?_map, g1]; rfl)) ?_
      walk_at "rc"
      refine ⟨by show 1 ≤ sizeLine; decide, fun q1 hq1 => ?_⟩
      have e1 : Ex H4 (upd H4 q1 (.lst [.ref r0])) := Evl.Ex.new hq1
      refine rd_cat (xs := rs2.map V.ref) (ys := [.ref r0]) (e1 _ _ hL4) upd_same (by
        rw [List.length_map]
        have : sizeLine ≥ 2000 := by decide
        show rs2.length + 1 ≤ sizeLine
        omega) fun q2 hq2 => ?_
      have e2 := ex_upd (o := .lst (rs2.map V.ref ++ [.ref r0])) e1 hq2
      walk_at "rc"
      have es : rs2.map V.ref ++ [V.ref r0] = (rs2 ++ [r0]).map V.ref := by rw [List.map_append]; rfl
      refine made_no (E := E0) (rs := rs2 ++ [r0]) (tab := tab ++ [n0]) l0 l1 (SqL.of (e2 _ _ hA4)) (SqL.of (by rw [upd_same, es])) (RowsA.snoc ((hR4.a (K := K)).ex e2) (.inl (SqL.of (e2 _ _ g3)))) (by rw [List.length_append]; show tab.length + 1 < 100000; omega) (fun g' => by
        have := g'.2.1
        rw [List.length_append] at this
        have e : tab.length + 1 = acc.length := this
        omega) fun H' e => q H' (d4'.ex (e2.trans e))
    walk_at "rc"
    walk_at "rs"
    walk_at "rc"
    refine rd_iteD (fun h2 => ?_) (fun h2 => ?_)
    · walk_at "rc"
      refine ⟨by decide, fun q1 hq1 => ?_⟩
      have e1 : Ex H4 (upd H4 q1 (.lst [.bl true])) := Evl.Ex.new hq1
      refine rd_cat (xs := acc.map V.bl) (ys := [.bl true]) (e1 _ _ hA4) upd_same (by
        rw [List.length_map]
        have : sizeLine ≥ 2000 := by decide
        show acc.length + 1 ≤ sizeLine
        omega) fun q2 hq2 => ?_
      have e2 := ex_upd (o := .lst (acc.map V.bl ++ [.bl true])) e1 hq2
      walk_at "rc"
      have es : acc.map V.bl ++ [V.bl true] = (acc ++ [true]).map V.bl := by rw [List.map_append]; rfl
      refine made_no (E := E0) (acc := acc ++ [true]) (rs := rs2) (tab := tab) l0 l1 (SqL.of (by rw [upd_same, es])) (SqL.of (e2 _ _ hL4)) ((hR4.a (K := K)).ex e2) (by omega) (fun g' => by
        have := g'.2.1
        rw [List.length_append] at this
        have e : tab.length = acc.length + 1 := this
        omega) fun H' e => q H' (d4'.ex (e2.trans e))
    walk_at "rc"

    refine rd_cut (fun σ H5 => σ = [some (.str ls), some (.ref pa), some (.ref pt), some (.ref p), some (.int kind), some (.ref L), none, some (.int (i : Nat)), some (.int (j : Nat))] ∧ ∃ ms, Dr p H H5 ∧ H5 pa = some (.lst (acc.map V.bl)) ∧ H5 L = some (.lst (rs2.map V.ref)) ∧ RowsF H5 rs2 (tab.set i ms) ∧ ¬ goodM ls acc (tab.set i ms)) (fun N hN => ?_) ?_
    · have ex : (rs2.map V.ref)[i]? = some (.ref r) := by rw [List.getElem?_map, hr1]; rfl
      have fin : ∀ (H5 : Hp) (ms : List Int), Dr p H1 H5 → H5 pa = some (.lst (acc.map V.bl)) → H5 L = some (.lst (rs2.map V.ref)) → RowsF H5 rs2 tab → (ms.length ≠ ls.length ∨ ∃ x ∈ ms, x < 0 ∨ (acc.length : Int) ≤ x) → N [some (.str ls), some (.ref pa), some (.ref pt), some (.ref p), some (.int kind), some (.ref L), none, some (.int (i : Nat)), some (.int (j : Nat))] (upd H5 r (.lst (ms.map V.int))) := by
        intro H5 ms d5 a5 l5 r5 bad
        have nS : ∀ b o, b ≠ r → H5 b = some o → upd H5 r (.lst (ms.map V.int)) b = some o := fun b o hb z => by rw [upd_ne hb]; exact z
        exact hN _ _ ⟨rfl, ms, d1.trans (d5.put S1 (fr r rm)), nS _ _ (Ne.symm rA) a5, nS _ _ (Ne.symm rL) l5, r5.set hr1, bad_row hi bad⟩
      have draw : ∀ (r0 : Int) (H5 : Hp), 0 ≤ r0 → StAt H5 p → (∀ b o, b ≠ p → H4 b = some o → H5 b = some o) → SameIn p H4 H5 → ∀ x : Int, (x < 0 ∨ (acc.length : Int) ≤ x) → rSetL (.ref r) (.int (j : Nat)) (.int x) H5 (N [some (.str ls), some (.ref pa), some (.ref pt), some (.ref p), some (.int kind), some (.ref L), none, some (.int (i : Nat)), some (.int (j : Nat))]) := by
        intro r0 H5 _ S5 o5 i5 x hx
        have hjn : j < ns.length := by rw [hns.1]; omega
        have es : (ns.map V.int).set j (.int x) = (ns.set j x).map V.int := by rw [List.map_set]
        refine ⟨r, ns.map V.int, j, j, rfl, rfl, o5 _ _ rp hr3, ?_, ?_⟩
        · exact ixN_nat (by rw [List.length_map]; exact hjn)
        · rw [es]
          exact fin H5 _ (d4.trans ⟨S5, o5, i5⟩) (o5 _ _ na hA4) (o5 _ _ lp hL4) (hR4.but fun b o hb z => o5 b o (fun y => pr2 (y ▸ hb)) z) (.inr ⟨x, List.mem_set hjn x, hx⟩)
      walk_at "rc"
      refine rd_iteD (fun h3 => ?_) (fun h3 => ?_)
      · walk_at "rc"
        refine rd_ixL (v := .ref r) (SqL.of hL4) (atI_nat ex) ?_
        refine ⟨.inl ⟨rfl, _, SqL.of hr3⟩, ?_⟩
        walk_at "rc"
        refine ⟨r, ns.map V.int, .int 0, rfl, rfl, hr3, ?_, ?_⟩
        · rw [List.length_map, hns.1]
          have : sizeLine ≥ 101 := by decide
          omega
        · have es : ns.map V.int ++ [V.int 0] = (ns ++ [0]).map V.int := by rw [List.map_append]; rfl
          rw [es]
          exact fin H4 _ d4 hA4 hL4 hR4 (.inl (by rw [List.length_append, hns.1]; exact Nat.succ_ne_self _))
      walk_at "rc"
      refine rd_iteD (fun h4 => ?_) (fun h4 => ?_)
      · walk_at "rc"
        refine rd_ixL (v := .ref r) (SqL.of hL4) (atI_nat ex) ?_
        refine ⟨.inl ⟨rfl, _, SqL.of hr3⟩, ?_⟩
        walk_at "rc"
        have hjn : j < ns.length := by rw [hns.1]; omega
        refine ⟨r, ns.map V.int, (j : Nat), j, .int (ns[j]), rfl, rfl, hr3, by omega, by omega, ?_, ?_, ?_⟩
        · exact seqIndex_nat (by rw [List.length_map]; exact hjn)
        · rw [List.getElem?_map, List.getElem?_eq_getElem hjn]; rfl
        · have es : (ns.map V.int).eraseIdx j = (ns.eraseIdx j).map V.int := erase_map _ _ _
          rw [es]
          exact fin H4 _ d4 hA4 hL4 hR4 (.inl (by rw [List.length_eraseIdx_of_lt hjn, hns.1]; omega))
      walk_at "rc"
      refine rd_iteD (fun h5 => ?_) (fun h5 => ?_)
      · walk_at "rc"
        refine rd_lenL (SqL.of hL4) ?_
        walk_at "rc"
        refine ⟨p, 3, rfl, by decide, S4, fun r0 H5 r00 r01 S5 o5 i5 => ?_⟩
        walk_at "rc"
        refine rd_ixL (v := .ref r) (SqL.of (o5 _ _ lp hL4)) (atI_nat ex) ?_
        walk_at "rc"
        exact draw r0 H5 r00 S5 o5 i5.2 _ (.inr (by rw [List.length_map]; omega))
      · walk_at "rc"
        refine ⟨1, rfl, ?_⟩
        walk_at "rc"
        refine ⟨p, 3, rfl, by decide, S4, fun r0 H5 r00 r01 S5 o5 i5 => ?_⟩
        walk_at "rc"
        refine rd_ixL (v := .ref r) (SqL.of (o5 _ _ lp hL4)) (atI_nat ex) ?_
        walk_at "rc"
        exact draw r0 H5 r00 S5 o5 i5.2 _ (.inl (by omega))
    · rintro σ H5 ⟨rfl, ms, d5, a5, l5, r5, ng⟩
      walk_at "rc"
      refine made_no (rs := rs2) l0 l1 (SqL.of a5) (SqL.of l5) r5.a (by rw [List.length_set]; omega) ng fun H' e => q H' (d5.ex e)
/-! ### machines in a ring -/
def rowR (m len k : Nat) : List Int := (List.range len).map fun j => (((k + 1 + j) % m : Nat) : Int)
def tabR (m len : Nat) : List (List Int) := (List.range m).map (rowR m len)
theorem goodR {ls : Str} {m : Nat} {acc : List Bool} (hm : 0 < m) (ha : acc.length = m) : goodM ls acc (tabR m ls.length) := by
  refine ⟨by omega, by simp [tabR, ha], fun row hr => ?_⟩
  obtain ⟨k, _, rfl⟩ := List.mem_map.mp hr
  refine ⟨by simp [rowR], fun x hx => ?_⟩
  obtain ⟨j, _, rfl⟩ := List.mem_map.mp hx
  have := Nat.mod_lt (k + 1 + j) hm
  omega
theorem stepR {ls : Str} {m c x : Nat} (hx : x < m) (hc : c ∈ ls.cps.toList) : stepM ls (tabR m ls.length) (x : Int) c = (((x + 1 + ls.cps.toList.idxOf c) % m : Nat) : Int) := by
  have hi : ls.cps.toList.idxOf c < ls.length := List.idxOf_lt_length_iff.mpr hc
  unfold stepM tabR
  have e0 : ((List.range m).map (rowR m ls.length)).getD x [] = rowR m ls.length x := by
    rw [List.getD_eq_getElem?_getD, List.getElem?_map, List.getElem?_range hx]
    rfl
  rw [Int.toNat_natCast, e0]
  show (rowR m ls.length x).getD _ 0 = _
  rw [rowR, List.getD_eq_getElem?_getD, List.getElem?_map, List.getElem?_range hi]
  rfl
theorem runR {ls : Str} {m c : Nat} (hm : 0 < m) (hc : c ∈ ls.cps.toList) : ∀ (n x : Nat), (List.replicate n c).foldl (stepM ls (tabR m ls.length)) ((x % m : Nat) : Int) = (((x + n * (1 + ls.cps.toList.idxOf c)) % m : Nat) : Int)
  | 0, x => by simp
  | n + 1, x => by
    rw [List.replicate_succ, List.foldl_cons, stepR (Nat.mod_lt x hm) hc]
    have e : (x % m + 1 + ls.cps.toList.idxOf c) % m = (x + 1 + ls.cps.toList.idxOf c) % m := by
      rw [Nat.add_assoc, Nat.add_assoc, Nat.mod_add_mod]
    rw [e, runR hm hc n]
    have e9 : x + 1 + ls.cps.toList.idxOf c + n * (1 + ls.cps.toList.idxOf c) = x + (n + 1) * (1 + ls.cps.toList.idxOf c) := by
      rw [Nat.succ_mul]
      omega
    rw [e9]
theorem RowsA.ofV {H : Hp} : ∀ {tab : List (List Int)} {vs : List V}, vs.length = tab.length → (∀ (i : Nat) v, vs[i]? = some v → ∃ (r : Addr) (ns : List Int), v = V.ref r ∧ tab[i]? = some ns ∧ SqA K H r (ns.map V.int)) → ∃ rs, vs = rs.map V.ref ∧ RowsA K H rs tab
  | [], [], _, _ => ⟨[], rfl, .nil⟩
  | [], _ :: _, h, _ => by cases h
  | _ :: _, [], h, _ => by cases h
  | ns :: tab, v :: vs, h, g => by
    obtain ⟨r, ms, e1, e2, e3⟩ := g 0 v rfl
    have e2' : ns = ms := Option.some.inj e2
    subst e2'
    subst e1
    obtain ⟨rs, e4, e5⟩ := RowsA.ofV (tab := tab) (vs := vs) (Nat.succ.inj h) fun i v hv => g (i + 1) v (by simpa using hv)
    exact ⟨r :: rs, by rw [e4]; rfl, .cons e3 e5⟩
theorem MachineAt.get {C : Addr} {H : Hp} {m : Addr} {ls : Str} {acc : List Bool} {tab : List (List Int)} (h : MachineAt K C H m ls acc tab) : ∃ (dx ta tt : Addr), H m = some (.ins C dx (mFields ls ta tt)) := by
  obtain ⟨dx, ta, tt, rs, h1, _⟩ := h
  exact ⟨dx, ta, tt, h1⟩
def spRing : Sp := fun vs H Q _ => ∃ (ls : Str) (m st most : Nat), vs = [.str ls, .int m, .int st] ∧ Alpha ls most ∧ most ≤ 100 ∧ 0 < m ∧ m ≤ 10000 ∧ st ≤ 100 ∧ ∀ H', Ex H H' → Q (.bl true) H'
theorem ok_ring : FnOk P w K mg base CX0 7 T.a_ring T.d_ring ["letters", "many", "step"] spRing := by
  refine T.f_ring.ok sc_ring (fun vs H Q E h => ?_) (fun cdv A outer s H vs Q E hr h => ?_)
  · obtain ⟨_, _, _, _, rfl, _⟩ := h; rfl
  · obtain ⟨ls, m, st, most, rfl, al, hmo, m0, m1, hst, q⟩ := h
    have l0 := al.l0
    have l1 := al.l1
    have lz : ls.length ≤ sizeLine := by
      have : sizeLine ≥ 1000 := by decide
      omega
    refine ⟨_, (pss_cons (ps_setLc (i := 3) (own := [("k", 4)]) (g := gName 4) (tt := tYes) (by rfl) sc_ring.nd rfl rfl (sw_true rfl rfl rfl (by decide +kernel)) (pi_range1 (by rfl) T.nb_range (pa_cons (pv 1) pa_nil)) (blkOk_by (own := [("k", 4)]) (N := ["letters", "many", "step", "accepting", "k", "machine", "j", "text", "due"]) (sc := defScope s_ring) (by decide +kernel)) (fun _ _ _ _ _ => (pg_name (i := 4) sc_ring.nd rfl (by first | exact Or.inl rfl | exact Or.inr rfl))) (fun _ _ _ _ _ => pts_nil) (fun _ _ _ _ _ => (pe_cmpR (kEq K rfl hr.units) (pe_op op_modP (pe_callTy call_intP (by rfl) T.nb_int (by decide +kernel) (pa_cons (pe_op op_mulPP (pv 4) (pv 2)) pa_nil)) pe_int) pe_int (by first | rfl | exact nomark _))))
  (pss_cons (ps_set (i := 5) sc_ring.nd rfl (by first | exact Or.inl rfl | exact Or.inr rfl) (pe_makeR T.mk_Machine (ok_Machine_init T) (hr.mono (by decide)) T.g_Machine T.b_Machine_init takes0 (pa_cons (pv 0) (pa_cons (pv 3) (pa_cons (pe_lc (own := [("k", 4)]) (g := gName 4) (tt := tYes) (by rfl) sc_ring.nd (pi_range1 (by rfl) T.nb_range (pa_cons (pv 1) pa_nil)) (blkOk_by (own := [("k", 4)]) (N := ["letters", "many", "step", "accepting", "k", "machine", "j", "text", "due"]) (sc := defScope s_ring) (by decide +kernel)) (fun _ _ _ _ _ => (pg_name (i := 4) sc_ring.nd rfl (by first | exact Or.inl rfl | exact Or.inr rfl))) (fun _ _ _ _ _ => pts_nil) (fun _ _ _ _ _ => (pe_lc (own := [("j", 6)]) (g := gName 6) (tt := tYes) (by rfl) sc_ring.nd (pi_range1 (by rfl) T.nb_range (pa_cons (pe_callB (kLen K) (by rfl) T.nb_len (by decide +kernel) (pa_cons (pv 0) pa_nil)) pa_nil)) (by exact blkOk_in (N := ["letters", "many", "step", "accepting", "k", "machine", "j", "text", "due"]) rfl (by decide +kernel)) (fun _ _ _ _ _ => (pg_name (i := 6) sc_ring.nd rfl (by first | exact Or.inl rfl | exact Or.inr rfl))) (fun _ _ _ _ _ => pts_nil) (fun _ _ _ _ _ => (pe_op op_modP (pe_callTy call_intP (by rfl) T.nb_int (by decide +kernel) (pa_cons (pe_op (kAdd K) (pe_op (kAdd K) (pv 4) pe_int) (pv 6)) pa_nil)) (pv 1)))))) pa_nil)))))
  (pss_cons (ps_set (i := 7) sc_ring.nd rfl (by first | exact Or.inl rfl | exact Or.inr rfl) (pe_op (kAdd K) (pe_op op_mulPP (pe_ix (kIx K) (pv 0) pe_int (fun _ _ => rfl)) pe_int) (pe_op op_mulPP (pe_ix (kIx K) (pv 0) (pe_un un_neg pe_int) (fun _ _ => rfl)) pe_int)))
  (pss_cons (ps_set (i := 8) sc_ring.nd rfl (by first | exact Or.inl rfl | exact Or.inr rfl) (pe_op op_modP (pe_callTy call_intP (by rfl) T.nb_int (by decide +kernel) (pa_cons (pe_op (kAdd K) pe_int (pe_op op_mulPP pe_int (pe_callB (kLen K) (by rfl) T.nb_len (by decide +kernel) (pa_cons (pv 0) pa_nil)))) pa_nil)) (pv 1)))
  (pss_one (ps_ret (pe_and (pe_cmpR (kEq K rfl hr.units) (pe_meth (pv 5) T.cl_Machine T.m_Machine_run (ok_Machine_run T) (hr.mono (by decide)) T.b_Machine_run .nil pass0 (pa_cons (pv 7) pa_nil)) (pv 8) (by first | rfl | exact nomark _)) (pe_one (pe_cmpR (kEq K rfl hr.units) (pe_callB call_reprP (by rfl) T.nb_repr (by decide +kernel) (pa_cons (pe_meth (pv 5) T.cl_Machine T.m_Machine_accepts (ok_Machine_accepts T) (hr.mono (by decide)) T.b_Machine_accepts .nil pass0 (pa_cons (pv 7) pa_nil)) pa_nil)) (pe_callB call_reprP (by rfl) T.nb_repr (by decide +kernel) (pa_cons (pe_ix (kIx K) (pv 3) (pv 8) (fun _ _ => rfl)) pa_nil)) (by first | rfl | exact nomark _)))))))))), ?_⟩
    walk_at "rs"
    walk_at "rc"
    refine ⟨(m : Int), rfl, by omega, by omega, ?_⟩
    rw [Int.toNat_natCast]
    refine lc_map (n := m) (xs := fun i => .int (i : Nat)) (v := fun i => .bl (decide (i * st % 3 = 0))) walk_range0 (fun i H x H' hi y => y) (fun _ _ => True.intro) (by omega) (fun i Hc hi e Q q => ?_) fun L hL => ?_
    · walk_at "rc"
      refine rd_mulN (.inl ⟨by omega, by omega⟩) ?_
      walk_at "rc"
      refine rd_modI (by decide) ?_
      walk_at "rc"
      have e3 : ((i : Int) * (st : Int)).fmod 3 = ((i * st % 3 : Nat) : Int) := by
        rw [← Int.natCast_mul]
        exact fmod_nat (i * st) 3
      rw [e3]
      have e4 : decide (((i * st % 3 : Nat) : Int) = 0) = decide (i * st % 3 = 0) := decide_eq_decide.mpr Int.natCast_eq_zero
      rw [e4]
      exact q
    have ea : (List.range m).map (fun i => V.bl (decide (i * st % 3 = 0))) = ((List.range m).map fun i => decide (i * st % 3 = 0)).map V.bl := by rw [List.map_map]; rfl
    rw [ea]
    generalize hacc : (List.range m).map (fun i => decide (i * st % 3 = 0)) = acc
    have hal : acc.length = m := by rw [← hacc]; simp
    have e1 : Ex H (upd H L (.lst (acc.map V.bl))) := Evl.Ex.new hL
    generalize hH1 : upd H L (.lst (acc.map V.bl)) = H1 at e1
    have hL1 : H1 L = some (.lst (acc.map V.bl)) := by rw [← hH1]; exact upd_same
    walk_at "rc"
    refine ⟨(m : Int), rfl, by omega, by omega, ?_⟩
    rw [Int.toNat_natCast]
    refine lc_new (n := m) (xs := fun i => .int (i : Nat)) (fun i v H => ∃ (r : Addr) (ns : List Int), v = V.ref r ∧ (tabR m ls.length)[i]? = some ns ∧ SqA K H r (ns.map V.int)) walk_range0 (fun i H x H' hi y => y) (by omega) (fun _ _ => True.intro) (fun i v H1 H2 e ⟨r, ns, a, b, c⟩ => ⟨r, ns, a, b, c.ex e⟩) (fun L2 i Hc hi hL2 hv e N hN => ?_) fun L2 vs Hc hL2 e hv hl g => ?_
    · obtain ⟨vs0, hv⟩ := hv
      walk_at "rc"
      refine rd_lenS lz ?_
      refine ⟨(ls.length : Nat), rfl, by omega, by omega, ?_⟩
      rw [Int.toNat_natCast]
      refine lc_map (n := ls.length) (xs := fun j => .int (j : Nat)) (v := fun j => .int (((i + 1 + j) % m : Nat) : Int)) walk_range0 (fun i H x H' hi y => y) (fun _ _ => True.intro) (by omega) (fun j Hc2 hj e2 Q q => ?_) fun L3 hL3 => ?_
      · walk_at "rc"
        refine rd_modI (by omega) ?_
        have e3 : ((i : Int) + 1 + (j : Int)).fmod (m : Int) = (((i + 1 + j) % m : Nat) : Int) := by
          have ec : (i : Int) + 1 + (j : Int) = ((i + 1 + j : Nat) : Int) := by omega
          rw [ec]
          exact fmod_nat _ _
        rw [e3]
        exact q
      · have n3 : L3 ≠ L2 := fun z => by rw [z, hv] at hL3; cases hL3
        refine hN _ _ (Evl.Ex.new hL3) ⟨L3, rowR m ls.length i, rfl, ?_, .inl (SqL.of ?_)⟩
        · rw [tabR, List.getElem?_map, List.getElem?_range hi]
          rfl
        · rw [hide_ne n3, upd_same, rowR, List.map_map]
          rfl
    obtain ⟨rs, rfl, hR⟩ := RowsA.ofV (tab := tabR m ls.length) (by rw [hl]; simp [tabR]) g
    have hR2 := hR.ex hide_ex
    walk_at "rc"
    intro x dx hx hdx ne
    have gd := goodR (ls := ls) m0 hal
    refine ⟨x, dx, L, L2, ls, acc, rs, tabR m ls.length, rfl, l0, by omega, upd_same, SqA.made hx hdx (.inl (SqL.of (e _ _ hL1))), SqA.made hx hdx (.inl (SqL.of hv)), hR2.made hx hdx, by simp [tabR]; omega, fun _ H' k hm => ⟨rfl, ?_⟩, fun z => absurd gd z⟩
    have eH := made_ex hx hdx ne k
    obtain ⟨dx2, ta, tt, hx2⟩ := hm.get
    have ll : ls.cps.toList.length = ls.length := rfl
    have h0l : 0 < ls.cps.toList.length := l0
    have hzl : ls.cps.toList.length - 1 < ls.cps.toList.length := by omega
    generalize hc0 : ls.cps.toList[0] = c0
    generalize hcz : ls.cps.toList[ls.cps.toList.length - 1] = cz
    have m0c : c0 ∈ ls.cps.toList := hc0 ▸ List.getElem_mem h0l
    have mzc : cz ∈ ls.cps.toList := hcz ▸ List.getElem_mem hzl
    have i0 : ls.cps.toList.idxOf c0 = 0 := hc0 ▸ al.nd.idxOf_getElem 0 h0l
    have iz : ls.cps.toList.idxOf cz = ls.length - 1 := hcz ▸ al.nd.idxOf_getElem _ hzl
    walk_at "rc"
    refine rd_ixS lz (atI_nat (j := 0) (by rw [List.getElem?_eq_getElem h0l, hc0])) ?_
    walk_at "rc"
    refine rd_mulT (mulOk_sign c0 (by decide) (by decide)) ?_
    walk_at "rc"
    refine ⟨1, rfl, ?_⟩
    refine rd_ixS (c := cz) lz (by
      have := atI_last h0l
      rw [hcz] at this
      exact this) ?_
    walk_at "rc"
    refine rd_mulT (mulOk_sign cz (by decide) (by decide)) ?_
    have eA := mul_sign c0 700 (by decide)
    have eB := mul_sign cz 300 (by decide)
    have lA : (Txt.mul ⟨#[c0]⟩ 700).length = 700 := by
      rw [TL.len_tl]
      show (Txt.mul ⟨#[c0]⟩ 700).cps.toList.length = 700
      rw [eA, List.length_replicate]
      decide
    have lB : (Txt.mul ⟨#[cz]⟩ 300).length = 300 := by
      rw [TL.len_tl]
      show (Txt.mul ⟨#[cz]⟩ 300).cps.toList.length = 300
      rw [eB, List.length_replicate]
      decide
    refine rd_addS (by rw [lA, lB]; decide) ?_
    have eT : (Txt.mul ⟨#[c0]⟩ 700 ++ Txt.mul ⟨#[cz]⟩ 300).cps.toList = List.replicate 700 c0 ++ List.replicate 300 cz := by
      have h1 : (Txt.mul ⟨#[c0]⟩ 700 ++ Txt.mul ⟨#[cz]⟩ 300).cps.toList = (Txt.mul ⟨#[c0]⟩ 700).cps.toList ++ (Txt.mul ⟨#[cz]⟩ 300).cps.toList := TL.tl_append _ _
      rw [h1, eA, eB]
      have e7 : (700 : Int).toNat = 700 := by decide
      have e3 : (300 : Int).toNat = 300 := by decide
      rw [e7, e3]
    generalize Txt.mul ⟨#[c0]⟩ 700 ++ Txt.mul ⟨#[cz]⟩ 300 = t at eT
    have hct : ∀ c ∈ t.cps.toList, c ∈ ls.cps.toList := fun c hc => by
      rw [eT] at hc
      rcases List.mem_append.mp hc with y | y
      · rw [(List.mem_replicate.mp y).2]; exact m0c
      · rw [(List.mem_replicate.mp y).2]; exact mzc
    have er : runM ls (tabR m ls.length) t.cps.toList = (((700 + 300 * ls.length) % m : Nat) : Int) := by
      unfold runM
      rw [eT, List.foldl_append]
      have a := runR (ls := ls) m0 m0c 700 0
      rw [Nat.zero_mod] at a
      have a' : (List.replicate 700 c0).foldl (stepM ls (tabR m ls.length)) 0 = _ := a
      have e9 : 0 + 700 * (1 + 0) + 300 * (1 + (ls.length - 1)) = 700 + 300 * ls.length := by omega
      rw [a', runR m0 mzc, i0, iz, e9]
    walk_at "rc"
    refine rd_lenS lz ?_
    refine rd_mulN (x := 300) (.inl ⟨by decide, by decide⟩) ?_
    walk_at "rc"
    refine rd_modI (by omega) ?_
    have ed : ((700 : Int) + 300 * (ls.length : Nat)).fmod (m : Int) = (((700 + 300 * ls.length) % m : Nat) : Int) := by
      have ec : (700 : Int) + 300 * ((ls.length : Nat) : Int) = ((700 + 300 * ls.length : Nat) : Int) := by omega
      rw [ec]
      exact fmod_nat _ _
    rw [ed]
    have hd := Nat.mod_lt (700 + 300 * ls.length) m0
    generalize hdue : (700 + 300 * ls.length) % m = due at er ed hd
    walk_at "rc"
    refine rd_andV ?_
    walk_at "rc"
    refine ⟨x, dx2, _, rfl, hx2, rfl, ?_⟩
    walk_at "rc"
    refine ⟨x, ls, t, acc, tabR m ls.length, rfl, hm, gd, hct, ?_⟩
    rw [er]
    walk_at "rc"
    refine rd_iteD (fun _ => ?_) (fun h => absurd rfl h)
    walk_at "rc"
    refine ⟨x, dx2, _, rfl, hx2, rfl, ?_⟩
    walk_at "rc"
    refine ⟨x, ls, t, acc, tabR m ls.length, rfl, hm, gd, hct, ?_⟩
    rw [er, Int.toNat_natCast]
    walk_at "rc"
    refine rd_reprB ?_
    walk_at "rc"
    have hdl : due < acc.length := by omega
    refine rd_ixL (v := .bl (acc.getD due false)) (SqL.of (eH _ _ (e _ _ hL1))) (atI_nat (by rw [List.getElem?_map, List.getD_eq_getElem?_getD, List.getElem?_eq_getElem hdl]; rfl)) ?_
    walk_at "rc"
    refine rd_reprB ?_
    walk_at "rc"
    rw [decide_eq_true rfl]
    exact q H' (e1.trans (e.trans eH))
/-! ### machines where lists change -/
theorem MachineAt.but {C : Addr} {H H' : Hp} {m a : Addr} {xs : List V} {ls : Str} {acc : List Bool} {tab : List (List Int)} (h : MachineAt K C H m ls acc tab) (ha : H a = some (.lst xs)) (k : But a H H') : MachineAt K C H' m ls acc tab := by
  obtain ⟨dx, ta, tt, rs, h1, h2, h3, h4⟩ := h
  refine ⟨dx, ta, tt, rs, k _ _ (fun z => by rw [z, ha] at h1; cases h1) h1, k.sqt ha (fun _ z => by cases z) (fun _ _ z => by cases z) h2, k.sqt ha (fun _ z => by cases z) (fun _ _ z => by cases z) h3, ?_⟩
  clear h1 h2 h3
  induction h4 with
  | nil => exact .nil
  | cons q _ ih => exact .cons (k.sqt ha (fun _ z => by cases z) (fun _ _ z => by cases z) q) ih
/-- a tuple of letters, a tuple of bools, a tuple of rows -/
def PicAt (K : PySem.W.Frag) (H : Hp) (a : Addr) (ls : Str) (acc : List Bool) (tab : List (List Int)) : Prop := ∃ (ta tt : Addr) (rs : List Addr), SqT K H a [.str ls, .ref ta, .ref tt] ∧ SqT K H ta (acc.map V.bl) ∧ SqT K H tt (rs.map V.ref) ∧ RowsT K H rs tab
theorem PicAt.ex {H H' : Hp} {a : Addr} {ls : Str} {acc : List Bool} {tab : List (List Int)} (h : PicAt K H a ls acc tab) (e : Ex H H') : PicAt K H' a ls acc tab := by
  obtain ⟨ta, tt, rs, h0, h2, h3, h4⟩ := h
  exact ⟨ta, tt, rs, Evl.ex_t e h0, Evl.ex_t e h2, Evl.ex_t e h3, h4.ex e⟩
theorem PicAt.dp {H : Hp} {a : Addr} {ls : Str} {acc : List Bool} {tab : List (List Int)} (h : PicAt K H a ls acc tab) : Dp K H (.ref a) (picD ls acc tab) := by
  obtain ⟨ta, tt, rs, h0, h2, h3, h4⟩ := h
  exact .tup h0 (.cons (.str _) (.cons (.tup h2 dp_bools) (.cons (.tup h3 (dp_rows h4)) .nil)))
theorem PicAt.but {H H' : Hp} {m a : Addr} {xs : List V} {ls : Str} {acc : List Bool} {tab : List (List Int)} (h : PicAt K H m ls acc tab) (ha : H a = some (.lst xs)) (k : But a H H') : PicAt K H' m ls acc tab := by
  obtain ⟨ta, tt, rs, h0, h2, h3, h4⟩ := h
  refine ⟨ta, tt, rs, k.sqt ha (fun _ z => by cases z) (fun _ _ z => by cases z) h0, k.sqt ha (fun _ z => by cases z) (fun _ _ z => by cases z) h2, k.sqt ha (fun _ z => by cases z) (fun _ _ z => by cases z) h3, ?_⟩
  clear h0 h2 h3
  induction h4 with
  | nil => exact .nil
  | cons q _ ih => exact .cons (k.sqt ha (fun _ z => by cases z) (fun _ _ z => by cases z) q) ih
theorem Dr.but {p : Addr} {H H' : Hp} (d : Dr p H H') : But p H H' := fun b o hb q => d.old b o hb q
/-- what is shown of a machine -/
theorem pic_okd {ls : Str} {acc : List Bool} {tab : List (List Int)} (al : Alpha ls 8) (ha : acc.length ≤ 12) (g : goodM ls acc tab) : Okd (picD ls acc tab) 10000 10 := by
  have l1 := al.l1
  have a1 : Okd (.str ls) 3000 5 := (Okd.str al.pl).mono (by omega) (by omega)
  have a2 : Okd (.tuple (acc.map .bool)) 3000 5 := (Okd.tuple (L := 5) (D := 0) fun x hx => by
    obtain ⟨b, _, rfl⟩ := List.mem_map.mp hx
    exact .bool b).mono (by rw [List.length_map]; omega) (by omega)
  have a3 : Okd (.tuple (tab.map fun r => .tuple (r.map .int))) 3000 5 := (Okd.tuple (L := 60) (D := 1) fun x hx => by
    obtain ⟨r, hr, rfl⟩ := List.mem_map.mp hx
    obtain ⟨rl, rr⟩ := g.2.2 r hr
    refine (Okd.tuple (L := 4) (D := 0) fun y hy => ?_).mono (by rw [List.length_map]; omega) (Nat.le_refl 1)
    obtain ⟨i, hi, rfl⟩ := List.mem_map.mp hy
    have := rr i hi
    obtain ⟨n, rfl⟩ := Int.eq_ofNat_of_zero_le this.1
    exact .int (by omega)).mono (by rw [List.length_map]; have := g.2.1; omega) (by omega)
  refine (Okd.tuple (L := 3000) (D := 5) fun x hx => ?_).mono (by show 3 * (3000 + 2) + 3 ≤ 10000; decide) (by omega)
  rcases List.mem_cons.mp hx with z | hx
  · rw [z]; exact a1
  rcases List.mem_cons.mp hx with z | hx
  · rw [z]; exact a2
  rw [List.mem_singleton.mp hx]
  exact a3
/-! ### comprehensions that draw -/
/-- [.. a draw .. for .. in ..]: values of their own -/
theorem lc_draw {p : Addr} {J : It} {n j : Nat} {G : Hp → Prop} {Y : Nat → Hp → V → Hp → Prop} {xs : Nat → V} {σ : L2.St} {H : Hp} {Q : VK} {te : TE} (R : Nat → V → Prop) (w : Walk J n G Y) (hY : ∀ i H x H', i < n → Y i H x H' → H' = H ∧ x = xs i) (hn : n < 100000) (hS : StAt H p)
    (hG : ∀ Hc, Dr p H Hc → G Hc)
    (he : ∀ i Hc, i < n → Dr p H Hc → ∀ N : VK, (∀ v H2, Dr p Hc H2 → R i v → N v H2) → te ((wipe σ [j]).set j (some (xs i))) Hc N)
    (h : ∀ L vs Hc, H L = none → Dr p H Hc → Hc L = some (.lst vs) → vs.length = n → (∀ i v, vs[i]? = some v → R i v) → Q (.ref L) Hc) : lcB (gName j) tYes te [j] σ Q J H := by
  have np : ∀ L, H L = none → p ≠ L := fun L hL z => by
    obtain ⟨o, ho⟩ := hS.some
    rw [z, hL] at ho
    cases ho
  refine lc_gen (fun L i vs Hc => Dr p H Hc ∧ ∀ i v, vs[i]? = some v → R i v) w hY hn (fun L hL => ⟨(Dr.refl hS).put hS hL, fun i v z => by cases z⟩) (fun L i vs Hc _ q => hG Hc q.1) (fun L i vs Hc hi hL h1 h2 q N hN => ?_) fun L vs Hc hL h1 h2 q => h L vs Hc hL q.1 h1 h2 q.2
  refine he i Hc hi q.1 N fun v H2 d2 r => hN v H2 (d2.old _ _ (Ne.symm (np L hL)) h1) ⟨(q.1.trans d2).put hS hL, fun i' v' hv => ?_⟩
  by_cases hlt : i' < vs.length
  · rw [List.getElem?_append_left hlt] at hv
    exact q.2 i' v' hv
  · rw [List.getElem?_append_right (by omega)] at hv
    have e0 : i' - vs.length = 0 := by
      rcases Nat.eq_zero_or_pos (i' - vs.length) with z | z
      · exact z
      · rw [List.getElem?_eq_none (by simp; omega)] at hv
        cases hv
    rw [e0] at hv
    obtain rfl : v = v' := Option.some.inj hv
    have e3 : i' = i := by omega
    rw [e3]
    exact r
/-- all are such values -/
theorem map_of {α : Type} {f : α → V} {S : α → Prop} : ∀ (vs : List V), (∀ (i : Nat) v, vs[i]? = some v → ∃ a, v = f a ∧ S a) → ∃ as : List α, vs = as.map f ∧ ∀ a ∈ as, S a
  | [], _ => ⟨[], rfl, fun a h => by cases h⟩
  | v :: vs, h => by
    obtain ⟨a, e, s⟩ := h 0 v rfl
    obtain ⟨as, e2, s2⟩ := map_of vs fun i v hv => h (i + 1) v (by simpa using hv)
    exact ⟨a :: as, by rw [e, e2]; rfl, fun b hb => by
      rcases List.mem_cons.mp hb with z | z
      · rw [z]; exact s
      · exact s2 b z⟩
/-- what was not there before was not there at first -/
theorem Dr.back {p r : Addr} {H H' : Hp} (hS : StAt H p) (d : Dr p H H') (h : H' r = none) : H r = none := by
  cases q : H r with
  | none => rfl
  | some o =>
    by_cases e : r = p
    · obtain ⟨o', ho⟩ := d.st.some
      rw [e, ho] at h
      cases h
    · rw [d.old r o e q] at h
      cases h
/-- [[a draw for ..] for ..] -/
theorem lc_table {p : Addr} {J : It} {n j : Nat} {G : Hp → Prop} {Y : Nat → Hp → V → Hp → Prop} {xs : Nat → V} {σ : L2.St} {H : Hp} {Q : VK} {te : TE} (S : List Int → Prop) (w : Walk J n G Y) (hY : ∀ i H x H', i < n → Y i H x H' → H' = H ∧ x = xs i) (hn : n < 100000) (hS : StAt H p)
    (hG : ∀ Hc, Dr p H Hc → G Hc)
    (he : ∀ i Hc, i < n → Dr p H Hc → ∀ N : VK, (∀ r row H2, Hc r = none → Dr p Hc H2 → H2 r = some (.lst (row.map V.int)) → S row → N (.ref r) H2) → te ((wipe σ [j]).set j (some (xs i))) Hc N)
    (h : ∀ L rs tab Hc, H L = none → Dr p H Hc → Hc L = some (.lst (rs.map V.ref)) → RowsF Hc rs tab → tab.length = n → (∀ row ∈ tab, S row) → L ∉ rs → (∀ r ∈ rs, H r = none) → Q (.ref L) Hc) : lcB (gName j) tYes te [j] σ Q J H := by
  have np : ∀ L, H L = none → L ≠ p := fun L hL z => by
    obtain ⟨o, ho⟩ := hS.some
    rw [← z, hL] at ho
    cases ho
  refine lc_gen (fun L i vs Hc => Dr p H Hc ∧ ∃ rs tab, vs = rs.map V.ref ∧ RowsF Hc rs tab ∧ tab.length = i ∧ (∀ row ∈ tab, S row) ∧ L ∉ rs ∧ ∀ r ∈ rs, H r = none) w hY hn (fun L hL => ⟨(Dr.refl hS).put hS hL, [], [], rfl, ⟨List.nodup_nil, rfl, fun i r ns h1 _ => by cases h1⟩, rfl, (fun r hr => by cases hr), List.not_mem_nil, fun r hr => by cases hr⟩) (fun L i vs Hc _ q => hG Hc q.1) (fun L i vs Hc hi hL h1 h2 q N hN => ?_) fun L vs Hc hL h1 h2 q => ?_
  · obtain ⟨d, rs, tab, rfl, f, tl, sr, nL, fr⟩ := q
    refine he i Hc hi d N fun r row H2 hr d2 hr2 s => hN _ H2 (d2.old _ _ (np L hL) h1) ⟨(d.trans d2).put hS hL, rs ++ [r], tab ++ [row], by rw [List.map_append]; rfl, ?_, by rw [List.length_append, tl]; rfl, fun b hb => ?_, fun z => ?_, fun b hb => ?_⟩
    · have f2 : RowsF H2 rs tab := f.but fun b o hb q => d2.old b o (np b (fr b hb)) q
      have f3 := f2.snoc hr2 fun z => by
        obtain ⟨ms, hm⟩ := f.stands z
        rw [hr] at hm
        cases hm
      have rL : r ≠ L := fun z => by rw [z, h1] at hr; cases hr
      exact f3.but fun b o hb q => by
        rw [upd_ne fun z => ?_]
        · exact q
        · subst z
          rcases List.mem_append.mp hb with y | y
          · exact nL y
          · exact rL (List.mem_singleton.mp y).symm
    · rcases List.mem_append.mp hb with y | y
      · exact sr b y
      · rw [List.mem_singleton.mp y]; exact s
    · rcases List.mem_append.mp z with y | y
      · exact nL y
      · rw [← List.mem_singleton.mp y, h1] at hr
        cases hr
    · rcases List.mem_append.mp hb with y | y
      · exact fr b y
      · rw [List.mem_singleton.mp y]; exact d.back hS hr
  · obtain ⟨d, rs, tab, rfl, f, tl, sr, nL, fr⟩ := q
    exact h L rs tab Hc hL d h1 f tl sr nL fr
theorem RowsT.a {H : Hp} : ∀ {rs : List Addr} {tab : List (List Int)}, RowsT K H rs tab → RowsA K H rs tab
  | _, _, .nil => .nil
  | _, _, .cons h t => .cons (.inr h) t.a
/-- what the law holds on to -/
structure LW (K : PySem.W.Frag) (C : Addr) (p aa at' x y d0 : Addr) (ls : Str) (acc : List Bool) (rs : List Addr) (tab : List (List Int)) (H : Hp) : Prop where
  st : StAt H p
  a : H aa = some (.lst (acc.map V.bl))
  t : H at' = some (.lst (rs.map V.ref))
  r : RowsF H rs tab
  m1 : MachineAt K C H x ls acc tab
  m2 : MachineAt K C H y ls acc tab
  du : PicAt K H d0 ls acc tab
theorem LW.dr {C p aa at' x y d0 : Addr} {ls : Str} {acc : List Bool} {rs : List Addr} {tab : List (List Int)} {H H' : Hp} (w : LW K C p aa at' x y d0 ls acc rs tab H) (na : aa ≠ p) (nt : at' ≠ p) (nr : p ∉ rs) (d : Dr p H H') : LW K C p aa at' x y d0 ls acc rs tab H' := by
  obtain ⟨l, ns, pl, hp, _⟩ := id w.st
  exact ⟨d.st, d.old _ _ na w.a, d.old _ _ nt w.t, w.r.but fun b o hb z => d.old _ _ (fun y => nr (y ▸ hb)) z, w.m1.but hp d.but, w.m2.but hp d.but, w.du.but hp d.but⟩
theorem LW.ex {C p aa at' x y d0 : Addr} {ls : Str} {acc : List Bool} {rs : List Addr} {tab : List (List Int)} {H H' : Hp} (w : LW K C p aa at' x y d0 ls acc rs tab H) (e : Ex H H') : LW K C p aa at' x y d0 ls acc rs tab H' :=
  ⟨w.st.ex e, e _ _ w.a, e _ _ w.t, w.r.but fun b o _ z => e _ _ z, w.m1.ex e, w.m2.ex e, w.du.ex e⟩
theorem ne_of_none' {a b : Addr} {H : Hp} {o : HO} (ha : H a = none) (hb : H b = some o) : a ≠ b := fun z => by rw [z, hb] at ha; cases ha

def spLaw (K : PySem.W.Frag) : Sp := fun vs H Q _ => ∃ (a : Addr) (ns : List Int), vs = [.ref a] ∧ SqL K H a (ns.map V.int) ∧ ns.length ≤ 63 ∧ ∀ H', Q (.bl true) H'
abbrev lvLaw : Nat := 10
theorem ok_law : FnG P w K mg base CX0 lvLaw T.a_law T.d_law ["script"] (spLaw K) := by
  refine T.f_law.okG sc_law (fun vs H Q E h => ?_) (fun cdv A outer s H vs Q E hg hr h => ?_)
  · obtain ⟨_, _, rfl, _⟩ := h; rfl
  · obtain ⟨a, ns, rfl, hS, hlen, q⟩ := h
    refine ⟨_, (pss_cons (ps_set (i := 1) sc_law.nd rfl (by first | exact Or.inl rfl | exact Or.inr rfl) (pe_callE (ok_state T) (hr.mono (by decide)) T.o_state (pa_cons (pv 0) (pa_cons pe_int (pa_cons pe_int pa_nil)))))
  (pss_cons (ps_set (i := 2) sc_law.nd rfl (by first | exact Or.inl rfl | exact Or.inr rfl) (pe_callE (ok_letters T) (hr.mono (by decide)) T.o_letters (pa_cons (pv 1) (pa_cons pe_int pa_nil))))
  (pss_cons (ps_set (i := 3) sc_law.nd rfl (by first | exact Or.inl rfl | exact Or.inr rfl) (pe_op (kAdd K) pe_int (pe_callE (ok_next T) (hr.mono (by decide)) T.o_next (pa_cons (pv 1) (pa_cons pe_int pa_nil)))))
  (pss_cons (ps_setLc (i := 4) (own := [("k", 5)]) (g := gName 5) (tt := tYes) (by rfl) sc_law.nd rfl rfl (sw_true rfl rfl rfl (by decide +kernel)) (pi_range1 (by rfl) T.nb_range (pa_cons (pv 3) pa_nil)) (blkOk_by (own := [("k", 5)]) (N := ["script", "state", "letters", "many", "accepting", "k", "table", "letter", "passed", "rows", "row", "machine", "twin", "due", "text", "j", "at", "shown"]) (sc := defScope s_law) (by decide +kernel)) (fun _ _ _ _ _ => (pg_name (i := 5) sc_law.nd rfl (by first | exact Or.inl rfl | exact Or.inr rfl))) (fun _ _ _ _ _ => pts_nil) (fun _ _ _ _ _ => (pe_cmpR (kEq K rfl hr.units) (pe_callE (ok_next T) (hr.mono (by decide)) T.o_next (pa_cons (pv 1) (pa_cons pe_int pa_nil))) pe_int (by first | rfl | exact nomark _))))
  (pss_cons (ps_setLc (i := 6) (own := [("k", 5)]) (g := gName 5) (tt := tYes) (by rfl) sc_law.nd rfl rfl (sw_true rfl rfl rfl (by decide +kernel)) (pi_range1 (by rfl) T.nb_range (pa_cons (pv 3) pa_nil)) (blkOk_by (own := [("k", 5)]) (N := ["script", "state", "letters", "many", "accepting", "k", "table", "letter", "passed", "rows", "row", "machine", "twin", "due", "text", "j", "at", "shown"]) (sc := defScope s_law) (by decide +kernel)) (fun _ _ _ _ _ => (pg_name (i := 5) sc_law.nd rfl (by first | exact Or.inl rfl | exact Or.inr rfl))) (fun _ _ _ _ _ => pts_nil) (fun _ _ _ _ _ => (pe_lc (own := [("letter", 7)]) (g := gName 7) (tt := tYes) (by rfl) sc_law.nd (kAny K rfl (pv 2)) (by exact blkOk_in (N := ["script", "state", "letters", "many", "accepting", "k", "table", "letter", "passed", "rows", "row", "machine", "twin", "due", "text", "j", "at", "shown"]) rfl (by decide +kernel)) (fun _ _ _ _ _ => (pg_name (i := 7) sc_law.nd rfl (by first | exact Or.inl rfl | exact Or.inr rfl))) (fun _ _ _ _ _ => pts_nil) (fun _ _ _ _ _ => (pe_callE (ok_next T) (hr.mono (by decide)) T.o_next (pa_cons (pv 1) (pa_cons (pv 3) pa_nil)))))))
  (pss_cons (ps_set (i := 8) sc_law.nd rfl (by first | exact Or.inl rfl | exact Or.inr rfl) (pe_callTy (kLstOf K) (by rfl) T.nb_list (by decide +kernel) (pa_cons (pv 4) pa_nil)))
  (pss_cons (ps_setLc (i := 9) (own := [("row", 10)]) (g := gName 10) (tt := tYes) (by rfl) sc_law.nd rfl rfl (sw_true rfl rfl rfl (by decide +kernel)) (kAny K rfl (pv 6)) (blkOk_by (own := [("row", 10)]) (N := ["script", "state", "letters", "many", "accepting", "k", "table", "letter", "passed", "rows", "row", "machine", "twin", "due", "text", "j", "at", "shown"]) (sc := defScope s_law) (by decide +kernel)) (fun _ _ _ _ _ => (pg_name (i := 10) sc_law.nd rfl (by first | exact Or.inl rfl | exact Or.inr rfl))) (fun _ _ _ _ _ => pts_nil) (fun _ _ _ _ _ => (pe_callTy (kLstOf K) (by rfl) T.nb_list (by decide +kernel) (pa_cons (pv 10) pa_nil))))
  (pss_cons (ps_set (i := 11) sc_law.nd rfl (by first | exact Or.inl rfl | exact Or.inr rfl) (pe_makeR T.mk_Machine (ok_Machine_init T) (hr.mono (by decide)) T.g_Machine T.b_Machine_init takes0 (pa_cons (pv 2) (pa_cons (pv 8) (pa_cons (pv 9) pa_nil)))))
  (pss_cons (ps_set (i := 12) sc_law.nd rfl (by first | exact Or.inl rfl | exact Or.inr rfl) (pe_makeR T.mk_Machine (ok_Machine_init T) (hr.mono (by decide)) T.g_Machine T.b_Machine_init takes0 (pa_cons (pv 2) (pa_cons (pe_callTy (kTupOf K) (by rfl) T.nb_tuple (by decide +kernel) (pa_cons (pv 4) pa_nil)) (pa_cons (pe_callTy (kTupOf K) (by rfl) T.nb_tuple (by decide +kernel) (pa_cons (pe_lc (own := [("row", 10)]) (g := gName 10) (tt := tYes) (by rfl) sc_law.nd (kAny K rfl (pv 6)) (blkOk_by (own := [("row", 10)]) (N := ["script", "state", "letters", "many", "accepting", "k", "table", "letter", "passed", "rows", "row", "machine", "twin", "due", "text", "j", "at", "shown"]) (sc := defScope s_law) (by decide +kernel)) (fun _ _ _ _ _ => (pg_name (i := 10) sc_law.nd rfl (by first | exact Or.inl rfl | exact Or.inr rfl))) (fun _ _ _ _ _ => pts_nil) (fun _ _ _ _ _ => (pe_callTy (kTupOf K) (by rfl) T.nb_tuple (by decide +kernel) (pa_cons (pv 10) pa_nil)))) pa_nil)) pa_nil)))))
  (pss_cons (ps_asg (pe_not (pe_ix (kIx K) (pv 8) pe_int (fun _ _ => rfl))) (pg_sub (pv 8) pe_int set_list))
  (pss_cons (ps_expr (kBm K rfl (pe_bm PySem.F.plainAttrs_list PySem.F.slot_list_append PySem.F.type_list_append mt_append (pe_ix (kIx K) (pv 9) pe_int (fun _ _ => rfl)) (pa_cons pe_int pa_nil))))
  (pss_cons (ps_expr (kBm K rfl (pe_bm PySem.F.plainAttrs_list PySem.F.slot_list_append PySem.F.type_list_append mt_append (pv 9) (pa_cons (pe_ix (kIx K) (pv 9) pe_int (fun _ _ => rfl)) pa_nil))))
  (pss_cons (ps_set (i := 13) sc_law.nd rfl (by first | exact Or.inl rfl | exact Or.inr rfl) (pe_tup (pa_cons (pv 2) (pa_cons (pe_callTy (kTupOf K) (by rfl) T.nb_tuple (by decide +kernel) (pa_cons (pv 4) pa_nil)) (pa_cons (pe_callTy (kTupOf K) (by rfl) T.nb_tuple (by decide +kernel) (pa_cons (pe_lc (own := [("row", 10)]) (g := gName 10) (tt := tYes) (by rfl) sc_law.nd (kAny K rfl (pv 6)) (blkOk_by (own := [("row", 10)]) (N := ["script", "state", "letters", "many", "accepting", "k", "table", "letter", "passed", "rows", "row", "machine", "twin", "due", "text", "j", "at", "shown"]) (sc := defScope s_law) (by decide +kernel)) (fun _ _ _ _ _ => (pg_name (i := 10) sc_law.nd rfl (by first | exact Or.inl rfl | exact Or.inr rfl))) (fun _ _ _ _ _ => pts_nil) (fun _ _ _ _ _ => (pe_callTy (kTupOf K) (by rfl) T.nb_tuple (by decide +kernel) (pa_cons (pv 10) pa_nil)))) pa_nil)) pa_nil)))))
  (pss_cons (ps_for PassesOwn.never rfl (pi_range1 (by rfl) T.nb_range (pa_cons pe_int pa_nil)) (pg_name (i := 5) sc_law.nd rfl (by first | exact Or.inl rfl | exact Or.inr rfl))
    (pss_cons (ps_set (i := 14) sc_law.nd rfl (by first | exact Or.inl rfl | exact Or.inr rfl) (kBm K rfl (pe_bm PySem.F.plainAttrs_str PySem.F.slot_str_join PySem.F.type_str_join (kJoin K) pe_str (pa_cons (pe_lc (own := [("j", 15)]) (g := gName 15) (tt := tYes) (by rfl) sc_law.nd (pi_range1 (by rfl) T.nb_range (pa_cons (pe_callE (ok_next T) (hr.mono (by decide)) T.o_next (pa_cons (pv 1) (pa_cons pe_int pa_nil))) pa_nil)) (blkOk_by (own := [("j", 15)]) (N := ["script", "state", "letters", "many", "accepting", "k", "table", "letter", "passed", "rows", "row", "machine", "twin", "due", "text", "j", "at", "shown"]) (sc := defScope s_law) (by decide +kernel)) (fun _ _ _ _ _ => (pg_name (i := 15) sc_law.nd rfl (by first | exact Or.inl rfl | exact Or.inr rfl))) (fun _ _ _ _ _ => pts_nil) (fun _ _ _ _ _ => (pe_ix (kIx K) (pv 2) (pe_callE (ok_next T) (hr.mono (by decide)) T.o_next (pa_cons (pv 1) (pa_cons (pe_callB (kLen K) (by rfl) T.nb_len (by decide +kernel) (pa_cons (pv 2) pa_nil)) pa_nil))) (fun _ _ => rfl)))) pa_nil))))
  (pss_cons (ps_set (i := 16) sc_law.nd rfl (by first | exact Or.inl rfl | exact Or.inr rfl) pe_int)
  (pss_cons (ps_for PassesOwn.never rfl (kAny K rfl (pv 14)) (pg_name (i := 7) sc_law.nd rfl (by first | exact Or.inl rfl | exact Or.inr rfl))
    (pss_one (ps_set (i := 16) sc_law.nd rfl (by first | exact Or.inl rfl | exact Or.inr rfl) (pe_ix (kIx K) (pe_ix (kIx K) (pv 6) (pv 16) (fun _ _ => rfl)) (kBm K rfl (pe_bm PySem.F.plainAttrs_str PySem.F.slot_str_index PySem.F.type_str_index mt_strIdx (pv 2) (pa_cons (pv 7) pa_nil))) (fun _ _ => rfl)))))
  (pss_cons (ps_if (PW.pt (pw_or (pt_cmpR (kNe K rfl hr.units) (pe_meth (pv 11) T.cl_Machine T.m_Machine_run (ok_Machine_run T) (hr.mono (by decide)) T.b_Machine_run .nil pass0 (pa_cons (pv 14) pa_nil)) (pv 16) (by first | rfl | exact nomark _)) (pw_or (pt_cmpR (kNe K rfl hr.units) (pe_callB (kReprD K hg hr.units) (by rfl) T.nb_repr (by decide +kernel) (pa_cons (pe_meth (pv 11) T.cl_Machine T.m_Machine_accepts (ok_Machine_accepts T) (hr.mono (by decide)) T.b_Machine_accepts .nil pass0 (pa_cons (pv 14) pa_nil)) pa_nil)) (pe_callB (kReprD K hg hr.units) (by rfl) T.nb_repr (by decide +kernel) (pa_cons (pe_ix (kIx K) (pv 4) (pv 16) (fun _ _ => rfl)) pa_nil)) (by first | rfl | exact nomark _)) (pw_or1 (pt_cmpR (kNe K rfl hr.units) (pe_meth (pv 12) T.cl_Machine T.m_Machine_run (ok_Machine_run T) (hr.mono (by decide)) T.b_Machine_run .nil pass0 (pa_cons (pv 14) pa_nil)) (pv 16) (by first | rfl | exact nomark _))))))
    (pss_one (ps_ret pe_bl))
    pss_nil)
  (pss_one (ps_if (pt_not (pt_val (pe_callE (ok_faulty T) (hr.mono (by decide)) T.o_faulty (pa_cons (pv 2) (pa_cons (pv 4) (pa_cons (pv 6) (pa_cons (pv 1) pa_nil)))))))
    (pss_one (ps_ret pe_bl))
    pss_nil)))))))
  (pss_cons (ps_if (PW.pt (pw_and (pt_cmpR (kEq K rfl hr.units) (pe_callE (ok_next T) (hr.mono (by decide)) T.o_next (pa_cons (pv 1) (pa_cons pe_int pa_nil))) pe_int (by first | rfl | exact nomark _)) (pw_and1 (pt_not (pt_val (pe_callE (ok_ring T) (hr.mono (by decide)) T.o_ring (pa_cons (pv 2) (pa_cons (pe_op (kAdd K) pe_int (pe_op op_mulPP (pe_callE (ok_next T) (hr.mono (by decide)) T.o_next (pa_cons (pv 1) (pa_cons pe_int pa_nil))) pe_int)) (pa_cons (pe_op (kAdd K) pe_int (pe_callE (ok_next T) (hr.mono (by decide)) T.o_next (pa_cons (pv 1) (pa_cons pe_int pa_nil)))) pa_nil)))))))))
    (pss_one (ps_ret pe_bl))
    pss_nil)
  (pss_cons (ps_set (i := 17) sc_law.nd rfl (by first | exact Or.inl rfl | exact Or.inr rfl) (pe_tup (pa_cons (kFld K rfl (pe_fld (pv 11) rfl)) (pa_cons (kFld K rfl (pe_fld (pv 11) rfl)) (pa_cons (kFld K rfl (pe_fld (pv 11) rfl)) pa_nil)))))
  (pss_one (ps_ret (pe_and (pe_cmpR (kEq K rfl hr.units) (pe_callB (kReprD K hg hr.units) (by rfl) T.nb_repr (by decide +kernel) (pa_cons (pe_meth0 (pv 11) T.cl_Machine T.m_Machine_picture (ok_Machine_picture T) (hr.mono (by decide)) T.b_Machine_picture .nil pass0) pa_nil)) (pe_callB (kReprD K hg hr.units) (by rfl) T.nb_repr (by decide +kernel) (pa_cons (pv 13) pa_nil)) (by first | rfl | exact nomark _)) (pe_one (pe_cmpR (kEq K rfl hr.units) (pe_callB (kReprD K hg hr.units) (by rfl) T.nb_repr (by decide +kernel) (pa_cons (pv 17) pa_nil)) (pe_callB (kReprD K hg hr.units) (by rfl) T.nb_repr (by decide +kernel) (pa_cons (pv 13) pa_nil)) (by first | rfl | exact nomark _)))))))))))))))))))))), ?_⟩
    walk_at "rc"
    refine ⟨a, ns, 0, 8, rfl, hS, by decide, by decide, by decide, by decide, fun p H1 hp0 e1 S1 => ?_⟩
    walk_at "rc"
    refine ⟨p, 8, rfl, by decide, by decide, S1, fun ls H2 al d2 => ?_⟩
    have l0 := al.l0
    have l1 := al.l1
    have ll : ls.cps.toList.length = ls.length := rfl
    have lz : ls.length ≤ sizeLine := by
      have : sizeLine ≥ 1000 := by decide
      omega
    have lsz : ls.cps.size < 100000 := by
      have : ls.cps.size = ls.length := rfl
      omega
    walk_at "rc"
    refine ⟨p, 12, rfl, by decide, d2.st, fun mm H3 m0 m1 S3 o3 i3 => ?_⟩
    obtain ⟨m', rfl⟩ := Int.eq_ofNat_of_zero_le m0
    have d3 : Dr p H1 H3 := d2.trans ⟨S3, o3, i3.2⟩
    walk_at "rc"
    have em : (1 : Int) + (m' : Int) = ((1 + m' : Nat) : Int) := by omega
    rw [em]
    generalize hm : 1 + m' = m
    have m0 : 0 < m := by omega
    have m12 : m ≤ 12 := by omega
    refine ⟨(m : Int), rfl, by omega, by omega, ?_⟩
    rw [Int.toNat_natCast]
    refine lc_draw (n := m) (xs := fun i => .int (i : Nat)) (fun i v => ∃ b : Bool, v = .bl b ∧ True) walk_range0 (fun i H x H' hi y => y) (by omega) d3.st (fun _ _ => True.intro) (fun i Hc hi d N hN => ?_) fun aa vs H4 haa d4 hv hl hR => ?_
    · walk_at "rc"
      refine ⟨p, 2, rfl, by decide, d.st, fun r H5 r0 r1 S5 o5 i5 => ?_⟩
      walk_at "rc"
      exact hN _ _ ⟨S5, o5, i5.2⟩ ⟨_, rfl, trivial⟩
    obtain ⟨acc, rfl, _⟩ := map_of vs hR
    have hal : acc.length = m := by rw [← hl, List.length_map]
    walk_at "rc"
    refine ⟨(m : Int), rfl, by omega, by omega, ?_⟩
    rw [Int.toNat_natCast]
    refine lc_table (n := m) (xs := fun i => .int (i : Nat)) (fun row => row.length = ls.length ∧ ∀ x ∈ row, 0 ≤ x ∧ x < (m : Int)) walk_range0 (fun i H x H' hi y => y) (by omega) d4.st (fun _ _ => True.intro) (fun i Hc hi d N hN => ?_) fun at' rs tab H5 hat d5 htb hR tl good nL fr => ?_
    · walk_at "rc"
      refine rd_anyS (fun Q q => ⟨_, rfl, q⟩) ?_
      refine lc_draw (n := ls.cps.size) (xs := fun i => .str ⟨#[ls.cps.toList.getD i 0]⟩) (fun i v => ∃ x : Int, v = .int x ∧ 0 ≤ x ∧ x < (m : Int)) walk_str (fun i H x H' hi y => ?_) lsz d.st (fun _ _ => True.intro) (fun j Hc2 hj d2 N hN => ?_) fun L vs H6 hL d6 hv hl hS => ?_
      · obtain ⟨rfl, c, e, rfl⟩ := y
        rw [← Array.getElem?_toList] at e
        exact ⟨rfl, by rw [List.getD_eq_getElem?_getD, e]; rfl⟩
      · walk_at "rc"
        refine ⟨p, m, rfl, by omega, d2.st, fun r H7 r0 r1 S7 o7 i7 => ?_⟩
        exact hN _ _ ⟨S7, o7, i7.2⟩ ⟨r, rfl, r0, r1⟩
      · obtain ⟨row, rfl, hrow⟩ := map_of (f := V.int) vs hS
        refine hN L row H6 hL d6 hv ⟨?_, hrow⟩
        rw [List.length_map] at hl
        rw [hl]
        rfl
    have gd : goodM ls acc tab := ⟨by omega, by omega, fun row hr => by rw [hal]; exact good row hr⟩
    have d5' : Dr p H1 H5 := (d3.trans d4).trans d5
    have haa5 : H5 aa = some (.lst (acc.map V.bl)) := d5.old _ _ (fun z => by
      obtain ⟨o, ho⟩ := d3.st.some
      rw [← z, haa] at ho
      cases ho) hv
    walk_at "rc"
    refine rd_lstL (.inl (SqL.of haa5)) fun pp hpp => ?_
    walk_at "rc"
    have e6 : Ex H5 (upd H5 pp (.lst (acc.map V.bl))) := Evl.Ex.new hpp
    generalize hH6 : upd H5 pp (.lst (acc.map V.bl)) = H6 at e6
    have hpp6 : H6 pp = some (.lst (acc.map V.bl)) := by rw [← hH6]; exact upd_same
    have d6 := d5'.ex e6
    walk_at "rc"
    refine lc_copy (fun Q q => ⟨_, rfl, q⟩) (fun v => rfl) (by omega) (SqL.of (e6 _ _ htb)) (hR.a.ex e6) fun rw' rs2 H7 hrw e7 hrw7 hR2 nrw fr2 => ?_
    have d7 := d6.ex e7
    have hpp7 := e7 _ _ hpp6
    have haa7 := e7 _ _ (e6 _ _ haa5)
    have htb7 := e7 _ _ (e6 _ _ htb)
    have hR7 : RowsF H7 rs tab := hR.but fun b o _ z => e7 _ _ (e6 _ _ z)
    walk_at "rc"
    intro x dx hx hdx ne
    refine ⟨x, dx, pp, rw', ls, acc, rs2, tab, rfl, l0, by omega, upd_same, SqA.made hx hdx (.inl (SqL.of hpp7)), SqA.made hx hdx (.inl (SqL.of hrw7)), (hR2.a).made hx hdx, by omega, fun _ H8 k8 hm1 => ⟨rfl, ?_⟩, fun z => absurd gd z⟩
    have e8 := made_ex hx hdx ne k8
    walk_at "rc"
    refine rd_tupL (SqL.of (e8 _ _ haa7)) fun ta hta => ?_
    have e9 : Ex H7 (upd H8 ta (.tup (acc.map V.bl))) := ex_upd e8 hta
    have hm9 := hm1.ex (Evl.Ex.new (o := .tup (acc.map V.bl)) hta)
    have hta9 : SqT K (upd H8 ta (.tup (acc.map V.bl))) ta (acc.map V.bl) := Evl.st_of upd_same
    generalize upd H8 ta (.tup (acc.map V.bl)) = H9 at e9 hm9 hta9
    walk_at "rc"
    refine lc_rows (fun Q q => ⟨_, rfl, q⟩) (fun v => rfl) (by omega) (.inl (SqL.of (e9 _ _ htb7))) ((hR7.a).ex e9) fun L rs3 H10 hL e10 hL10 hRT => ?_
    walk_at "rc"
    refine rd_tupL (SqL.of hL10) fun tt htt => ?_
    have e11 : Ex H9 (upd H10 tt (.tup (rs3.map V.ref))) := ex_upd e10 htt
    have hRT11 := (hRT.ex hide_ex).ex (Evl.Ex.new (o := .tup (rs3.map V.ref)) htt)
    have htt11 : SqT K (upd H10 tt (.tup (rs3.map V.ref))) tt (rs3.map V.ref) := Evl.st_of upd_same
    generalize upd H10 tt (.tup (rs3.map V.ref)) = H11 at e11 hRT11 htt11
    walk_at "rc"
    intro y dy hy hdy ne2
    refine ⟨y, dy, ta, tt, ls, acc, rs3, tab, rfl, l0, by omega, upd_same, SqA.made hy hdy (.inr (Evl.ex_t e11 hta9)), SqA.made hy hdy (.inr htt11), (hRT11.a).made hy hdy, by omega, fun _ H12 k12 hm2 => ⟨rfl, ?_⟩, fun z => absurd gd z⟩
    have e12 := e11.trans (made_ex hy hdy ne2 k12)
    have e7C := e9.trans e12
    have d12 := d7.ex e7C
    have hm12 := hm9.ex e12
    have hpp12 := e7C _ _ hpp7
    have hrw12 := e7C _ _ hrw7
    have hR12 : RowsF H12 rs2 tab := hR2.but fun b o _ z => e7C _ _ z
    have dd : Dr p H5 H12 := ((Dr.refl d5.st).ex (e6.trans e7)).ex e7C
    have n5 : ∀ b, H6 b = none → H5 b = none := fun b hb => by
      cases q : H5 b with
      | none => rfl
      | some o => rw [e6 _ _ q] at hb; cases hb
    obtain ⟨r0, n0, g1, g2, g3⟩ := hR12.get (i := 0) (by omega)
    have r0m : r0 ∈ rs2 := List.mem_of_getElem? g1
    have r0p : r0 ≠ pp := ne_of_none' (fr2 r0 r0m) hpp6
    have rwp : rw' ≠ pp := ne_of_none' hrw hpp6
    have rwr : rw' ≠ r0 := fun z => nrw (z ▸ r0m)
    obtain ⟨b0, hb0⟩ : ∃ b0, acc[0]? = some b0 := ⟨_, List.getElem?_eq_getElem (show 0 < acc.length by omega)⟩
    walk_at "rc"
    refine rd_ixL (v := .bl b0) (SqL.of hpp12) (atI_nat (j := 0) (by rw [List.getElem?_map, hb0]; rfl)) ?_
    walk_at "rc"
    refine ⟨pp, acc.map V.bl, 0, 0, rfl, rfl, hpp12, ixN_nat (j := 0) (by rw [List.length_map]; omega), ?_⟩
    have dd13 := dd.put (o := .lst ((acc.map V.bl).set 0 (.bl !b0))) d5.st hpp
    have k13 : But pp H12 (upd H12 pp (.lst ((acc.map V.bl).set 0 (.bl !b0)))) := But.of_upd
    generalize upd H12 pp (.lst ((acc.map V.bl).set 0 (.bl !b0))) = H13 at dd13 k13
    have mx13 := hm12.but hpp12 k13
    have my13 := hm2.but hpp12 k13
    have g13 := k13 _ _ r0p g3
    have hrw13 := k13 _ _ rwp hrw12
    walk_at "rc"
    refine rd_ixL (v := .ref r0) (SqL.of hrw13) (atI_nat (j := 0) (by rw [List.getElem?_map, g1]; rfl)) ?_
    refine ⟨.inl ⟨rfl, _, SqL.of g13⟩, ?_⟩
    walk_at "rc"
    refine ⟨r0, n0.map V.int, .int 9, rfl, rfl, g13, ?_, ?_⟩
    · rw [List.length_map, (good n0 (List.mem_of_getElem? g2)).1]
      have : sizeLine ≥ 1000 := by decide
      omega
    have dd14 := dd13.put (o := .lst (n0.map V.int ++ [.int 9])) d5.st (n5 _ (fr2 r0 r0m))
    have k14 : But r0 H13 (upd H13 r0 (.lst (n0.map V.int ++ [.int 9]))) := But.of_upd
    generalize upd H13 r0 (.lst (n0.map V.int ++ [.int 9])) = H14 at dd14 k14
    have mx14 := mx13.but g13 k14
    have my14 := my13.but g13 k14
    have hrw14 := k14 _ _ rwr hrw13
    walk_at "rc"
    refine ⟨.inl ⟨rfl, _, SqL.of hrw14⟩, ?_⟩
    walk_at "rc"
    refine rd_ixL (v := .ref r0) (SqL.of hrw14) (atI_nat (j := 0) (by rw [List.getElem?_map, g1]; rfl)) ?_
    walk_at "rc"
    refine ⟨rw', rs2.map V.ref, .ref r0, rfl, rfl, hrw14, ?_, ?_⟩
    · have : sizeLine ≥ 1000 := by decide
      rw [List.length_map, hR12.2.1]
      omega
    have dd15 := dd14.put (o := .lst (rs2.map V.ref ++ [.ref r0])) d5.st (n5 _ hrw)
    have k15 : But rw' H14 (upd H14 rw' (.lst (rs2.map V.ref ++ [.ref r0]))) := But.of_upd
    generalize upd H14 rw' (.lst (rs2.map V.ref ++ [.ref r0])) = H15 at dd15 k15
    have mx15 := mx14.but hrw14 k15
    have my15 := my14.but hrw14 k15
    have pS : ∀ {Hq : Hp}, StAt Hq p → ∀ {b}, Hq b = none → b ≠ p := fun hq b hb z => by
      obtain ⟨o, ho⟩ := hq.some
      rw [← z, hb] at ho
      cases ho
    have na : aa ≠ p := pS d3.st haa
    have nt : at' ≠ p := pS d4.st hat
    have nr : p ∉ rs := fun z => pS d4.st (fr p z) rfl
    have haa15 := dd15.old _ _ na haa5
    have htb15 := dd15.old _ _ nt htb
    have hR15 : RowsF H15 rs tab := hR.but fun b o hb z => dd15.old _ _ (fun y => nr (y ▸ hb)) z
    walk_at "rc"
    refine rd_tupL (SqL.of haa15) fun ta2 hta2 => ?_
    have f1 : Ex H15 (upd H15 ta2 (.tup (acc.map V.bl))) := Evl.Ex.new hta2
    have t1 : SqT K (upd H15 ta2 (.tup (acc.map V.bl))) ta2 (acc.map V.bl) := Evl.st_of upd_same
    generalize upd H15 ta2 (.tup (acc.map V.bl)) = H16 at f1 t1
    walk_at "rc"
    refine lc_rows (fun Q q => ⟨_, rfl, q⟩) (fun v => rfl) (by omega) (.inl (SqL.of (f1 _ _ htb15))) ((hR15.a).ex f1) fun L5 rs5 H17 hL5 f2 hL52 hRT5 => ?_
    walk_at "rc"
    refine rd_tupL (SqL.of hL52) fun tt2 htt2 => ?_
    have f3 : Ex H16 (upd H17 tt2 (.tup (rs5.map V.ref))) := ex_upd f2 htt2
    have t3 := (hRT5.ex hide_ex).ex (Evl.Ex.new (o := .tup (rs5.map V.ref)) htt2)
    have t2 : SqT K (upd H17 tt2 (.tup (rs5.map V.ref))) tt2 (rs5.map V.ref) := Evl.st_of upd_same
    generalize upd H17 tt2 (.tup (rs5.map V.ref)) = H18 at f3 t2 t3
    walk_at "rc"
    refine ⟨by show 3 ≤ sizeLine; decide, fun d0 hd0 => ?_⟩
    have f4 := Evl.Ex.new (o := .tup [.str ls, .ref ta2, .ref tt2]) hd0
    have pic : PicAt K (upd H18 d0 (.tup [.str ls, .ref ta2, .ref tt2])) d0 ls acc tab := ⟨ta2, tt2, rs5, Evl.st_of upd_same, Evl.ex_t (f3.trans f4) t1, Evl.ex_t f4 t2, t3.ex f4⟩
    generalize upd H18 d0 (.tup [.str ls, .ref ta2, .ref tt2]) = H19 at f4 pic
    have f5 : Ex H15 H19 := (f1.trans f3).trans f4
    have W0 : LW K T.C_Machine p aa at' x y d0 ls acc rs tab H19 := ⟨dd15.st.ex f5, f5 _ _ haa15, f5 _ _ htb15, hR15.but fun b o _ z => f5 _ _ z, mx15.ex f5, my15.ex f5, pic⟩
    have wdr : ∀ {Hq Hr : Hp}, LW K T.C_Machine p aa at' x y d0 ls acc rs tab Hq → Dr p Hq Hr → LW K T.C_Machine p aa at' x y d0 ls acc rs tab Hr := fun w d => w.dr na nt nr d
    clear pic f5 f4 t1 t2 t3 f3 f2 f1 haa15 htb15 hR15 mx15 my15 k15 dd15 k14 dd14 k13 dd13 mx14 my14 mx13 my13 hrw14 hrw13 g13
    walk_at "rc"
    walk_at "rs"
    walk_at "rc"
    refine ⟨8, rfl, by decide, by decide, fo_range (n := 8) (fun i σ H' => (∃ k5 k7 k10 k14 k15 k16 k17 : Option V, σ = [some (.ref a), some (.ref p), some (.str ls), some (.int (m : Nat)), some (.ref aa), k5, some (.ref at'), k7, some (.ref pp), some (.ref rw'), k10, some (.ref x), some (.ref y), some (.ref d0), k14, k15, k16, k17]) ∧ LW K T.C_Machine p aa at' x y d0 ls acc rs tab H')
      ⟨⟨none, none, none, none, none, none, none, rfl⟩, W0⟩ ?_ ?_⟩
    · rintro i0 σ G0 hi ⟨⟨k5, k7, k10, k14, k15, k16, k17, rfl⟩, w0⟩
      walk_at "rc"
      refine ⟨rfl, ?_⟩
      walk_at "rc"
      refine ⟨p, 14, rfl, by decide, w0.st, fun nn G1 r0' r1' S1' o1' i1' => ?_⟩
      have w1 := wdr w0 ⟨S1', o1', i1'.2⟩
      walk_at "rc"
      refine ⟨nn, rfl, by omega, by omega, ?_⟩
      refine lc_draw (n := nn.toNat) (xs := fun i => .int (i : Nat)) (fun i v => ∃ c : Nat, v = .str ⟨#[c]⟩ ∧ c ∈ ls.cps.toList) walk_range0 (fun i H x H' hi y => y) (by omega) w1.st (fun _ _ => True.intro) (fun j Gc hj dj N hN => ?_) fun Lt vs G2 hLt dG2 hvt hlt hSt => ?_
      · walk_at "rc"
        refine rd_lenS lz ?_
        refine ⟨p, _, rfl, by omega, dj.st, fun r G3 q0 q1 S3' o3' i3' => ?_⟩
        obtain ⟨c, hc, cm⟩ := at_str (z := ls) q0 q1
        refine rd_ixS lz hc ?_
        exact hN _ _ ⟨S3', o3', i3'.2⟩ ⟨c, rfl, cm⟩
      obtain ⟨cs, rfl, hcs⟩ := map_of (f := fun c : Nat => V.str ⟨#[c]⟩) vs hSt
      have w2 := wdr w1 dG2
      rw [List.length_map] at hlt
      have es : cs.map (fun c : Nat => V.str ⟨#[c]⟩) = (cs.map fun c => (⟨#[c]⟩ : Str)).map V.str := by rw [List.map_map]; rfl
      rw [es] at hvt
      walk_at "rc"
      refine ⟨"", Lt, _, rfl, rfl, .inl (SqL.of hvt), ?_, ?_⟩
      · rw [sum_signs, List.length_map]
        have e0 : (Str.ofString "").length = 0 := by decide +kernel
        rw [e0]
        omega
      have et := join_signs cs
      generalize Txt.join "" (cs.map fun c => (⟨#[c]⟩ : Str)) = t at et
      have htc : ∀ c ∈ t.cps.toList, c ∈ ls.cps.toList := fun c hc => hcs c (by rw [← et]; exact hc)
      have rin := runM_in gd t.cps.toList htc
      obtain ⟨rn, hrn⟩ := Int.eq_ofNat_of_zero_le rin.1
      have hrl : rn < acc.length := by have := rin.2; omega
      walk_at "rc"
      walk_at "rs"
      walk_at "rc"
      refine rd_anyS (fun Q q => ⟨_, rfl, q⟩) (fo_str (fun i σ H' => (∃ v, σ = [some (.ref a), some (.ref p), some (.str ls), some (.int (m : Nat)), some (.ref aa), some (.int (i0 : Nat)), some (.ref at'), v, some (.ref pp), some (.ref rw'), k10, some (.ref x), some (.ref y), some (.ref d0), some (.str t), k15, some (.int (runM ls tab (t.cps.toList.take i))), k17]) ∧ H' = G2) ⟨⟨k7, rfl⟩, rfl⟩ ?_ ?_)
      · rintro j c σ H' hj ⟨⟨v, rfl⟩, rfl⟩
        have hcm := htc c (List.mem_of_getElem? hj)
        have rinj := runM_in gd (t.cps.toList.take j) fun d hd => htc d (List.mem_of_mem_take hd)
        obtain ⟨row, hrow, hcell, s0, s1⟩ := stepM_in gd rinj.1 rinj.2 hcm
        have hrowl : (runM ls tab (t.cps.toList.take j)).toNat < tab.length := (List.getElem?_eq_some_iff.mp hrow).1
        obtain ⟨r, row', hr1, hr2, hr3⟩ := w2.r.get hrowl
        rw [hrow] at hr2
        obtain rfl := Option.some.inj hr2
        have e : runM ls tab (t.cps.toList.take j) = ((runM ls tab (t.cps.toList.take j)).toNat : Int) := (Int.toNat_of_nonneg rinj.1).symm
        walk_at "rc"
        refine rd_ixL (v := .ref r) (SqL.of w2.t) ?_ ?_
        · rw [e]
          exact atI_nat (by rw [List.getElem?_map, hr1]; rfl)
        walk_at "rc"
        refine ⟨rfl, ?_⟩
        walk_at "rc"
        refine rd_idx hcm ?_
        refine rd_ixL (v := .int (stepM ls tab (runM ls tab (t.cps.toList.take j)) c)) (SqL.of hr3) (atI_nat (by rw [List.getElem?_map, hcell]; rfl)) ?_
        walk_at "rc"
        rw [runM_take hj]
        exact ⟨⟨_, rfl⟩, rfl⟩
      rintro σ H' ⟨⟨v, rfl⟩, rfl⟩
      have el : t.length = t.cps.toList.length := rfl
      rw [el, List.take_length]
      obtain ⟨dx1, ta1, tt1, hx1⟩ := w2.m1.get
      obtain ⟨dx2, ta2', tt2', hx2⟩ := w2.m2.get
      walk_at "rc"
      walk_at "rs"
      walk_at "rc"
      refine ⟨x, dx1, _, rfl, hx1, rfl, ?_⟩
      walk_at "rc"
      refine ⟨x, ls, t, acc, tab, rfl, w2.m1, gd, htc, ?_⟩
      walk_at "rc"
      refine rd_iteN (fun h => absurd rfl h) (fun _ => ?_)
      walk_at "rc"
      refine ⟨x, dx1, _, rfl, hx1, rfl, ?_⟩
      walk_at "rc"
      refine ⟨x, ls, t, acc, tab, rfl, w2.m1, gd, htc, ?_⟩
      walk_at "rc"
      refine rd_reprBD ?_
      walk_at "rc"
      rw [hrn, Int.toNat_natCast]
      refine rd_ixL (v := .bl (acc.getD rn false)) (SqL.of w2.a) (atI_nat (by rw [List.getElem?_map, List.getD_eq_getElem?_getD, List.getElem?_eq_getElem hrl]; rfl)) ?_
      walk_at "rc"
      refine rd_reprBD ?_
      walk_at "rc"
      refine rd_iteN (fun h => absurd rfl h) (fun _ => ?_)
      walk_at "rc"
      refine ⟨y, dx2, _, rfl, hx2, rfl, ?_⟩
      walk_at "rc"
      refine ⟨y, ls, t, acc, tab, rfl, w2.m2, gd, htc, ?_⟩
      rw [hrn]
      walk_at "rc"
      refine rd_iteN (fun h => absurd rfl h) (fun _ => ?_)
      walk_at "rc"
      refine ⟨aa, at', p, ls, acc, rs, tab, rfl, l0, by omega, by omega, w2.a, w2.t, w2.r, gd, w2.st, na, nt, nr, fun G5 d5 => ?_⟩
      walk_at "rc"
      exact ⟨⟨_, _, _, _, _, _, _, rfl⟩, wdr w2 d5⟩
    · rintro σ G0 ⟨⟨k5, k7, k10, k14, k15, k16, k17, rfl⟩, w0⟩
      walk_at "rc"
      refine rd_cut (fun σ H' => (∃ k5 k7 k10 k14 k15 k16 k17 : Option V, σ = [some (.ref a), some (.ref p), some (.str ls), some (.int (m : Nat)), some (.ref aa), k5, some (.ref at'), k7, some (.ref pp), some (.ref rw'), k10, some (.ref x), some (.ref y), some (.ref d0), k14, k15, k16, k17]) ∧ LW K T.C_Machine p aa at' x y d0 ls acc rs tab H') (fun N hN => ?_) ?_
      · have fin : ∀ G, LW K T.C_Machine p aa at' x y d0 ls acc rs tab G → N [some (.ref a), some (.ref p), some (.str ls), some (.int (m : Nat)), some (.ref aa), k5, some (.ref at'), k7, some (.ref pp), some (.ref rw'), k10, some (.ref x), some (.ref y), some (.ref d0), k14, k15, k16, k17] G := fun G w => hN _ _ ⟨⟨_, _, _, _, _, _, _, rfl⟩, w⟩
        walk_at "rc"
        refine ⟨p, 8, rfl, by decide, w0.st, fun r1 G1 q0 q1 S1' o1' i1' => ?_⟩
        have w1 := wdr w0 ⟨S1', o1', i1'.2⟩
        walk_at "rc"
        refine rd_iteD (fun _ => ?_) (fun _ => ?_)
        · walk_at "rc"
          refine ⟨p, 1000, rfl, by decide, w1.st, fun r2 G2 q20 q21 S2' o2' i2' => ?_⟩
          have w2 := wdr w1 ⟨S2', o2', i2'.2⟩
          refine rd_mulN (y := 2) (.inr ⟨by decide, by decide⟩) ?_
          walk_at "rc"
          refine ⟨p, 5, rfl, by decide, w2.st, fun r3 G3 q30 q31 S3' o3' i3' => ?_⟩
          have w3 := wdr w2 ⟨S3', o3', i3'.2⟩
          walk_at "rc"
          obtain ⟨n2, rfl⟩ := Int.eq_ofNat_of_zero_le q20
          obtain ⟨n3, rfl⟩ := Int.eq_ofNat_of_zero_le q30
          have ee2 : (1 : Int) + (n2 : Int) * 2 = ((1 + n2 * 2 : Nat) : Int) := by omega
          have ee3 : (1 : Int) + (n3 : Int) = ((1 + n3 : Nat) : Int) := by omega
          rw [ee2, ee3]
          refine ⟨ls, 1 + n2 * 2, 1 + n3, 8, rfl, al, by decide, by omega, by omega, by omega, fun G4 e4 => ?_⟩
          walk_at "rc"
          exact fin _ (w3.ex e4)
        · walk_at "rc"
          exact fin _ w1
      rintro σ G1 ⟨⟨k5, k7, k10, k14, k15, k16, k17, rfl⟩, w1⟩
      obtain ⟨dx1, ta1, tt1, rs1, hx1, hA1, hT1, hRT1⟩ := id w1.m1
      walk_at "rc"
      refine ⟨x, T.C_Machine, dx1, _, _, rfl, hx1, T.cl_Machine, T.na_Machine_letters, rfl, ?_⟩
      walk_at "rc"
      refine ⟨x, T.C_Machine, dx1, _, _, rfl, hx1, T.cl_Machine, T.na_Machine_accepting, rfl, ?_⟩
      walk_at "rc"
      refine ⟨x, T.C_Machine, dx1, _, _, rfl, hx1, T.cl_Machine, T.na_Machine_table, rfl, ?_⟩
      walk_at "rc"
      refine ⟨by show 3 ≤ sizeLine; decide, fun sh hsh => ?_⟩
      have g1' := Evl.Ex.new (o := .tup [.str ls, .ref ta1, .ref tt1]) hsh
      have psh : PicAt K (upd G1 sh (.tup [.str ls, .ref ta1, .ref tt1])) sh ls acc tab := ⟨ta1, tt1, rs1, Evl.st_of upd_same, Evl.ex_t g1' hA1, Evl.ex_t g1' hT1, hRT1.ex g1'⟩
      generalize upd G1 sh (.tup [.str ls, .ref ta1, .ref tt1]) = G2 at g1' psh
      have w2 := w1.ex g1'
      have ok := pic_okd al (by omega) gd
      walk_at "rc"
      refine rd_andV ?_
      walk_at "rc"
      refine ⟨x, dx1, _, rfl, g1' _ _ hx1, rfl, ?_⟩
      walk_at "rc"
      refine ⟨x, ls, acc, tab, rfl, w2.m1, fun pc G3 e3 dpc => ?_⟩
      refine rd_reprD dpc ok (by decide) (by decide) ?_
      walk_at "rc"
      refine rd_reprD (w2.du.ex e3).dp ok (by decide) (by decide) ?_
      walk_at "rc"
      refine rd_iteD (fun _ => ?_) (fun h => absurd rfl h)
      walk_at "rc"
      refine rd_reprD (psh.ex e3).dp ok (by decide) (by decide) ?_
      walk_at "rc"
      refine rd_reprD (w2.du.ex e3).dp ok (by decide) (by decide) ?_
      walk_at "rc"
      rw [decide_eq_true rfl]
      exact q _
end
end
theorem all_mk {l : PySem.W.OpenLaw} {w : World} {K : PySem.W.Frag} {h : Heap} {mg : Str → Option Value} {fa : Addr} (X : K.In h) (G : h.Ns mainGlobals mg) (hfa : mg "law" = some (.ref fa))
    {a_cell : Addr} {od_cell an_cell : Option Addr} {sl_cell : Array (Option Value)} {oc_cell kV_cell dc_cell pm_cell cd_cell ct_cell : Value}
    {a_numbers : Addr} {od_numbers an_numbers : Option Addr} {sl_numbers : Array (Option Value)} {oc_numbers kV_numbers dc_numbers pm_numbers cd_numbers ct_numbers : Value}
    {a_state : Addr} {od_state an_state : Option Addr} {sl_state : Array (Option Value)} {oc_state kV_state dc_state pm_state cd_state ct_state : Value}
    {a_next : Addr} {od_next an_next : Option Addr} {sl_next : Array (Option Value)} {oc_next kV_next dc_next pm_next cd_next ct_next : Value}
    {a_letters : Addr} {od_letters an_letters : Option Addr} {sl_letters : Array (Option Value)} {oc_letters kV_letters dc_letters pm_letters cd_letters ct_letters : Value}
    {a_made : Addr} {od_made an_made : Option Addr} {sl_made : Array (Option Value)} {oc_made kV_made dc_made pm_made cd_made ct_made : Value}
    {a_faulty : Addr} {od_faulty an_faulty : Option Addr} {sl_faulty : Array (Option Value)} {oc_faulty kV_faulty dc_faulty pm_faulty cd_faulty ct_faulty : Value}
    {a_ring : Addr} {od_ring an_ring : Option Addr} {sl_ring : Array (Option Value)} {oc_ring kV_ring dc_ring pm_ring cd_ring ct_ring : Value}
    {a_law : Addr} {od_law an_law : Option Addr} {sl_law : Array (Option Value)} {oc_law kV_law dc_law pm_law cd_law ct_law : Value}
    {C_AnytextError C_MachineError C_ProgramError C_BadMachine C_BadRewriter : Addr}
    {a_init T_init : Addr} {od_init an_init : Option Addr} {sl_init : Array (Option Value)} {oc_init kV_init dc_init pm_init cd_init ct_init : Value} {dd_init : Option Addr} {nn_init : Nat} {sm_init : Array (Option Value)} {oc2_init : Value}
    {nm_BadMachine q_BadMachine : Str} {N_BadMachine : Addr} {bs_BadMachine : List Value} {sn_BadMachine : List Str} {sb_BadMachine : List Value} {ab_BadMachine : Bool} {col_BadMachine : Option Bool} {dd_BadMachine : Option Addr} {m0_BadMachine m1_BadMachine m2_BadMachine m3_BadMachine m5_BadMachine : Option Value}
    {C_Machine : Addr}
    {a_Machine_init : Addr} {od_Machine_init an_Machine_init : Option Addr} {sl_Machine_init : Array (Option Value)} {oc_Machine_init kV_Machine_init dc_Machine_init pm_Machine_init cd_Machine_init ct_Machine_init : Value}
    {a_Machine_check : Addr} {od_Machine_check an_Machine_check : Option Addr} {sl_Machine_check : Array (Option Value)} {oc_Machine_check kV_Machine_check dc_Machine_check pm_Machine_check cd_Machine_check ct_Machine_check : Value}
    {a_Machine_run : Addr} {od_Machine_run an_Machine_run : Option Addr} {sl_Machine_run : Array (Option Value)} {oc_Machine_run kV_Machine_run dc_Machine_run pm_Machine_run cd_Machine_run ct_Machine_run : Value}
    {a_Machine_run_from : Addr} {od_Machine_run_from an_Machine_run_from : Option Addr} {sl_Machine_run_from : Array (Option Value)} {oc_Machine_run_from kV_Machine_run_from dc_Machine_run_from pm_Machine_run_from cd_Machine_run_from ct_Machine_run_from : Value}
    {a_Machine_accepts : Addr} {od_Machine_accepts an_Machine_accepts : Option Addr} {sl_Machine_accepts : Array (Option Value)} {oc_Machine_accepts kV_Machine_accepts dc_Machine_accepts pm_Machine_accepts cd_Machine_accepts ct_Machine_accepts : Value}
    {a_Machine_picture : Addr} {od_Machine_picture an_Machine_picture : Option Addr} {sl_Machine_picture : Array (Option Value)} {oc_Machine_picture kV_Machine_picture dc_Machine_picture pm_Machine_picture cd_Machine_picture ct_Machine_picture : Value}
    (n_cell : PySem.W.nsIn K mainGlobals "_law_cell" = some (some (.ref a_cell)))
    (l_cell : K.lookup a_cell = some ⟨oc_cell, od_cell, .func (PySem.W.fnOf "_law_cell" "_law_cell" (defArgs s_cell) (defBody s_cell) (defScope s_cell) .none kV_cell dc_cell pm_cell an_cell cd_cell ct_cell), sl_cell⟩)
    (c_cell : PySem.W.codeIn K cd_cell "_law_cell" = true)
    (k_cell : PySem.W.keepIn K (.ref a_cell) = true)
    (n_numbers : PySem.W.nsIn K mainGlobals "_law_numbers" = some (some (.ref a_numbers)))
    (l_numbers : K.lookup a_numbers = some ⟨oc_numbers, od_numbers, .func (PySem.W.fnOf "_law_numbers" "_law_numbers" (defArgs s_numbers) (defBody s_numbers) (defScope s_numbers) .none kV_numbers dc_numbers pm_numbers an_numbers cd_numbers ct_numbers), sl_numbers⟩)
    (c_numbers : PySem.W.codeIn K cd_numbers "_law_numbers" = true)
    (k_numbers : PySem.W.keepIn K (.ref a_numbers) = true)
    (n_state : PySem.W.nsIn K mainGlobals "_law_state" = some (some (.ref a_state)))
    (l_state : K.lookup a_state = some ⟨oc_state, od_state, .func (PySem.W.fnOf "_law_state" "_law_state" (defArgs s_state) (defBody s_state) (defScope s_state) .none kV_state dc_state pm_state an_state cd_state ct_state), sl_state⟩)
    (c_state : PySem.W.codeIn K cd_state "_law_state" = true)
    (k_state : PySem.W.keepIn K (.ref a_state) = true)
    (n_next : PySem.W.nsIn K mainGlobals "_law_next" = some (some (.ref a_next)))
    (l_next : K.lookup a_next = some ⟨oc_next, od_next, .func (PySem.W.fnOf "_law_next" "_law_next" (defArgs s_next) (defBody s_next) (defScope s_next) .none kV_next dc_next pm_next an_next cd_next ct_next), sl_next⟩)
    (c_next : PySem.W.codeIn K cd_next "_law_next" = true)
    (k_next : PySem.W.keepIn K (.ref a_next) = true)
    (n_letters : PySem.W.nsIn K mainGlobals "_law_letters" = some (some (.ref a_letters)))
    (l_letters : K.lookup a_letters = some ⟨oc_letters, od_letters, .func (PySem.W.fnOf "_law_letters" "_law_letters" (defArgs s_letters) (defBody s_letters) (defScope s_letters) .none kV_letters dc_letters pm_letters an_letters cd_letters ct_letters), sl_letters⟩)
    (c_letters : PySem.W.codeIn K cd_letters "_law_letters" = true)
    (k_letters : PySem.W.keepIn K (.ref a_letters) = true)
    (n_made : PySem.W.nsIn K mainGlobals "_law_made" = some (some (.ref a_made)))
    (l_made : K.lookup a_made = some ⟨oc_made, od_made, .func (PySem.W.fnOf "_law_made" "_law_made" (defArgs s_made) (defBody s_made) (defScope s_made) .none kV_made dc_made pm_made an_made cd_made ct_made), sl_made⟩)
    (c_made : PySem.W.codeIn K cd_made "_law_made" = true)
    (k_made : PySem.W.keepIn K (.ref a_made) = true)
    (n_faulty : PySem.W.nsIn K mainGlobals "_law_faulty" = some (some (.ref a_faulty)))
    (l_faulty : K.lookup a_faulty = some ⟨oc_faulty, od_faulty, .func (PySem.W.fnOf "_law_faulty" "_law_faulty" (defArgs s_faulty) (defBody s_faulty) (defScope s_faulty) .none kV_faulty dc_faulty pm_faulty an_faulty cd_faulty ct_faulty), sl_faulty⟩)
    (c_faulty : PySem.W.codeIn K cd_faulty "_law_faulty" = true)
    (k_faulty : PySem.W.keepIn K (.ref a_faulty) = true)
    (n_ring : PySem.W.nsIn K mainGlobals "_law_ring" = some (some (.ref a_ring)))
    (l_ring : K.lookup a_ring = some ⟨oc_ring, od_ring, .func (PySem.W.fnOf "_law_ring" "_law_ring" (defArgs s_ring) (defBody s_ring) (defScope s_ring) .none kV_ring dc_ring pm_ring an_ring cd_ring ct_ring), sl_ring⟩)
    (c_ring : PySem.W.codeIn K cd_ring "_law_ring" = true)
    (k_ring : PySem.W.keepIn K (.ref a_ring) = true)
    (n_law : PySem.W.nsIn K mainGlobals "law" = some (some (.ref a_law)))
    (l_law : K.lookup a_law = some ⟨oc_law, od_law, .func (PySem.W.fnOf "law" "law" (defArgs s_law) (defBody s_law) (defScope s_law) .none kV_law dc_law pm_law an_law cd_law ct_law), sl_law⟩)
    (c_law : PySem.W.codeIn K cd_law "law" = true)
    (k_law : PySem.W.keepIn K (.ref a_law) = true)
    (n_AnytextError : PySem.W.nsIn K mainGlobals "AnytextError" = some (some (.ref C_AnytextError)))
    (n_MachineError : PySem.W.nsIn K mainGlobals "MachineError" = some (some (.ref C_MachineError)))
    (n_ProgramError : PySem.W.nsIn K mainGlobals "ProgramError" = some (some (.ref C_ProgramError)))
    (n_BadMachine : PySem.W.nsIn K mainGlobals "BadMachine" = some (some (.ref C_BadMachine)))
    (n_BadRewriter : PySem.W.nsIn K mainGlobals "BadRewriter" = some (some (.ref C_BadRewriter)))
    (ini_BadMachine : PySem.W.findIn K (.ref C_BadMachine) "__init__" = some (some (.ref a_init)))
    (l_init : K.lookup a_init = some ⟨oc_init, od_init, .func (PySem.W.fnOf "__init__" "AnytextError.__init__" (defArgs s_init) (defBody s_init) (defScope s_init) (.ref T_init) kV_init dc_init pm_init an_init cd_init ct_init), sl_init⟩)
    (c_init : PySem.W.codeIn K cd_init "AnytextError.__init__" = true)
    (k_init : PySem.W.keepIn K (.ref a_init) = true)
    (ti_init : PySem.W.typeIn K (.ref a_init) = some (.type "function"))
    (lt_init : K.lookup T_init = some ⟨oc2_init, dd_init, .seq #[.none] nn_init, sm_init⟩)
    (i_BadMachine : PySem.W.isClsIn K C_BadMachine = true)
    (t_BadMachine : PySem.W.typeIn K (.ref C_BadMachine) = some (.type "type"))
    (e_BadMachine : PySem.W.subIn K (.ref C_BadMachine) (.type "BaseException") = some true)
    (h_BadMachine : PySem.W.hasDictIn K C_BadMachine = true)
    (i_BadRewriter : PySem.W.isClsIn K C_BadRewriter = true)
    (t_BadRewriter : PySem.W.typeIn K (.ref C_BadRewriter) = some (.type "type"))
    (e_BadRewriter : PySem.W.subIn K (.ref C_BadRewriter) (.type "BaseException") = some true)
    (h_BadRewriter : PySem.W.hasDictIn K C_BadRewriter = true)
    (i_MachineError : PySem.W.isClsIn K C_MachineError = true)
    (t_MachineError : PySem.W.typeIn K (.ref C_MachineError) = some (.type "type"))
    (e_MachineError : PySem.W.subIn K (.ref C_MachineError) (.type "BaseException") = some true)
    (h_MachineError : PySem.W.hasDictIn K C_MachineError = true)
    (i_ProgramError : PySem.W.isClsIn K C_ProgramError = true)
    (t_ProgramError : PySem.W.typeIn K (.ref C_ProgramError) = some (.type "type"))
    (e_ProgramError : PySem.W.subIn K (.ref C_ProgramError) (.type "BaseException") = some true)
    (h_ProgramError : PySem.W.hasDictIn K C_ProgramError = true)
    (l_BadMachine : K.lookup C_BadMachine = some (excClassObj nm_BadMachine q_BadMachine C_BadMachine N_BadMachine bs_BadMachine [.ref C_MachineError, .ref C_AnytextError, .type "ValueError", .type "Exception", .type "BaseException", .type "object"] true sn_BadMachine sb_BadMachine ab_BadMachine col_BadMachine dd_BadMachine m0_BadMachine m1_BadMachine m2_BadMachine m3_BadMachine m5_BadMachine "ValueError.__new__"))
    (sa_BadMachine : PySem.W.findIn K (.ref C_BadMachine) "__setattr__" = some (some (.builtin "object.__setattr__")))
    (ga_BadMachine : PySem.W.findIn K (.ref C_BadMachine) "__getattribute__" = some (some (.builtin "BaseException.__getattribute__")))
    (gg_BadMachine : PySem.W.findIn K (.ref C_BadMachine) "__getattr__" = some none)
    (nw_BadMachine : PySem.W.findIn K (.ref C_BadMachine) "what" = some none)
    (cc_BadMachine : PySem.W.findIn K (.ref C_BadMachine) "__class__" = some (some (.builtin "object.__class__")))
    (mo_BadMachine : PySem.W.mroIn K C_BadMachine (.type "object") = some true)
    (se_BadMachine : PySem.W.subIn K (.ref C_BadMachine) (.ref C_BadMachine) = some true)
    (kC_BadMachine : PySem.W.keepIn K (.ref C_BadMachine) = true)
    (s_BadMachine_BadRewriter : PySem.W.subIn K (.ref C_BadMachine) (.ref C_BadRewriter) = some false)
    (s_BadMachine_MachineError : PySem.W.subIn K (.ref C_BadMachine) (.ref C_MachineError) = some true)
    (s_BadMachine_ProgramError : PySem.W.subIn K (.ref C_BadMachine) (.ref C_ProgramError) = some false)
    (sp_B : PySem.W.specialIn K (.builtin "object.__class__") "__get__" = some (some (.builtin "getset_descriptor.__get__")))
    (tk_B : PySem.W.takesIn K (.builtin "object.__class__") = some true)
    (n_Machine : PySem.W.nsIn K mainGlobals "Machine" = some (some (.ref C_Machine)))
    (pg_Machine : PySem.W.plainGet K C_Machine Str.empty = true)
    (hd_Machine : PySem.W.hasDictIn K C_Machine = true)
    (po_Machine : PySem.W.plainOver K C_Machine = true)
    (sa_Machine : PySem.W.findIn K (.ref C_Machine) "__setattr__" = some (some (.builtin "object.__setattr__")))
    (mk_Machine : PySem.W.makesIn K C_Machine = true)
    (kc_Machine : PySem.W.keepIn K (.ref C_Machine) = true)
    (na_Machine_letters : PySem.W.findIn K (.ref C_Machine) "letters" = some none)
    (na_Machine_accepting : PySem.W.findIn K (.ref C_Machine) "accepting" = some none)
    (na_Machine_table : PySem.W.findIn K (.ref C_Machine) "table" = some none)
    (i_Machine_init : PySem.W.findIn K (.ref C_Machine) "__init__" = some (some (.ref a_Machine_init)))
    (q_Machine_init : PySem.W.isFn K (.ref a_Machine_init) = true)
    (l_Machine_init : K.lookup a_Machine_init = some ⟨oc_Machine_init, od_Machine_init, .func (PySem.W.fnOf "__init__" "Machine.__init__" (defArgs s_Machine_init) (defBody s_Machine_init) (defScope s_Machine_init) .none kV_Machine_init dc_Machine_init pm_Machine_init an_Machine_init cd_Machine_init ct_Machine_init), sl_Machine_init⟩)
    (c_Machine_init : PySem.W.codeIn K cd_Machine_init "Machine.__init__" = true)
    (k_Machine_init : PySem.W.keepIn K (.ref a_Machine_init) = true)
    (i_Machine_check : PySem.W.findIn K (.ref C_Machine) "check" = some (some (.ref a_Machine_check)))
    (q_Machine_check : PySem.W.isFn K (.ref a_Machine_check) = true)
    (l_Machine_check : K.lookup a_Machine_check = some ⟨oc_Machine_check, od_Machine_check, .func (PySem.W.fnOf "check" "Machine.check" (defArgs s_Machine_check) (defBody s_Machine_check) (defScope s_Machine_check) .none kV_Machine_check dc_Machine_check pm_Machine_check an_Machine_check cd_Machine_check ct_Machine_check), sl_Machine_check⟩)
    (c_Machine_check : PySem.W.codeIn K cd_Machine_check "Machine.check" = true)
    (k_Machine_check : PySem.W.keepIn K (.ref a_Machine_check) = true)
    (i_Machine_run : PySem.W.findIn K (.ref C_Machine) "run" = some (some (.ref a_Machine_run)))
    (q_Machine_run : PySem.W.isFn K (.ref a_Machine_run) = true)
    (l_Machine_run : K.lookup a_Machine_run = some ⟨oc_Machine_run, od_Machine_run, .func (PySem.W.fnOf "run" "Machine.run" (defArgs s_Machine_run) (defBody s_Machine_run) (defScope s_Machine_run) .none kV_Machine_run dc_Machine_run pm_Machine_run an_Machine_run cd_Machine_run ct_Machine_run), sl_Machine_run⟩)
    (c_Machine_run : PySem.W.codeIn K cd_Machine_run "Machine.run" = true)
    (k_Machine_run : PySem.W.keepIn K (.ref a_Machine_run) = true)
    (i_Machine_run_from : PySem.W.findIn K (.ref C_Machine) "run_from" = some (some (.ref a_Machine_run_from)))
    (q_Machine_run_from : PySem.W.isFn K (.ref a_Machine_run_from) = true)
    (l_Machine_run_from : K.lookup a_Machine_run_from = some ⟨oc_Machine_run_from, od_Machine_run_from, .func (PySem.W.fnOf "run_from" "Machine.run_from" (defArgs s_Machine_run_from) (defBody s_Machine_run_from) (defScope s_Machine_run_from) .none kV_Machine_run_from dc_Machine_run_from pm_Machine_run_from an_Machine_run_from cd_Machine_run_from ct_Machine_run_from), sl_Machine_run_from⟩)
    (c_Machine_run_from : PySem.W.codeIn K cd_Machine_run_from "Machine.run_from" = true)
    (k_Machine_run_from : PySem.W.keepIn K (.ref a_Machine_run_from) = true)
    (i_Machine_accepts : PySem.W.findIn K (.ref C_Machine) "accepts" = some (some (.ref a_Machine_accepts)))
    (q_Machine_accepts : PySem.W.isFn K (.ref a_Machine_accepts) = true)
    (l_Machine_accepts : K.lookup a_Machine_accepts = some ⟨oc_Machine_accepts, od_Machine_accepts, .func (PySem.W.fnOf "accepts" "Machine.accepts" (defArgs s_Machine_accepts) (defBody s_Machine_accepts) (defScope s_Machine_accepts) .none kV_Machine_accepts dc_Machine_accepts pm_Machine_accepts an_Machine_accepts cd_Machine_accepts ct_Machine_accepts), sl_Machine_accepts⟩)
    (c_Machine_accepts : PySem.W.codeIn K cd_Machine_accepts "Machine.accepts" = true)
    (k_Machine_accepts : PySem.W.keepIn K (.ref a_Machine_accepts) = true)
    (i_Machine_picture : PySem.W.findIn K (.ref C_Machine) "picture" = some (some (.ref a_Machine_picture)))
    (q_Machine_picture : PySem.W.isFn K (.ref a_Machine_picture) = true)
    (l_Machine_picture : K.lookup a_Machine_picture = some ⟨oc_Machine_picture, od_Machine_picture, .func (PySem.W.fnOf "picture" "Machine.picture" (defArgs s_Machine_picture) (defBody s_Machine_picture) (defScope s_Machine_picture) .none kV_Machine_picture dc_Machine_picture pm_Machine_picture an_Machine_picture cd_Machine_picture ct_Machine_picture), sl_Machine_picture⟩)
    (c_Machine_picture : PySem.W.codeIn K cd_Machine_picture "Machine.picture" = true)
    (k_Machine_picture : PySem.W.keepIn K (.ref a_Machine_picture) = true)
    (z_abs : PySem.W.nsIn K mainGlobals "abs" = some none)
    (z_int : PySem.W.nsIn K mainGlobals "int" = some none)
    (z_isinstance : PySem.W.nsIn K mainGlobals "isinstance" = some none)
    (z_len : PySem.W.nsIn K mainGlobals "len" = some none)
    (z_list : PySem.W.nsIn K mainGlobals "list" = some none)
    (z_max : PySem.W.nsIn K mainGlobals "max" = some none)
    (z_min : PySem.W.nsIn K mainGlobals "min" = some none)
    (z_range : PySem.W.nsIn K mainGlobals "range" = some none)
    (z_repr : PySem.W.nsIn K mainGlobals "repr" = some none)
    (z_tuple : PySem.W.nsIn K mainGlobals "tuple" = some none)
    : ∃ fd : FuncData, (∀ (s : Shared) (v : Value), BindsTo s fd ⟨[v], []⟩ [("script", v)]) ∧ ∀ base : Heap, K.In base → base.Ns mainGlobals mg → FnG l.prog w K mg base CX0 lvLaw fa fd ["script"] (spLaw K) := by
  have e := hfa.symm.trans (PySem.W.mg_of X G n_law)
  cases e
  have f_cell := fun_mk (st := s_cell) l_cell c_cell k_cell
  have b_cell := f_cell.binds (ps := ["script", "k"]) fun _ _ _ _ _ _ us hl => match us, hl with | [_, _], _ => rfl
  have f_numbers := fun_mk (st := s_numbers) l_numbers c_numbers k_numbers
  have b_numbers := f_numbers.binds (ps := ["cell", "many"]) fun _ _ _ _ _ _ us hl => match us, hl with | [_, _], _ => rfl
  have f_state := fun_mk (st := s_state) l_state c_state k_state
  have b_state := f_state.binds (ps := ["script", "start", "many"]) fun _ _ _ _ _ _ us hl => match us, hl with | [_, _, _], _ => rfl
  have f_next := fun_mk (st := s_next) l_next c_next k_next
  have b_next := f_next.binds (ps := ["state", "many"]) fun _ _ _ _ _ _ us hl => match us, hl with | [_, _], _ => rfl
  have f_letters := fun_mk (st := s_letters) l_letters c_letters k_letters
  have b_letters := f_letters.binds (ps := ["state", "most"]) fun _ _ _ _ _ _ us hl => match us, hl with | [_, _], _ => rfl
  have f_made := fun_mk (st := s_made) l_made c_made k_made
  have b_made := f_made.binds (ps := ["letters", "accepting", "table"]) fun _ _ _ _ _ _ us hl => match us, hl with | [_, _, _], _ => rfl
  have f_faulty := fun_mk (st := s_faulty) l_faulty c_faulty k_faulty
  have b_faulty := f_faulty.binds (ps := ["letters", "accepting", "table", "state"]) fun _ _ _ _ _ _ us hl => match us, hl with | [_, _, _, _], _ => rfl
  have f_ring := fun_mk (st := s_ring) l_ring c_ring k_ring
  have b_ring := f_ring.binds (ps := ["letters", "many", "step"]) fun _ _ _ _ _ _ us hl => match us, hl with | [_, _, _], _ => rfl
  have f_law := fun_mk (st := s_law) l_law c_law k_law
  have b_law := f_law.binds (ps := ["script"]) fun _ _ _ _ _ _ us hl => match us, hl with | [_], _ => rfl
  have f_Machine_init := fun_mk (st := s_Machine_init) l_Machine_init c_Machine_init k_Machine_init
  have b_Machine_init := f_Machine_init.binds (ps := ["self", "letters", "accepting", "table"]) fun _ _ _ _ _ _ us hl => match us, hl with | [_, _, _, _], _ => rfl
  have f_Machine_check := fun_mk (st := s_Machine_check) l_Machine_check c_Machine_check k_Machine_check
  have b_Machine_check := f_Machine_check.binds (ps := ["self"]) fun _ _ _ _ _ _ us hl => match us, hl with | [_], _ => rfl
  have f_Machine_run := fun_mk (st := s_Machine_run) l_Machine_run c_Machine_run k_Machine_run
  have b_Machine_run := f_Machine_run.binds (ps := ["self", "text"]) fun _ _ _ _ _ _ us hl => match us, hl with | [_, _], _ => rfl
  have f_Machine_run_from := fun_mk (st := s_Machine_run_from) l_Machine_run_from c_Machine_run_from k_Machine_run_from
  have b_Machine_run_from := f_Machine_run_from.binds (ps := ["self", "state", "text"]) fun _ _ _ _ _ _ us hl => match us, hl with | [_, _, _], _ => rfl
  have f_Machine_accepts := fun_mk (st := s_Machine_accepts) l_Machine_accepts c_Machine_accepts k_Machine_accepts
  have b_Machine_accepts := f_Machine_accepts.binds (ps := ["self", "text"]) fun _ _ _ _ _ _ us hl => match us, hl with | [_, _], _ => rfl
  have f_Machine_picture := fun_mk (st := s_Machine_picture) l_Machine_picture c_Machine_picture k_Machine_picture
  have b_Machine_picture := f_Machine_picture.binds (ps := ["self"]) fun _ _ _ _ _ _ us hl => match us, hl with | [_], _ => rfl
  have fI : FunD K "__init__" "AnytextError.__init__" (defArgs s_init) (defBody s_init) (defScope s_init) [.non] [] a_init _ := ⟨⟨oc_init, od_init, .ref T_init, kV_init, dc_init, pm_init, an_init, cd_init, ct_init, sl_init, rfl, l_init, c_init, .inr ⟨(fun z => nomatch z), T_init, _, [.none], nn_init, rfl, lt_init, rfl, .cons rfl .nil⟩, .inl rfl⟩, k_init⟩
  have bI0 := fI.binds1 (ps := ["self", "what"]) 2 1 (fun z => nomatch z) rfl fun T kV doc pm an cdv ct us its hu hi => match us, hu, its, hi with | [_, _], _, [_], _ => ⟨_, rfl, rfl⟩
  have bI : Binds K (PySem.W.fnOf "__init__" "AnytextError.__init__" (defArgs s_init) (defBody s_init) (defScope s_init) (.ref T_init) kV_init dc_init pm_init an_init cd_init ct_init) ["self", "what"] [] := by
    obtain ⟨ds, hv, hb⟩ := bI0
    cases hv
    exact hb
  let T : Txt K mg := {
    C_Machine := C_Machine, g_Machine := PySem.W.mg_of X G n_Machine, cl_Machine := ⟨pg_Machine, hd_Machine, po_Machine, sa_Machine⟩,
    na_Machine_letters := na_Machine_letters,
    na_Machine_accepting := na_Machine_accepting,
    na_Machine_table := na_Machine_table,
    a_Machine_init := a_Machine_init, d_Machine_init := _, f_Machine_init := f_Machine_init, b_Machine_init := b_Machine_init,
    mk_Machine := ⟨mk_Machine, i_Machine_init, q_Machine_init, kc_Machine⟩,
    a_Machine_check := a_Machine_check, d_Machine_check := _, f_Machine_check := f_Machine_check, b_Machine_check := b_Machine_check,
    m_Machine_check := ⟨i_Machine_check, q_Machine_check, k_Machine_check⟩,
    a_Machine_run := a_Machine_run, d_Machine_run := _, f_Machine_run := f_Machine_run, b_Machine_run := b_Machine_run,
    m_Machine_run := ⟨i_Machine_run, q_Machine_run, k_Machine_run⟩,
    a_Machine_run_from := a_Machine_run_from, d_Machine_run_from := _, f_Machine_run_from := f_Machine_run_from, b_Machine_run_from := b_Machine_run_from,
    m_Machine_run_from := ⟨i_Machine_run_from, q_Machine_run_from, k_Machine_run_from⟩,
    a_Machine_accepts := a_Machine_accepts, d_Machine_accepts := _, f_Machine_accepts := f_Machine_accepts, b_Machine_accepts := b_Machine_accepts,
    m_Machine_accepts := ⟨i_Machine_accepts, q_Machine_accepts, k_Machine_accepts⟩,
    a_Machine_picture := a_Machine_picture, d_Machine_picture := _, f_Machine_picture := f_Machine_picture, b_Machine_picture := b_Machine_picture,
    m_Machine_picture := ⟨i_Machine_picture, q_Machine_picture, k_Machine_picture⟩,
    a_cell := a_cell, d_cell := _, f_cell := f_cell, o_cell := ⟨PySem.W.mg_of X G n_cell, k_cell, b_cell⟩,
    a_numbers := a_numbers, d_numbers := _, f_numbers := f_numbers, o_numbers := ⟨PySem.W.mg_of X G n_numbers, k_numbers, b_numbers⟩,
    a_state := a_state, d_state := _, f_state := f_state, o_state := ⟨PySem.W.mg_of X G n_state, k_state, b_state⟩,
    a_next := a_next, d_next := _, f_next := f_next, o_next := ⟨PySem.W.mg_of X G n_next, k_next, b_next⟩,
    a_letters := a_letters, d_letters := _, f_letters := f_letters, o_letters := ⟨PySem.W.mg_of X G n_letters, k_letters, b_letters⟩,
    a_made := a_made, d_made := _, f_made := f_made, o_made := ⟨PySem.W.mg_of X G n_made, k_made, b_made⟩,
    a_faulty := a_faulty, d_faulty := _, f_faulty := f_faulty, o_faulty := ⟨PySem.W.mg_of X G n_faulty, k_faulty, b_faulty⟩,
    a_ring := a_ring, d_ring := _, f_ring := f_ring, o_ring := ⟨PySem.W.mg_of X G n_ring, k_ring, b_ring⟩,
    a_law := _, d_law := _, f_law := f_law, o_law := ⟨PySem.W.mg_of X G n_law, k_law, b_law⟩,
    a_init := a_init, d_init := _, T_init := T_init, f_init := fI, tI := ti_init, bI := bI,
    C_AnytextError := C_AnytextError,
    C_MachineError := C_MachineError,
    C_ProgramError := C_ProgramError,
    C_BadMachine := C_BadMachine,
    C_BadRewriter := C_BadRewriter,
    g_BadMachine := PySem.W.mg_of X G n_BadMachine,
    g_BadRewriter := PySem.W.mg_of X G n_BadRewriter,
    g_MachineError := PySem.W.mg_of X G n_MachineError,
    g_ProgramError := PySem.W.mg_of X G n_ProgramError,
    i_BadMachine := i_BadMachine, t_BadMachine := t_BadMachine, e_BadMachine := e_BadMachine, h_BadMachine := h_BadMachine,
    i_BadRewriter := i_BadRewriter, t_BadRewriter := t_BadRewriter, e_BadRewriter := e_BadRewriter, h_BadRewriter := h_BadRewriter,
    i_MachineError := i_MachineError, t_MachineError := t_MachineError, e_MachineError := e_MachineError, h_MachineError := h_MachineError,
    i_ProgramError := i_ProgramError, t_ProgramError := t_ProgramError, e_ProgramError := e_ProgramError, h_ProgramError := h_ProgramError,
    x_BadMachine := ⟨⟨⟨nm_BadMachine, q_BadMachine, N_BadMachine, bs_BadMachine, _, sn_BadMachine, sb_BadMachine, ab_BadMachine, col_BadMachine, dd_BadMachine, m0_BadMachine, m1_BadMachine, m2_BadMachine, m3_BadMachine, m5_BadMachine, l_BadMachine, by rfl⟩, sa_BadMachine, e_BadMachine, t_BadMachine, kC_BadMachine⟩, ⟨ga_BadMachine, gg_BadMachine, e_BadMachine, h_BadMachine⟩, nw_BadMachine, ini_BadMachine, i_BadMachine, cc_BadMachine, mo_BadMachine, se_BadMachine⟩,
    s_BadMachine_BadMachine := se_BadMachine,
    s_BadMachine_BadRewriter := s_BadMachine_BadRewriter,
    s_BadMachine_MachineError := s_BadMachine_MachineError,
    s_BadMachine_ProgramError := s_BadMachine_ProgramError,
    clsB := ⟨sp_B, tk_B⟩,
    nb_abs := PySem.W.mg_none_of X G z_abs,
    nb_int := PySem.W.mg_none_of X G z_int,
    nb_isinstance := PySem.W.mg_none_of X G z_isinstance,
    nb_len := PySem.W.mg_none_of X G z_len,
    nb_list := PySem.W.mg_none_of X G z_list,
    nb_max := PySem.W.mg_none_of X G z_max,
    nb_min := PySem.W.mg_none_of X G z_min,
    nb_range := PySem.W.mg_none_of X G z_range,
    nb_repr := PySem.W.mg_none_of X G z_repr,
    nb_tuple := PySem.W.mg_none_of X G z_tuple }
  exact ⟨T.d_law, fun s v => .of_eq rfl, fun base _ _ => ok_law T⟩
end AT
open PySem PySem.W PyProof.Rows
set_option maxRecDepth 100000 in
set_option maxHeartbeats 0 in
theorem PySem.Challenge.cw_anytext_k07_machines_holds : PySem.Challenge.rw_anytext_k07_machines.Holds := by
  w_on; o_law; k_head; (case hw => w_witness2)
  k_fill
  refine AT.walk_ofG (l := PySem.Challenge.rw_anytext_k07_machines) (n := 63) (k := AT.lvLaw) (x := "script") (sp := AT.spLaw) rfl (by decide) rfl ⟨rfl, by decide, by decide⟩ (fun w h Y => PySem.W.kIn_of Y) ?F (fun _ _ a ns hl _ hS => ⟨a, ns, rfl, hS, hl, fun _ => rfl⟩)
  case F =>
    intro w mg fa h KX G hmg
    refine' AT.all_mk KX G hmg ?n_cell ?l_cell ?c_cell ?k_cell ?n_numbers ?l_numbers ?c_numbers ?k_numbers ?n_state ?l_state ?c_state ?k_state ?n_next ?l_next ?c_next ?k_next ?n_letters ?l_letters ?c_letters ?k_letters ?n_made ?l_made ?c_made ?k_made ?n_faulty ?l_faulty ?c_faulty ?k_faulty ?n_ring ?l_ring ?c_ring ?k_ring ?n_law ?l_law ?c_law ?k_law ?n_AnytextError ?n_MachineError ?n_ProgramError ?n_BadMachine ?n_BadRewriter ?ini_BadMachine ?l_init ?c_init ?k_init ?ti_init ?lt_init ?i_BadMachine ?t_BadMachine ?e_BadMachine ?h_BadMachine ?i_BadRewriter ?t_BadRewriter ?e_BadRewriter ?h_BadRewriter ?i_MachineError ?t_MachineError ?e_MachineError ?h_MachineError ?i_ProgramError ?t_ProgramError ?e_ProgramError ?h_ProgramError ?l_BadMachine ?sa_BadMachine ?ga_BadMachine ?gg_BadMachine ?nw_BadMachine ?cc_BadMachine ?mo_BadMachine ?se_BadMachine ?kC_BadMachine ?s_BadMachine_BadRewriter ?s_BadMachine_MachineError ?s_BadMachine_ProgramError ?sp_B ?tk_B ?n_Machine ?pg_Machine ?hd_Machine ?po_Machine ?sa_Machine ?mk_Machine ?kc_Machine ?na_Machine_letters ?na_Machine_accepting ?na_Machine_table ?i_Machine_init ?q_Machine_init ?l_Machine_init ?c_Machine_init ?k_Machine_init ?i_Machine_check ?q_Machine_check ?l_Machine_check ?c_Machine_check ?k_Machine_check ?i_Machine_run ?q_Machine_run ?l_Machine_run ?c_Machine_run ?k_Machine_run ?i_Machine_run_from ?q_Machine_run_from ?l_Machine_run_from ?c_Machine_run_from ?k_Machine_run_from ?i_Machine_accepts ?q_Machine_accepts ?l_Machine_accepts ?c_Machine_accepts ?k_Machine_accepts ?i_Machine_picture ?q_Machine_picture ?l_Machine_picture ?c_Machine_picture ?k_Machine_picture ?z_abs ?z_int ?z_isinstance ?z_len ?z_list ?z_max ?z_min ?z_range ?z_repr ?z_tuple
    (case n_cell => k_is); (case l_cell => k_is); (case c_cell => k_is); (case k_cell => k_is); (case n_numbers => k_is); (case l_numbers => k_is)
    (case c_numbers => k_is); (case k_numbers => k_is); (case n_state => k_is); (case l_state => k_is); (case c_state => k_is); (case k_state => k_is)
    (case n_next => k_is); (case l_next => k_is); (case c_next => k_is); (case k_next => k_is); (case n_letters => k_is); (case l_letters => k_is)
    (case c_letters => k_is); (case k_letters => k_is); (case n_made => k_is); (case l_made => k_is); (case c_made => k_is); (case k_made => k_is)
    (case n_faulty => k_is); (case l_faulty => k_is); (case c_faulty => k_is); (case k_faulty => k_is); (case n_ring => k_is); (case l_ring => k_is)
    (case c_ring => k_is); (case k_ring => k_is); (case n_law => k_is); (case l_law => k_is); (case c_law => k_is); (case k_law => k_is)
    (case n_AnytextError => k_is); (case n_MachineError => k_is); (case n_ProgramError => k_is); (case n_BadMachine => k_is); (case n_BadRewriter => k_is); (case ini_BadMachine => k_is)
    (case l_init => k_is); (case c_init => k_is); (case k_init => k_is); (case ti_init => k_is); (case lt_init => k_is); (case i_BadMachine => k_is)
    (case t_BadMachine => k_is); (case e_BadMachine => k_is); (case h_BadMachine => k_is); (case i_BadRewriter => k_is); (case t_BadRewriter => k_is); (case e_BadRewriter => k_is)
    (case h_BadRewriter => k_is); (case i_MachineError => k_is); (case t_MachineError => k_is); (case e_MachineError => k_is); (case h_MachineError => k_is); (case i_ProgramError => k_is)
    (case t_ProgramError => k_is); (case e_ProgramError => k_is); (case h_ProgramError => k_is); (case l_BadMachine => k_is); (case sa_BadMachine => k_is); (case ga_BadMachine => k_is)
    (case gg_BadMachine => k_is); (case nw_BadMachine => k_is); (case cc_BadMachine => k_is); (case mo_BadMachine => k_is); (case se_BadMachine => k_is); (case kC_BadMachine => k_is)
    (case s_BadMachine_BadRewriter => k_is); (case s_BadMachine_MachineError => k_is); (case s_BadMachine_ProgramError => k_is); (case sp_B => k_is); (case tk_B => k_is); (case n_Machine => k_is)
    (case pg_Machine => k_is); (case hd_Machine => k_is); (case po_Machine => k_is); (case sa_Machine => k_is); (case mk_Machine => k_is); (case kc_Machine => k_is)
    (case na_Machine_letters => k_is); (case na_Machine_accepting => k_is); (case na_Machine_table => k_is); (case i_Machine_init => k_is); (case q_Machine_init => k_is); (case l_Machine_init => k_is)
    (case c_Machine_init => k_is); (case k_Machine_init => k_is); (case i_Machine_check => k_is); (case q_Machine_check => k_is); (case l_Machine_check => k_is); (case c_Machine_check => k_is)
    (case k_Machine_check => k_is); (case i_Machine_run => k_is); (case q_Machine_run => k_is); (case l_Machine_run => k_is); (case c_Machine_run => k_is); (case k_Machine_run => k_is)
    (case i_Machine_run_from => k_is); (case q_Machine_run_from => k_is); (case l_Machine_run_from => k_is); (case c_Machine_run_from => k_is); (case k_Machine_run_from => k_is); (case i_Machine_accepts => k_is)
    (case q_Machine_accepts => k_is); (case l_Machine_accepts => k_is); (case c_Machine_accepts => k_is); (case k_Machine_accepts => k_is); (case i_Machine_picture => k_is); (case q_Machine_picture => k_is)
    (case l_Machine_picture => k_is); (case c_Machine_picture => k_is); (case k_Machine_picture => k_is); (case z_abs => k_is); (case z_int => k_is); (case z_isinstance => k_is)
    (case z_len => k_is); (case z_list => k_is); (case z_max => k_is); (case z_min => k_is); (case z_range => k_is); (case z_repr => k_is)
    (case z_tuple => k_is)

