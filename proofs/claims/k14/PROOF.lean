import PyProof.Rows.All
import Wide.All
import OpenK.AllK
import Wide.FinOn
import HandS.ForMost
import HandS.ForExc
import HandS.Walk
import HandS.Evl
import HandS.ExcInit
import HandS.ExcField
import HandS.ExcIs
import HandS.IsInst
import HandS.RaiseMore
import HandS.TupAny
import HandS.TryOnly
import HandS.Defaults
import HandS.Steps
import KE.KExcIs
import HandS.TupMul
import PyProof.ReprRoads
import HandS.Replace
import KE.DataMinMax
import KE.DataCmp
import PyProof.StrBlock2
import HandS.Ends
import HandS.Style
import KE.KDictDisplayH
import PyProof.Draws
import PyProof.EnumMake
import PyProof.WalksMore
import HandS.Zip0
import HandS.DictComp
import HandS.TupLe
import PySem.Challenge.RW_anytext_k14_finitely_many
set_option Elab.async false
set_option linter.all false
set_option maxRecDepth 100000
set_option maxHeartbeats 4000000
/-! own words: readings step by step, operators by several kinds of values -/
namespace AT
open PySem PySem.Spec PyProof.Rows L2
abbrev Ex := Evl.Ex
section
variable {X : Cx} {f : Value → Value → Sem Value} {r r' : R2}
theorem OpR.or (h : OpR X f r) (h' : OpR X f r') : OpR X f (fun x y H Q => r x y H Q ∨ r' x y H Q) := by
  intro pins s σ H x y v u Q I rx ry q
  rcases q with q | q
  · exact h pins s σ H x y v u Q I rx ry q
  · exact h' pins s σ H x y v u Q I rx ry q
theorem CallR.or {f : Value} {r r' : List V → Hp → VK → Prop} (h : CallR X f r) (h' : CallR X f r') : CallR X f (fun x H Q => r x H Q ∨ r' x H Q) := by
  intro pins s σ H x us Q I rx q
  rcases q with q | q
  · exact h pins s σ H x us Q I rx q
  · exact h' pins s σ H x us Q I rx q
end
/-! ### operators -/
/-- + of ints, of texts, of lists -/
def oAdd (K : PySem.W.Frag) : R2 := fun x y H Q => (rI0 (fun i j => .int (i + j)) x y H Q) ∨ (∃ i j : Str, x = .str i ∧ y = .str j ∧ i.length + j.length ≤ sizeLine ∧ Q (.str (i ++ j)) H) ∨ rCat x y H Q ∨ rCatT K x y H Q
theorem op_addP {X : Cx} : OpR X (binaryOp .Add) (oAdd X.K) := OpR.or op_add (OpR.or op_add_str (OpR.or op_cat op_catT))
def oSub : R2 := rI0 fun i j => .int (i - j)
theorem op_subP {X : Cx} : OpR X (binaryOp .Sub) oSub := op_sub
def oMul : R2 := rI CMul fun i j => .int (i * j)
theorem op_mulP {X : Cx} : OpR X (binaryOp .Mult) oMul := op_mul
def oMod : R2 := rI (fun _ j => j ≠ 0) fun i j => .int (i.fmod j)
theorem op_modP {X : Cx} : OpR X (binaryOp .Mod) oMod := op_modN
def oDiv : R2 := rI CDivN fun i j => .int (i.fdiv j)
theorem op_divP {X : Cx} : OpR X (binaryOp .FloorDiv) oDiv := op_fdivN
def oPow : R2 := rI CPow fun i j => .int (i ^ j.toNat)
theorem op_powP {X : Cx} : OpR X (binaryOp .Pow) oPow := op_pow
def oLt : R2 := rI0 fun i j => .bl (decide (i < j))
def oLe : R2 := rI0 fun i j => .bl (decide (i ≤ j))
def oGt : R2 := rI0 fun i j => .bl (decide (j < i))
def oGe : R2 := rI0 fun i j => .bl (decide (j ≤ i))
theorem op_ltP {X : Cx} : OpR X (compareOp .Lt) oLt := op_lt
theorem op_leP {X : Cx} : OpR X (compareOp .LtE) oLe := op_le
theorem op_gtP {X : Cx} : OpR X (compareOp .Gt) oGt := op_gt
theorem op_geP {X : Cx} : OpR X (compareOp .GtE) oGe := op_ge
/-- == of ints, bools, texts; of data -/
def oEq (K : PySem.W.Frag) : R2 := fun x y H Q => rEq x y H Q ∨ rEqD K x y H Q
def oNe (K : PySem.W.Frag) : R2 := fun x y H Q => rNe x y H Q ∨ rNeD K x y H Q
theorem op_eqP {X : Cx} (hu : X.A.units + 64 < cLine) : OpR X (compareOp .Eq) (oEq X.K) := OpR.or op_eq (op_eqD hu)
theorem op_neP {X : Cx} (hu : X.A.units + 64 < cLine) : OpR X (compareOp .NotEq) (oNe X.K) := OpR.or op_ne (op_neD hu)

/-! ### reading, step by step -/
section rd
variable {K : PySem.W.Frag} {σ : L2.St} {H : Hp} {Q : VK} {QB : Bool → Hp → Prop} {QL : List V → Hp → Prop} {D : Ends} {ta tb tc te to : TE} {tt uu : TT} {tl : TA} {t u : TS} {g : TG} {i : Nat} {v w x y : V} {r r' : R2} {QS : L2.St → Hp → Prop}
theorem rd_seq (h : t { D with nx := u D } σ H) : tSeq t u D σ H := h
theorem rd_asg (h : te σ H fun x H1 => g x σ H1 D.nx) : tAsg te g D σ H := h
theorem rd_name (h : QS (σ.set i (some v)) H) : gName i v σ H QS := h
theorem rd_var (e : σ[i]? = some (some v)) (h : Q v H) : tVar i σ H Q := ⟨v, e, h⟩
theorem rd_c (h : Q v H) : tC v σ H Q := h
theorem rd_op (h : ta σ H fun x H1 => tb σ H1 fun y H2 => r x y H2 Q) : tOp r ta tb σ H Q := h
theorem rd_ret (h : te σ H D.rt) : tRet te D σ H := h
theorem rd_retN (h : D.rt .non H) : tRetN D σ H := h
theorem rd_if (h : tt σ H fun b H1 => if b = true then t D σ H1 else u D σ H1) : tIfS tt t u D σ H := h
theorem rd_ife (h : tt σ H fun b H1 => if b = true then ta σ H1 Q else tb σ H1 Q) : tIf tt ta tb σ H Q := h
theorem rd_next (h : D.nx σ H) : tNext D σ H := h
theorem rd_drop (h : te σ H fun _ H1 => D.nx σ H1) : tDrop te D σ H := h
theorem rd_test (h : te σ H fun x H' => ∃ k, x = .bl k ∧ QB k H') : tTest te σ H QB := h
theorem rd_tB (h : te σ H fun x H' => ∃ k, x = .bl k ∧ QB k H') : tB te σ H QB := h
theorem rd_bl {b : Bool} {P : Bool → Prop} (h : P b) : ∃ k, V.bl b = .bl k ∧ P k := ⟨b, rfl, h⟩
theorem rd_not (h : tt σ H fun c H1 => QB (!c) H1) : tNot tt σ H QB := h
theorem rd_and (h : tt σ H fun c H1 => if c = true then uu σ H1 QB else QB false H1) : tAnd tt uu σ H QB := h
theorem rd_or (h : tt σ H fun c H1 => if c = true then QB true H1 else uu σ H1 QB) : tOr tt uu σ H QB := h
theorem rd_nil (h : QL [] H) : tNil σ H QL := h
theorem rd_cons (h : ta σ H fun x H1 => tl σ H1 fun xs H2 => QL (x :: xs) H2) : tCons ta tl σ H QL := h
theorem rd_lst (h : tl σ H fun xs H1 => xs.length ≤ sizeLine ∧ ∀ p, H1 p = none → Q (.ref p) (upd H1 p (.lst xs))) : tLst tl σ H Q := h
theorem rd_tup (h : tl σ H fun xs H1 => xs.length ≤ sizeLine ∧ ∀ p, H1 p = none → Q (.ref p) (upd H1 p (.tup xs))) : tTup tl σ H Q := h
theorem rd_cb {rc : List V → Hp → VK → Prop} (h : tl σ H fun vs H1 => rc vs H1 Q) : tCB rc tl σ H Q := h
theorem rd_chain (h : ta σ H fun x H1 => tb σ H1 fun y H2 => r x y H2 fun z H3 => ∃ k, z = .bl k ∧ if k = true then tc σ H3 fun w H4 => r' y w H4 Q else Q (.bl false) H3) : tChain r r' ta tb tc σ H Q := h
theorem rd_call {sp : Sp} {dvs : List V} {E : XK} (h : tl σ H fun vs H1 => sp (vs ++ dvs) H1 Q E) : tCall sp dvs E tl σ H Q := h
theorem rd_iteT {A B : Prop} (h : A) : if true = true then A else B := iteT h
theorem rd_iteF {A B : Prop} (h : B) : if false = true then A else B := iteF h
theorem rd_itet {A B : Prop} {c : Bool} (e : c = true) (h : A) : if c = true then A else B := by rw [e]; exact iteT h
theorem rd_itef {A B : Prop} {c : Bool} (e : c = false) (h : B) : if c = true then A else B := by rw [e]; exact iteF h
theorem rd_ite {A B : Prop} {c : Bool} (h1 : c = true → A) (h2 : c = false → B) : if c = true then A else B := by
  cases c with
  | true => exact iteT (h1 rfl)
  | false => exact iteF (h2 rfl)
theorem rd_iteD {A B p : Prop} [Decidable p] (h1 : p → A) (h2 : ¬ p → B) : if decide p = true then A else B := rd_ite (fun e => h1 (of_decide_eq_true e)) fun e => h2 (of_decide_eq_false e)
theorem rd_iteN {A B p : Prop} [Decidable p] (h1 : ¬ p → A) (h2 : p → B) : if (!decide p) = true then A else B := rd_ite (fun e => h1 (by simpa using e)) fun e => h2 (by simpa using e)
/-! ints -/
variable {a b : Int}
theorem rd_addI (h : Q (.int (a + b)) H) : oAdd K (.int a) (.int b) H Q := .inl ⟨a, b, rfl, rfl, h⟩
theorem rd_subI (h : Q (.int (a - b)) H) : oSub (.int a) (.int b) H Q := ⟨a, b, rfl, rfl, h⟩
theorem rd_mulI (c : CMul a b) (h : Q (.int (a * b)) H) : oMul (.int a) (.int b) H Q := ⟨a, b, rfl, rfl, c, h⟩
theorem rd_modI (c : b ≠ 0) (h : Q (.int (a.fmod b)) H) : oMod (.int a) (.int b) H Q := ⟨a, b, rfl, rfl, c, h⟩
theorem rd_divI (c : CDivN a b) (h : Q (.int (a.fdiv b)) H) : oDiv (.int a) (.int b) H Q := ⟨a, b, rfl, rfl, c, h⟩
theorem rd_powI (c : CPow a b) (h : Q (.int (a ^ b.toNat)) H) : oPow (.int a) (.int b) H Q := ⟨a, b, rfl, rfl, c, h⟩
theorem rd_lt (h : Q (.bl (decide (a < b))) H) : oLt (.int a) (.int b) H Q := ⟨a, b, rfl, rfl, h⟩
theorem rd_le (h : Q (.bl (decide (a ≤ b))) H) : oLe (.int a) (.int b) H Q := ⟨a, b, rfl, rfl, h⟩
theorem rd_gt (h : Q (.bl (decide (b < a))) H) : oGt (.int a) (.int b) H Q := ⟨a, b, rfl, rfl, h⟩
theorem rd_ge (h : Q (.bl (decide (b ≤ a))) H) : oGe (.int a) (.int b) H Q := ⟨a, b, rfl, rfl, h⟩
theorem rd_eqI (h : Q (.bl (decide (a = b))) H) : oEq K (.int a) (.int b) H Q := .inl ⟨rfl, by
  have e : decide (V.int a = V.int b) = decide (a = b) := decide_eq_decide.mpr ⟨fun z => V.int.inj z, fun z => by rw [z]⟩
  rw [e]; exact h⟩
theorem rd_neI (h : Q (.bl (!decide (a = b))) H) : oNe K (.int a) (.int b) H Q := .inl ⟨rfl, by
  have e : decide (V.int a = V.int b) = decide (a = b) := decide_eq_decide.mpr ⟨fun z => V.int.inj z, fun z => by rw [z]⟩
  rw [e]; exact h⟩
theorem rd_eqS {x y : Str} (h : Q (.bl (decide (x = y))) H) : oEq K (.str x) (.str y) H Q := .inl ⟨rfl, by
  have e : decide (V.str x = V.str y) = decide (x = y) := decide_eq_decide.mpr ⟨fun z => V.str.inj z, fun z => by rw [z]⟩
  rw [e]; exact h⟩
theorem rd_neS {x y : Str} (h : Q (.bl (!decide (x = y))) H) : oNe K (.str x) (.str y) H Q := .inl ⟨rfl, by
  have e : decide (V.str x = V.str y) = decide (x = y) := decide_eq_decide.mpr ⟨fun z => V.str.inj z, fun z => by rw [z]⟩
  rw [e]; exact h⟩
theorem rd_addS {x y : Str} (c : x.length + y.length ≤ sizeLine) (h : Q (.str (x ++ y)) H) : oAdd K (.str x) (.str y) H Q := .inr (.inl ⟨x, y, rfl, rfl, c, h⟩)
theorem rd_cat {l m : Addr} {xs ys : List V} (h1 : H l = some (.lst xs)) (h2 : H m = some (.lst ys)) (c : xs.length + ys.length ≤ sizeLine) (h : ∀ p, H p = none → Q (.ref p) (upd H p (.lst (xs ++ ys)))) : oAdd K (.ref l) (.ref m) H Q := .inr (.inr (.inl ⟨l, m, xs, ys, rfl, rfl, h1, h2, c, h⟩))
/-! calls of built-ins -/
end rd
/-! ### heaps -/
theorem ex_upd {H0 H : Hp} {p : Addr} {o : HO} (e : Ex H0 H) (h : H p = none) : Ex H0 (upd H p o) := fun a u q => by
  rw [upd_ne (ne_of_none (e a u q) h)]
  exact e a u q
theorem sq_upd {K : PySem.W.Frag} {H : Hp} {a p : Addr} {o : HO} {xs : List V} (hp : H p = none) (h : SqL K H a xs) : SqL K (upd H p o) a xs := Evl.ex_l (Evl.Ex.new hp) h
theorem sqt_upd {K : PySem.W.Frag} {H : Hp} {a p : Addr} {o : HO} {xs : List V} (hp : H p = none) (h : SqT K H a xs) : SqT K (upd H p o) a xs := Evl.ex_t (Evl.Ex.new hp) h
theorem at_upd {H : Hp} {a p : Addr} {o u : HO} (hp : H p = none) (h : H a = some u) : upd H p o a = some u := by
  rw [upd_ne (ne_of_none h hp)]; exact h

/-! ### more operators: in, len, slices, what is walked, repr -/
section
variable {X : Cx}
def oIn (K : PySem.W.Frag) : R2 := fun x y H Q => (∃ (c : Nat) (z : Str), x = .str ⟨#[c]⟩ ∧ y = .str z ∧ Q (.bl (decide (c ∈ z.cps.toList))) H) ∨ rIn K false x y H Q
def oNotIn (K : PySem.W.Frag) : R2 := fun x y H Q => (∃ (c : Nat) (z : Str), x = .str ⟨#[c]⟩ ∧ y = .str z ∧ Q (.bl (!decide (c ∈ z.cps.toList))) H) ∨ rIn K true x y H Q
theorem op_inP : OpR X (compareOp .In) (oIn X.K) := OpR.or op_in_sign op_in_seq
theorem op_notInP : OpR X (compareOp .NotIn) (oNotIn X.K) := OpR.or op_notIn_sign op_notIn_seq
def cLen (K : PySem.W.Frag) : List V → Hp → VK → Prop := fun xs H Q => (∃ x n, xs = [x] ∧ LenV K x H n ∧ Q (.int n) H) ∨ ∃ a kvs, xs = [V.ref a] ∧ H a = some (.dK kvs) ∧ Q (.int kvs.length) H
theorem call_lenP : CallR X (.builtin "len") (cLen X.K) := CallR.or call_len call_lenD
def cInt : List V → Hp → VK → Prop := fun xs H Q => (∃ i, xs = [.int i] ∧ Q (.int i) H) ∨ ∃ k, xs = [.bl k] ∧ Q (.int (if k then 1 else 0)) H
theorem call_intP : CallR X (.type "int") cInt := call_int1
def cAbs : List V → Hp → VK → Prop := fun xs H Q => ∃ i, xs = [.int i] ∧ Q (.int (if i < 0 then -i else i)) H
theorem call_absP : CallR X (.builtin "abs") cAbs := call_abs
def oSl (K : PySem.W.Frag) : V → Option Int → Option Int → Hp → VK → Prop := fun x lo hi H Q => rSlL K x lo hi H Q ∨ rSlS x lo hi H Q ∨ rSlA K x lo hi H Q
theorem sl_P : SlR X (oSl X.K) := SlR.or sl_list (SlR.or sl_str sl_tupA)
theorem PI.or {tg iter : Expr} {w w' : TI} (h : PI X tg iter w) (h' : PI X tg iter w') : PI X tg iter (fun σ H R => w σ H R ∨ w' σ H R) :=
  ⟨fun pins s σ H R I q => q.elim (h.run pins s σ H R I) (h'.run pins s σ H R I)⟩
def iAny (K : PySem.W.Frag) (te : TE) : TI := fun σ H R => iList K te σ H R ∨ iTup K te σ H R ∨ iStr te σ H R
theorem pi_any {tg e : Expr} {te : TE} (he : PE X e te) : PI X tg e (iAny X.K te) := PI.or (pi_list he) (PI.or (pi_tup he) (pi_str he))
theorem call_repr_bl : CallR X (.builtin "repr") (fun xs H Q => ∃ b, xs = [.bl b] ∧ Q (.str (if b then "True" else "False")) H) := by
  intro pins s σ H xs us Q I r h
  obtain ⟨b, rfl, q⟩ := h
  obtain ⟨u, rfl, ru⟩ := vals1 r
  cases (show u = Value.bool b from ru)
  exact PySem.P.repr_of_bool ⟨.str _, H, I.tok _, ⟨_, rfl⟩, q⟩
def cRepr : List V → Hp → VK → Prop := fun xs H Q => (∃ i, xs = [.int i] ∧ i.natAbs.log2 < 1920 ∧ Q (.str (toString i)) H) ∨ ∃ b, xs = [.bl b] ∧ Q (.str (if b then "True" else "False")) H
theorem call_reprP : CallR X (.builtin "repr") cRepr := CallR.or SkE.call_repr_int call_repr_bl
end
/-! ### own defs -/
/-- the def named x stands at f; all its parameters are written at a call -/
structure Own (K : PySem.W.Frag) (mg : Str → Option Value) (x : Str) (f : Addr) (fd : FuncData) (ps : List Str) : Prop where
  g : mg x = some (.ref f)
  k : PySem.W.keepIn K (.ref f) = true
  b : Binds K fd ps []
section
variable {X : Cx} {k : Nat} {f : Addr} {fd : FuncData} {ps : List Str} {sp : Sp} {x : Str} {p pos : Pos} {e : Expr} {es : List Expr} {t : TA}
def tCalled (sp : Sp) (t : TA) : TE := fun σ H Q => t σ H fun vs H1 => sp vs H1 Q E0
/-- a call of a def that raises nothing -/
theorem pe_callE (F : FnOk X.prog X.w X.K X.mg X.base CX0 k f fd ps sp) (hr : Room k X.A) (O : Own X.K X.mg x f fd ps) (ha : PA X (e :: es) t) (hg : Gl X x := by rfl)
    (hdb : (x == ("__debug__" : Str)) = false := by decide) (he : starEach (e :: es) X.env = (false, eval e X.env) :: starEach es X.env := by rfl) (hpl : (backTo pos (starEach es X.env)).any (·.1) = false := by rfl) :
    PE X (.Call (.Name x p) (e :: es) [] pos) (tCalled sp t) := pe_callS (E := fun _ => E0) F hr hg O.g O.k O.b (fun _ _ _ _ _ _ _ h => h.elim) ha hdb he hpl
def tCalledR (sp : Sp) (W : WX) (t : TA) : TE := fun σ H Q => t σ H fun vs H1 => sp vs H1 Q fun c d H2 => W c d σ H2
/-- a call of a def that may raise -/
theorem pe_callR {W : WX} (F : FnOk X.prog X.w X.K X.mg X.base (L2.CX X.prog X.w) k f fd ps sp) (hr : Room k X.A) (O : Own X.K X.mg x f fd ps) (tk : Takes X W) (ha : PA X (e :: es) t) (hg : Gl X x := by rfl)
    (hdb : (x == ("__debug__" : Str)) = false := by decide) (he : starEach (e :: es) X.env = (false, eval e X.env) :: starEach es X.env := by rfl) (hpl : (backTo pos (starEach es X.env)).any (·.1) = false := by rfl) :
    PE X (.Call (.Name x p) (e :: es) [] pos) (tCalledR sp W t) := pe_callS (E := WE W) F hr hg O.g O.k O.b (fun σ => passAt tk σ) ha hdb he hpl
end
/-! ### exceptions with the one attribute «what» -/
/-- the __init__ of the family: self.what = what -/
def spInit (K : PySem.W.Frag) : Sp := fun vs H Q _ => ∃ (a C : Addr) (v : V), vs = [.ref a, v] ∧ OexC K C ∧ PySem.W.findIn K (.ref C) "what" = some none ∧ H a = some (exo a C none) ∧
  ∀ dx, H dx = none → dx ≠ a → Q .non (upd (upd H dx (exd dx [("what", v)])) a (exo a C (some dx)))
/-- what the written part says of such a class -/
structure ErrX (K : PySem.W.Frag) (C fI : Addr) : Prop where
  ox : OexC K C
  xf : XfC K C
  nw : PySem.W.findIn K (.ref C) "what" = some none
  ini : PySem.W.findIn K (.ref C) "__init__" = some (some (.ref fI))
  cl : PySem.W.isClsIn K C = true
  cc : PySem.W.findIn K (.ref C) "__class__" = some (some (.builtin "object.__class__"))
  mo : PySem.W.mroIn K C (.type "object") = some true
  se : PySem.W.subIn K (.ref C) (.ref C) = some true
/-- of the builtin that tells an object's class -/
structure ClsB (K : PySem.W.Frag) : Prop where
  sp : PySem.W.specialIn K (.builtin "object.__class__") "__get__" = some (some (.builtin "getset_descriptor.__get__"))
  tk : PySem.W.takesIn K (.builtin "object.__class__") = some true
theorem mk_what {K : PySem.W.Frag} {C fI : Addr} {v : V} {H1 : Hp} {Q : XK} {vs : List V} (T : ErrX K C fI) (ev : vs = [v]) (h : ∀ d, H1 d = none → Q (.ref C) (some d) (upd H1 d (.xd [("what", v)]))) :
    vs.length ≤ 1000 ∧ ∀ a, H1 a = none → spInit K (.ref a :: (vs ++ [])) (upd H1 a (exo a C none))
      (fun u H2 => u = .non ∧ ∃ (d : Addr) (fs : List (Str × V)), H2 a = some (exo a C (some d)) ∧ H2 d = some (exd d fs) ∧ H1 d = none ∧ Q (.ref C) (some d) (upd (del H2 a) d (.xd fs))) (fun _ _ _ => False) := by
  subst ev
  refine ⟨by show 1 ≤ 1000; decide, fun a ha => ⟨a, C, v, rfl, T.ox, T.nw, upd_same, fun dx hdx ne => ⟨rfl, dx, [("what", v)], upd_same, ?_, ?_, ?_⟩⟩⟩
  · rw [upd_ne ne, upd_same]
  · rw [upd_ne ne] at hdx
    exact hdx
  · rw [upd_ne ne] at hdx
    have e : upd (del (upd (upd (upd H1 a (exo a C none)) dx (exd dx [("what", v)])) a (exo a C (some dx))) a) dx (.xd [("what", v)]) = upd H1 dx (.xd [("what", v)]) := by
      funext b
      by_cases h1 : b = dx
      · rw [h1, upd_same, upd_same]
      · rw [upd_ne h1, upd_ne h1]
        by_cases h2 : b = a
        · rw [h2, del_same, ha]
        · rw [del_ne h2, upd_ne h2, upd_ne h1, upd_ne h2]
    rw [e]
    exact h dx hdx
/-- raise C(e) -/
def tRaised (C : Addr) (W : WX) (ta : TA) : TS := fun _ σ H => ta σ H fun vs H1 => ∃ v, vs = [v] ∧ ∀ d, H1 d = none → W (.ref C) (some d) σ (upd H1 d (.xd [("what", v)]))
section
variable {X : Cx} {C fI : Addr} {fd : FuncData} {x : Str} {p pos pos2 : Pos} {e : Expr} {ta : TA} {W : WX}
theorem PA.imp {es : List Expr} {t t' : TA} (h : PA X es t) (hi : ∀ σ H Q, t' σ H Q → t σ H Q) : PA X es t' := ⟨fun pos pins s σ H Q I q => h.run pos pins s σ H Q I (hi σ H Q q)⟩
theorem PS.imp {st : Stmt} {t t' : TS} (h : PS X st t) (hi : ∀ D σ H, t' D σ H → t D σ H) : PS X st t' := ⟨fun pins s σ H D I q => h.run pins s σ H D I (hi D σ H q)⟩
/-- a reading is monotone in its wish -/
def MonoA (t : TA) : Prop := ∀ σ H (Q Q' : List V → Hp → Prop), (∀ vs H1, Q vs H1 → Q' vs H1) → t σ H Q → t σ H Q'
theorem ps_raiseW (hc : X.calm = true) (T : ErrX X.K C fI) (G : FnOk X.prog X.w X.K X.mg X.base CX0 1 fI fd ["self", "what"] (spInit X.K)) (tI : PySem.W.typeIn X.K (.ref fI) = some (.type "function")) (bI : Binds X.K fd ["self", "what"] []) (hr : Room 2 X.A) (hm : X.mg x = some (.ref C))
    (tk : Takes X W) (ha : PA X (e :: []) ta) (mo : MonoA ta) (hg : Gl X x := by rfl) (hdb : (x == ("__debug__" : Str)) = false := by decide)
    (he : starEach (e :: []) X.env = (false, eval e X.env) :: starEach [] X.env := by rfl) (hpl : (backTo pos (starEach [] X.env)).any (·.1) = false := by rfl) :
    PS X (.Raise (some (.Call (.Name x p) (e :: []) [] pos)) none pos2) (tRaised C W ta) := by
  refine PS.imp (ps_raise hc tk (pmk_oex (pos := pos) T.ox T.ini tI G hr bI .nil pass0 hg hm ha hdb he hpl)) fun D σ H q => ?_
  refine mo σ H _ _ (fun vs H1 q => ?_) q
  obtain ⟨v, ev, h⟩ := q
  exact mk_what (Q := fun c d H' => W c d σ H') T ev h
theorem MonoA.nil : MonoA tNil := fun _ _ _ _ h q => h _ _ q
theorem MonoA.one {te : TE} (m : ∀ σ H (Q Q' : VK), (∀ v H1, Q v H1 → Q' v H1) → te σ H Q → te σ H Q') : MonoA (tCons te tNil) := fun σ H Q Q' h q => m σ H _ _ (fun v H1 z => h _ _ z) q
theorem mono_var {i : Nat} : ∀ σ H (Q Q' : VK), (∀ v H1, Q v H1 → Q' v H1) → tVar i σ H Q → tVar i σ H Q' := fun _ _ _ _ h ⟨v, e, q⟩ => ⟨v, e, h _ _ q⟩
theorem mono_c {v : V} : ∀ σ H (Q Q' : VK), (∀ v H1, Q v H1 → Q' v H1) → tC v σ H Q → tC v σ H Q' := fun _ _ _ _ h q => h _ _ q
end
/-- isinstance(e, c), isinstance(e, (c, ..)): e the exception that the suite holds -/
def cIsE (K : PySem.W.Frag) (D a dd : Addr) : List V → Hp → VK → Prop := fun xs H Q => ∃ (fs : List (Str × V)) (b : Bool), H dd = some (.xd fs) ∧
  ((∃ (c : V) (cv : Value), xs = [.ref a, c] ∧ ClsV c cv ∧ PySem.W.kitOne K (.ref D) cv = some b) ∨ ∃ (tp : Addr) (cs : List V) (us : List Value), xs = [.ref a, .ref tp] ∧ H tp = some (.tup cs) ∧ Paired ClsV cs us ∧ PySem.W.kitAny K (.ref D) us = some b) ∧ Q (.bl b) H
theorem call_isX {X : Cx} {a D dd fI : Addr} {oe : Obj} {pn : List (Addr × Obj)} (T : ErrX X.K D fI) (B : ClsB X.K) (hz : Zc (.ref D) (some dd) oe) (hf : ∃ vs, oe.data = .fields vs) : CallR (X.suite a ((a, oe) :: pn)) (.builtin "isinstance") (cIsE X.K D a dd) := by
  intro pins s σ H xs us Q I r h
  obtain ⟨fs, b, hdd, hc, q⟩ := h
  obtain ⟨mA, hns, _⟩ := (show ObjOk X.prog X.w H s.heap dd (.xd fs) from I.hok dd _ hdd)
  obtain ⟨od, ho, _⟩ := lookIn_ns hns
  obtain ⟨hget, _⟩ := I.pin (a, oe) (List.mem_append.mpr (.inl List.mem_cons_self))
  obtain ⟨vs, hv⟩ := hf
  have J : PySem.W.InstAt s.heap a oe D (some od) := ⟨hget, hz.1, by unfold PySem.W.notCls; rw [hv] <;> rfl, by rw [hz.2]; exact ho⟩
  have Z : PySem.W.KitX X.K (.ref a) (.ref D) (fun h => PySem.W.InstAt h a oe D (some od)) := PySem.W.kitx_exc T.cl T.xf.ga T.xf.gg T.xf.exC T.cc B.sp B.tk T.mo
  rcases hc with ⟨c, cv, rfl, hcv, e⟩ | ⟨tp, cs, ws, rfl, hT, hcs, e⟩
  · obtain ⟨u1, u2, rfl, r1, r2⟩ := vals2 r
    cases (show u1 = Value.ref a from r1)
    have e2 := hcv.eq r2
    subst e2
    exact PySem.W.kia_one Z I.kIn J e (fun z => nomatch z) fun tk => ⟨.bl b, H, I.tok tk, rfl, q⟩
  · obtain ⟨u1, u2, rfl, r1, r2⟩ := vals2 r
    cases (show u1 = Value.ref a from r1)
    cases (show u2 = Value.ref tp from r2)
    obtain ⟨_, its, rv, o, h1, h2, n, h3⟩ := (show ObjOk X.prog X.w H s.heap tp (.tup cs) from I.hok tp _ hT)
    have e3 := ClsV.all hcs rv
    subst e3
    obtain ⟨oc, od', dt, sl⟩ := o
    simp only at h2 h3
    subst h2 h3
    exact PySem.W.kia_tup Z I.kIn J h1 e (fun z => nomatch z) fun tk => ⟨.bl b, H, I.tok tk, rfl, q⟩
/-- an own class or a class of Python's beside it: what isinstance says -/
theorem kit_ref {K : PySem.W.Frag} {D C fI : Addr} {b : Bool} (T : ErrX K D fI) (cl : PySem.W.isClsIn K C = true) (ty : PySem.W.typeIn K (.ref C) = some (.type "type")) (s : PySem.W.subIn K (.ref D) (.ref C) = some b) : PySem.W.kitOne K (.ref D) (.ref C) = some b := by
  by_cases e : D = C
  · subst e
    rw [T.se] at s
    obtain rfl : true = b := Option.some.inj s
    unfold PySem.W.kitOne
    rw [if_pos (by simp)]
  · unfold PySem.W.kitOne
    rw [if_neg (by simp [e])]
    show (if ((PySem.W.clsIn K C).isSome && PySem.W.typeIn K (.ref C) == some (.type "type")) = true then PySem.W.subIn K (.ref D) (.ref C) else none) = some b
    have e1 : (PySem.W.clsIn K C).isSome = true := cl
    rw [e1, ty, s]
    rfl
theorem kit_bt {K : PySem.W.Frag} {D : Addr} {n : String} {b : Bool} (m : PySem.W.kitMeta n = true) (s : PySem.W.subIn K (.ref D) (.type n) = some b) : PySem.W.kitOne K (.ref D) (.type n) = some b := by
  unfold PySem.W.kitOne
  rw [if_neg (by simp)]
  show (if PySem.W.kitMeta n = true then PySem.W.subIn K (.ref D) (.type n) else none) = some b
  rw [if_pos m, s]

theorem PSs.exi {ι : Type} {X : Cx} {st : List Stmt} {P : ι → Prop} {t : ι → TS} (h : ∀ i, P i → PSs X st (t i)) : PSs X st (fun D σ H => ∃ i, P i ∧ t i D σ H) :=
  ⟨fun pins s σ H D I ⟨i, p, q⟩ => (h i p).run pins s σ H D I q⟩
/-- what a suite knows of its exception: its class, its dict, where the family's __init__ stands -/
structure Caught (K : PySem.W.Frag) (cls : Value) (d : Option Addr) (i : Addr × Addr × Addr) : Prop where
  c : cls = .ref i.1
  e : d = some i.2.1
  x : ErrX K i.1 i.2.2
theorem Caught.z {K : PySem.W.Frag} {cls : Value} {d : Option Addr} {i : Addr × Addr × Addr} {oe : Obj} (h : Caught K cls d i) (hz : Zc cls d oe) : Zc (.ref i.1) (some i.2.1) oe := ⟨hz.1.trans h.c, hz.2.trans h.e⟩
/-! ### reading of calls -/
section
variable {K : PySem.W.Frag} {σ : L2.St} {H : Hp} {Q : VK} {D : Ends} {tl : TA} {te ta tb : TE} {a : Int} {v x : V} {n : Nat} {W : WX} {C : Addr}
theorem rd_called {sp : Sp} (h : tl σ H fun vs H1 => sp vs H1 Q E0) : tCalled sp tl σ H Q := h
theorem rd_calledR {sp : Sp} (h : tl σ H fun vs H1 => sp vs H1 Q fun c d H2 => W c d σ H2) : tCalledR sp W tl σ H Q := h
theorem rd_raised (h : tl σ H fun vs H1 => ∃ v, vs = [v] ∧ ∀ d, H1 d = none → W (.ref C) (some d) σ (upd H1 d (.xd [("what", v)]))) : tRaised C W tl D σ H := h
theorem rd_raised1 {P : V → Prop} (h : P v) : ∃ v', [v] = [v'] ∧ P v' := ⟨v, rfl, h⟩
theorem rd_int (h : Q (.int a) H) : cInt [.int a] H Q := .inl ⟨a, rfl, h⟩
theorem rd_abs (h : Q (.int (if a < 0 then -a else a)) H) : cAbs [.int a] H Q := ⟨a, rfl, h⟩
theorem rd_lenL {p : Addr} {xs : List V} (e : SqL K H p xs) (h : Q (.int (xs.length : Nat)) H) : cLen K [.ref p] H Q := .inl ⟨_, _, rfl, .inl ⟨xs, e, rfl⟩, h⟩
theorem rd_lenT {p : Addr} {xs : List V} (e : SqT K H p xs) (h : Q (.int (xs.length : Nat)) H) : cLen K [.ref p] H Q := .inl ⟨_, _, rfl, .inr ⟨xs, e, rfl⟩, h⟩
theorem rd_lenS {z : Str} (e : z.length ≤ sizeLine) (h : Q (.int (z.length : Nat)) H) : cLen K [.str z] H Q := .inl ⟨_, _, rfl, ⟨e, rfl⟩, h⟩
theorem rd_ixL {p : Addr} {xs : List V} (e : SqL K H p xs) (ha : atI xs a = some v) (h : Q v H) : rIx K (.ref p) (.int a) H Q := .inl ⟨p, xs, a, v, rfl, rfl, e, ha, h⟩
theorem rd_ixT {p : Addr} {xs : List V} (e : SqT K H p xs) (ha : atI xs a = some v) (h : Q v H) : rIx K (.ref p) (.int a) H Q := .inr (.inl ⟨p, xs, a, v, rfl, rfl, e, ha, h⟩)
theorem rd_ixS {z : Str} {c : Nat} (e : z.length ≤ sizeLine) (ha : atI z.cps.toList a = some c) (h : Q (.str ⟨#[c]⟩) H) : rIx K (.str z) (.int a) H Q := .inr (.inr ⟨z, a, c, rfl, rfl, e, ha, h⟩)
theorem rd_inS {c : Nat} {z : Str} (h : Q (.bl (decide (c ∈ z.cps.toList))) H) : oIn K (.str ⟨#[c]⟩) (.str z) H Q := .inl ⟨c, z, rfl, rfl, h⟩
theorem rd_niS {c : Nat} {z : Str} (h : Q (.bl (!decide (c ∈ z.cps.toList))) H) : oNotIn K (.str ⟨#[c]⟩) (.str z) H Q := .inl ⟨c, z, rfl, rfl, h⟩
theorem rd_rng1 {ta : TA} {R : It → Hp → Prop} (h : ta σ H fun vs H1 => ∃ j : Int, vs = [.int j] ∧ -(2 ^ 62) ≤ j ∧ j < 2 ^ 62 ∧ R (Itr 0 j.toNat) H1) : iRng1 ta σ H R := h
theorem rd_rng2 {ta : TA} {R : It → Hp → Prop} (h : ta σ H fun vs H1 => ∃ i j : Int, vs = [.int i, .int j] ∧ (-(2 ^ 62) ≤ i ∧ i < 2 ^ 62 ∧ -(2 ^ 62) ≤ j ∧ j < 2 ^ 62) ∧ R (Itr i (j - i).toNat) H1) : iRng2 ta σ H R := h
theorem rd_bm {T : String} {r : V → List V → Hp → VK → Prop} {to : TE} {t : TA} (h : to σ H fun x H1 => tyV K T x H1 ∧ t σ H1 fun xs H2 => r x xs H2 Q) : tBM K T r to t σ H Q := h
theorem rd_andV (h : ta σ H fun x H1 => ∃ c, x = .bl c ∧ if c = true then tb σ H1 Q else Q (.bl false) H1) : tAndV ta tb σ H Q := h
theorem rd_orV (h : ta σ H fun x H1 => ∃ c, x = .bl c ∧ if c = true then Q (.bl true) H1 else tb σ H1 Q) : tOrV ta tb σ H Q := h
theorem rd_sl {r : V → Option Int → Option Int → Hp → VK → Prop} {tl th : TO} (h : te σ H fun x H1 => tl σ H1 fun l H2 => th σ H2 fun u H3 => r x l u H3 Q) : tSl r te tl th σ H Q := h
theorem rd_noPart {Q : Option Int → Hp → Prop} (h : Q none H) : tNoPart σ H Q := h
theorem rd_part {Q : Option Int → Hp → Prop} (h : te σ H fun x H1 => ∃ i, x = .int i ∧ Q (some i) H1) : tPart te σ H Q := h
theorem rd_intv {P : Int → Prop} (h : P a) : ∃ i, V.int a = .int i ∧ P i := ⟨a, rfl, h⟩
theorem rd_slS {z : Str} {lo hi : Option Int} (e : z.length ≤ sizeLine) (h : Q (.str (cutS z lo hi)) H) : oSl K (.str z) lo hi H Q := .inr (.inl ⟨z, rfl, e, h⟩)
end

section
variable {CX : CXT} {P : Program} {w : World} {K : PySem.W.Frag} {mg : Str → Option Value} {base : Heap} {N : List Str} {q : Str} {sc : Scope} {f : Addr} {cdv : Value} {A : Around} {outer : List Env} {s : Shared} {H : Hp} {E : XK}
theorem cxK : (cxOf CX P w K mg base N q sc f cdv A outer s H E).nox.K = K := rfl
theorem cxK' : (cxOf CX P w K mg base N q sc f cdv A outer s H E).K = K := rfl
end

/-! ### loops and comprehensions -/
def forB (g : TG) (tb : TS) (D : Ends) (σ : L2.St) (J : It) (H : Hp) : Prop := tFor (fun _ H R => R J H) g tb D σ H
def lcB (g : TG) (tt : TT) (te : TE) (vs : List Nat) (σ : L2.St) (Q : VK) (J : It) (H : Hp) : Prop := tLc (fun _ H R => R J H) g tt te vs σ H Q
section
variable {K : PySem.W.Frag} {σ : L2.St} {H : Hp} {Q : VK} {D : Ends} {wi : TI} {g : TG} {tb : TS} {tt : TT} {te : TE} {vs : List Nat} {J : It} {n : Nat} {G : Hp → Prop} {Y : Nat → Hp → V → Hp → Prop} {R : It → Hp → Prop}
theorem rd_for (h : wi σ H (forB g tb D σ)) : tFor wi g tb D σ H := h
theorem rd_lc (h : wi σ H (lcB g tt te vs σ Q)) : tLc wi g tt te vs σ H Q := h
theorem fo_range {n : Nat} (Pv : Nat → L2.St → Hp → Prop) (h0 : Pv 0 σ H) (hs : ∀ (i : Nat) σ H, i < n → Pv i σ H → g (.int (i : Int)) σ H fun σ2 H2 => tb { D with nx := Pv (i + 1), ct := Pv (i + 1), bk := D.nx } σ2 H2) (hd : ∀ σ H, Pv n σ H → D.nx σ H) : forB g tb D σ (Itr 0 n) H :=
  for_range (lo := 0) Pv h0 (fun i σ H hi p => by rw [Int.zero_add]; exact hs i σ H hi p) hd
theorem fo_range2 {lo : Int} {n : Nat} (Pv : Nat → L2.St → Hp → Prop) (h0 : Pv 0 σ H) (hs : ∀ (i : Nat) σ H, i < n → Pv i σ H → g (.int (lo + (i : Int))) σ H fun σ2 H2 => tb { D with nx := Pv (i + 1), ct := Pv (i + 1), bk := D.nx } σ2 H2) (hd : ∀ σ H, Pv n σ H → D.nx σ H) : forB g tb D σ (Itr lo n) H :=
  for_range (lo := lo) Pv h0 hs hd
theorem fo_it (w : Walk J n G Y) (Pv : Nat → L2.St → Hp → Prop) (h0 : Pv 0 σ H) (hG : ∀ i σ H, i ≤ n → Pv i σ H → G H)
    (hs : ∀ i x σ H H', i < n → Pv i σ H → Y i H x H' → g x σ H' fun σ2 H2 => tb { D with nx := Pv (i + 1), ct := Pv (i + 1), bk := D.nx } σ2 H2) (hd : ∀ σ H, Pv n σ H → D.nx σ H) : forB g tb D σ J H := for_it w Pv h0 hG hs hd
/-- over a text -/
theorem fo_str {z : Str} (Pv : Nat → L2.St → Hp → Prop) (h0 : Pv 0 σ H) (hs : ∀ (i : Nat) c σ H, z.cps.toList[i]? = some c → Pv i σ H → g (.str ⟨#[c]⟩) σ H fun σ2 H2 => tb { D with nx := Pv (i + 1), ct := Pv (i + 1), bk := D.nx } σ2 H2) (hd : ∀ σ H, Pv z.length σ H → D.nx σ H) : forB g tb D σ (Its z) H :=
  fo_it walk_str Pv h0 (fun _ _ _ _ _ => True.intro) (fun i x σ H H' hi p y => by
    obtain ⟨rfl, c, e, rfl⟩ := y
    exact hs i c σ _ (by rw [Array.getElem?_toList]; exact e) p) hd
theorem fo_list {a : Addr} {xs : List V} (Pv : Nat → L2.St → Hp → Prop) (h0 : Pv 0 σ H) (hl : ∀ i σ H, i ≤ xs.length → Pv i σ H → SqL K H a xs) (hs : ∀ (i : Nat) x σ H, xs[i]? = some x → Pv i σ H → g x σ H fun σ2 H2 => tb { D with nx := Pv (i + 1), ct := Pv (i + 1), bk := D.nx } σ2 H2)
    (hd : ∀ σ H, Pv xs.length σ H → D.nx σ H) : forB g tb D σ (Itl K a) H := for_list Pv h0 hl hs hd
theorem fo_tup {a : Addr} {xs : List V} (Pv : Nat → L2.St → Hp → Prop) (h0 : Pv 0 σ H) (hl : ∀ i σ H, i ≤ xs.length → Pv i σ H → SqT K H a xs) (hs : ∀ (i : Nat) x σ H, xs[i]? = some x → Pv i σ H → g x σ H fun σ2 H2 => tb { D with nx := Pv (i + 1), ct := Pv (i + 1), bk := D.nx } σ2 H2)
    (hd : ∀ σ H, Pv xs.length σ H → D.nx σ H) : forB g tb D σ (Itt K a) H := for_tup Pv h0 hl hs hd
/-- what is walked -/
theorem rd_anyL {a : Addr} {xs : List V} {te : TE} (he : ∀ Q : VK, Q (.ref a) H → te σ H Q) (hs : SqL K H a xs) (h : R (Itl K a) H) : iAny K te σ H R := .inl (he _ ⟨a, rfl, ⟨xs, hs⟩, h⟩)
theorem rd_anyT {a : Addr} {xs : List V} {te : TE} (he : ∀ Q : VK, Q (.ref a) H → te σ H Q) (hs : SqT K H a xs) (h : R (Itt K a) H) : iAny K te σ H R := .inr (.inl (he _ ⟨a, rfl, ⟨xs, hs⟩, h⟩))
theorem rd_anyS {z : Str} {te : TE} (he : ∀ Q : VK, Q (.str z) H → te σ H Q) (h : R (Its z) H) : iAny K te σ H R := .inr (.inr (he _ ⟨z, rfl, h⟩))
/-- a comprehension whose parts leave the heap -/
theorem lc_pure {j : Nat} {xs : Nat → V} {f : Nat → Bool} {v : Nat → V} (w : Walk J n G Y) (hY : ∀ i H x H', i < n → Y i H x H' → H' = H ∧ x = xs i) (hG : ∀ Hc, Ex H Hc → G Hc) (hn : n < 100000)
    (ht : ∀ i Hc, i < n → Ex H Hc → Ans tt ((wipe σ [j]).set j (some (xs i))) Hc (f i)) (he : ∀ i Hc, i < n → Ex H Hc → f i = true → Val te ((wipe σ [j]).set j (some (xs i))) Hc (v i))
    (h : ∀ L, H L = none → Q (.ref L) (upd H L (.lst (Evl.given n f v)))) : lcB (gName j) tt te [j] σ Q J H := by
  intro L hL
  have hz : ∀ m, m ≤ n → (Evl.given m f v).length < sizeLine := fun m hm => Nat.lt_of_le_of_lt (Evl.given_len m f v) (Nat.lt_of_le_of_lt hm (Nat.lt_trans hn (by decide)))
  refine lc_it w (fun i Hc => i ≤ n ∧ Hc = upd H L (.lst (Evl.given i f v))) ⟨Nat.zero_le _, rfl⟩ (fun i Hc _ p => ?_) (fun i x Hc H' hi p y => ?_) fun Hc p => ?_
  · obtain ⟨_, rfl⟩ := p
    exact hG _ (Evl.Ex.new hL)
  · obtain ⟨hi1, rfl⟩ := p
    obtain ⟨rfl, rfl⟩ := hY _ _ _ _ hi y
    have e0 := Evl.Ex.new (o := .lst (Evl.given i f v)) hL
    refine ⟨by simp [wipe], ?_⟩
    refine ht i _ hi e0 _ ?_
    cases hf : f i with
    | true =>
      refine rd_iteT ?_
      refine he i _ hi e0 hf _ ?_
      refine ⟨_, upd_same, hz i (Nat.le_of_lt hi), hi, ?_⟩
      rw [upd_upd, Evl.given_yes hf]
    | false =>
      refine rd_iteF ⟨hi, ?_⟩
      rw [Evl.given_no hf]
  · obtain ⟨_, rfl⟩ := p
    exact h L hL
theorem rd_yes {QB : Bool → Hp → Prop} (h : QB true H) : tYes σ H QB := h
theorem ans_yes : Ans tYes σ H true := fun _ q => q
end
/-- the list that is given -/
theorem given_eq {α : Type} (l : List α) (p : α → Bool) (f : α → V) (q : Nat → Bool) (v : Nat → V) (hq : ∀ i x, l[i]? = some x → q i = p x) (hv : ∀ i x, l[i]? = some x → v i = f x) : ∀ n, n ≤ l.length → Evl.given n q v = ((l.take n).filter p).map f
  | 0, _ => rfl
  | n + 1, h => by
    have hx : l[n]? = some (l[n]'h) := List.getElem?_eq_getElem h
    have ih := given_eq l p f q v hq hv n (Nat.le_of_lt h)
    rw [List.take_succ, hx]
    cases e : p (l[n]'h) with
    | true =>
      rw [Evl.given_yes ((hq _ _ hx).trans e), ih, List.filter_append, List.map_append, hv _ _ hx]
      simp [e]
    | false =>
      rw [Evl.given_no ((hq _ _ hx).trans e), ih, List.filter_append, List.map_append]
      simp [e]

theorem rd_gsub {to ti : TE} {t : TSet} {v : V} {σ : L2.St} {H : Hp} {Q : L2.St → Hp → Prop} (h : to σ H fun o H1 => ti σ H1 fun i H2 => t o i v H2 fun H3 => Q σ H3) : gSub to ti t v σ H Q := h
theorem rd_while {tt : TT} {tb : TS} {D : Ends} {σ : L2.St} {H : Hp} (Pv : L2.St → Hp → Prop) (μ : L2.St → Hp → Nat) (h0 : Pv σ H)
    (hs : ∀ σ H, Pv σ H → tt σ H fun b H1 => if b = true then tb { D with nx := fun σ' H' => Pv σ' H' ∧ μ σ' H' < μ σ H, ct := fun σ' H' => Pv σ' H' ∧ μ σ' H' < μ σ H, bk := D.nx } σ H1 else D.nx σ H1)
    (mono : ∀ σ H Q Q', (∀ b H1, Q b H1 → Q' b H1) → tt σ H Q → tt σ H Q') : tWhile tt tb D σ H := while_by Pv μ h0 hs mono

/-! ### the same, the written part named -/
section
variable {X : Cx} (K : PySem.W.Frag) (hK : X.K = K := by rfl)
include hK
theorem kAdd : OpR X (binaryOp .Add) (oAdd K) := hK ▸ op_addP
theorem kEq (hu : X.A.units + 64 < cLine) : OpR X (compareOp .Eq) (oEq K) := hK ▸ op_eqP hu
theorem kNe (hu : X.A.units + 64 < cLine) : OpR X (compareOp .NotEq) (oNe K) := hK ▸ op_neP hu
theorem kIn : OpR X (compareOp .In) (oIn K) := hK ▸ op_inP
theorem kNotIn : OpR X (compareOp .NotIn) (oNotIn K) := hK ▸ op_notInP
theorem kLen : CallR X (.builtin "len") (cLen K) := hK ▸ call_lenP
theorem kSl : SlR X (oSl K) := hK ▸ sl_P
theorem kIx : IxR X (rIx K) := hK ▸ ix_seq
theorem kAny {tg e : Expr} {te : TE} (he : PE X e te) : PI X tg e (iAny K te) := hK ▸ pi_any he
theorem kAll (hc : X.calm = true := by rfl) : CallR X (.builtin "all") (rAll K) := hK ▸ cr_all hc
theorem kAnyOf (hc : X.calm = true := by rfl) : CallR X (.builtin "any") (rAny K) := hK ▸ cr_any hc
theorem kSum (hc : X.calm = true := by rfl) : CallR X (.builtin "sum") (rSum K) := hK ▸ cr_sum hc
end
section
variable {X : Cx} {x : Str} {pos : Pos}
theorem pe_globS {s : Str} {t : Tok} (hg : Gl X x) (hm : X.mg x = some (.str s t)) (hd : (x == ("__debug__" : Str)) = false := by decide) : PE X (.Name x pos) (tC (.str s)) := pe_glob hg hm ⟨t, rfl⟩ hd
theorem pe_globI {i : Int} {t : Tok} (hg : Gl X x) (hm : X.mg x = some (.int i t)) (hd : (x == ("__debug__" : Str)) = false := by decide) : PE X (.Name x pos) (tC (.int i)) := pe_glob hg hm ⟨t, rfl⟩ hd
theorem pe_globR {a : Addr} (hg : Gl X x) (hm : X.mg x = some (.ref a)) (hd : (x == ("__debug__" : Str)) = false := by decide) : PE X (.Name x pos) (tC (.ref a)) := pe_glob (v := .ref a) hg hm rfl hd
end

theorem rd_iteNF {A B : Prop} (h : A) : if (!false) = true then A else B := iteT h
theorem rd_iteNT {A B : Prop} (h : B) : if (!true) = true then A else B := iteF h

section
variable {X : Cx} {x : Str} {pos : Pos}
theorem pe_blT {n : String} (hg : Gl X x) (hm : X.mg x = none) (hv : bootBuiltins x = some (.type n)) (hn : x ≠ "__name__" := by decide) (hd : (x == ("__debug__" : Str)) = false := by decide) : PE X (.Name x pos) (tC (.ty n)) := pe_bltn (v := .ty n) hg hm hv rfl hn hd
end
/-! ### lists of flat values compared -/
def okS (z : Str) : Prop := PyData.strOk z = true
theorem okS_iff {z : Str} : okS z ↔ ∀ c ∈ z.cps.toList, c < 0x110000 := by
  unfold okS PyData.strOk
  rw [← Array.all_toList, List.all_eq_true]
  exact ⟨fun h c hc => by simpa using h c hc, fun h c hc => by simpa using h c hc⟩
theorem okS_app {x y : Str} (hx : okS x) (hy : okS y) : okS (x ++ y) := okS_iff.mpr fun c hc => by
  have e : (x ++ y).cps.toList = x.cps.toList ++ y.cps.toList := TL.tl_append x y
  rw [e] at hc
  exact (List.mem_append.mp hc).elim (okS_iff.mp hx c) (okS_iff.mp hy c)
theorem okS_one {z : Str} {c : Nat} (hz : okS z) (hc : c ∈ z.cps.toList) : okS ⟨#[c]⟩ := okS_iff.mpr fun d hd => by
  have e : d = c := by simpa using hd
  rw [e]
  exact okS_iff.mp hz c hc
theorem okS_sub {x y : Str} (hy : okS y) (h : ∀ c ∈ x.cps.toList, c ∈ y.cps.toList) : okS x := okS_iff.mpr fun c hc => okS_iff.mp hy c (h c hc)
def dOf : V → PyData
  | .bl b => .bool b
  | .int i => .int i
  | .str x => .str x
  | _ => .none
def flat1 : V → Bool
  | .non => true
  | .bl _ => true
  | .int _ => true
  | .str x => PyData.strOk x
  | _ => false
theorem dp_flat {K : PySem.W.Frag} {H : Hp} {v : V} (h : flat1 v = true) : Dp K H v (dOf v) := by
  cases v with
  | non => exact .non
  | bl b => exact .bl b
  | int i => exact .int i
  | str x => exact .str x
  | byt _ => exact absurd h Bool.false_ne_true
  | flt _ => exact absurd h Bool.false_ne_true
  | ref _ => exact absurd h Bool.false_ne_true
  | ty _ => exact absurd h Bool.false_ne_true
theorem lay_flat {v : V} (h : flat1 v = true) : (dOf v).canLay0 = true ∧ (dOf v).depth = 0 := by
  cases v with
  | str x => exact ⟨h, rfl⟩
  | _ => exact ⟨rfl, rfl⟩
theorem dpAll_flat {K : PySem.W.Frag} {H : Hp} : ∀ {xs : List V}, xs.all flat1 = true → DpAll K H xs (xs.map dOf)
  | [], _ => .nil
  | v :: xs, h => by
    rw [List.all_cons, Bool.and_eq_true] at h
    exact .cons (dp_flat h.1) (dpAll_flat h.2)
theorem lay_all : ∀ {xs : List V}, xs.all flat1 = true → PyData.canLayAll0 (xs.map dOf) = true ∧ PyData.depthAll (xs.map dOf) = 0
  | [], _ => ⟨rfl, rfl⟩
  | v :: xs, h => by
    rw [List.all_cons, Bool.and_eq_true] at h
    obtain ⟨h1, h2⟩ := lay_flat h.1
    obtain ⟨h3, h4⟩ := lay_all h.2
    refine ⟨?_, ?_⟩
    · show ((dOf v).canLay0 && PyData.canLayAll0 (xs.map dOf)) = true
      rw [h1, h3]
      rfl
    · show max (dOf v).depth (PyData.depthAll (xs.map dOf)) = 0
      rw [h2, h4]
      rfl
theorem shaped_list {xs : List V} (h : xs.all flat1 = true) : SeqAt.shaped (.list (xs.map dOf)) = true := by
  obtain ⟨h1, h2⟩ := lay_all h
  refine Bool.and_eq_true_iff.mpr ⟨h1, decide_eq_true ?_⟩
  show PyData.depthAll (xs.map dOf) + 1 ≤ 64
  rw [h2]
  decide
theorem refl_list {xs : List V} (h : xs.all flat1 = true) : PyData.eqv (.list (xs.map dOf)) (.list (xs.map dOf)) = true := SeqAt.eqv_refl _ (lay_all h).1
section
variable {K : PySem.W.Frag} {p q : Addr} {xs : List V} {H : Hp} {Q : VK}
theorem rd_neL (hp : SqL K H p xs) (hq : SqL K H q xs) (hf : xs.all flat1 = true) (h : Q (.bl false) H) : oNe K (.ref p) (.ref q) H Q :=
  .inr ⟨_, _, .lst hp (dpAll_flat hf), .lst hq (dpAll_flat hf), shaped_list hf, shaped_list hf, by rw [refl_list hf]; exact h⟩
theorem rd_eqL (hp : SqL K H p xs) (hq : SqL K H q xs) (hf : xs.all flat1 = true) (h : Q (.bl true) H) : oEq K (.ref p) (.ref q) H Q :=
  .inr ⟨_, _, .lst hp (dpAll_flat hf), .lst hq (dpAll_flat hf), shaped_list hf, shaped_list hf, by rw [refl_list hf]; exact h⟩
theorem rd_eqNil (hp : SqL K H p xs) (hq : SqL K H q []) (hf : xs.all flat1 = true) (h : Q (.bl xs.isEmpty) H) : oEq K (.ref p) (.ref q) H Q :=
  .inr ⟨_, .list [], .lst hp (dpAll_flat hf), .lst hq .nil, shaped_list hf, rfl, by
    cases xs with
    | nil => exact h
    | cons a r => exact h⟩
end
theorem rd_reprB {b : Bool} {H : Hp} {Q : VK} (h : Q (.str (if b then "True" else "False")) H) : cRepr [.bl b] H Q := .inr ⟨b, rfl, h⟩

section
variable {σ : L2.St} {H : Hp} {Q : VK} {D : Ends} {t u : TS} {te ta tb : TE} {g : TG} {a b : Bool}
theorem rd_seqA (h : tAsg te g { D with nx := u D } σ H) : tSeq (tAsg te g) u D σ H := h
theorem rd_seqD (h : tDrop te { D with nx := u D } σ H) : tSeq (tDrop te) u D σ H := h
/-- a statement, then the rest: R is what holds between -/
theorem rd_cut (R : L2.St → Hp → Prop) (h1 : ∀ N : L2.St → Hp → Prop, (∀ σ H, R σ H → N σ H) → t { D with nx := N } σ H) (h2 : ∀ σ H, R σ H → u D σ H) : tSeq t u D σ H := h1 (u D) h2
theorem val_andV (h1 : Val ta σ H (.bl a)) (h2 : a = true → Val tb σ H (.bl b)) : Val (tAndV ta tb) σ H (.bl (a && b)) := fun Q q => h1 _ ⟨a, rfl, by
  cases a with
  | true => exact iteT (h2 rfl _ q)
  | false => exact iteF q⟩
theorem val_orV (h1 : Val ta σ H (.bl a)) (h2 : a = false → Val tb σ H (.bl b)) : Val (tOrV ta tb) σ H (.bl (a || b)) := fun Q q => h1 _ ⟨a, rfl, by
  cases a with
  | true => exact iteT q
  | false => exact iteF (h2 rfl _ q)⟩
theorem val_is {v w : V} (h : Val te σ H v) (e : v = w) : Val te σ H w := e ▸ h
theorem rd_val {v : V} (h : Val te σ H v) (q : Q v H) : te σ H Q := h Q q
end

theorem rd_idS {t u : TS} {D : Ends} {σ : L2.St} {H : Hp} (h : tSeq t u D σ H) : tSeq t u D σ H := h
theorem rd_idI {c : TT} {t u : TS} {D : Ends} {σ : L2.St} {H : Hp} (h : tIfS c t u D σ H) : tIfS c t u D σ H := h
end AT

set_option Elab.async false
set_option linter.all false
set_option maxRecDepth 100000
set_option maxHeartbeats 4000000
/-! own words, second part: objects that are made and asked where something may be raised; data; tuples -/
namespace AT
open PySem PySem.Spec L2
section
variable {X : Cx} {Cx1 : CXT} {n : Nat} {fa Ca : Addr} {fn : FuncData} {pr : List Str} {pm : Sp} {W : WX} {nm mt : Str} {q1 q2 q3 : Pos} {o a0 : Expr} {as : List Expr} {to : TE} {ta : TA}
/-- C(..) whose __init__ may raise -/
def tMakeR (C : Addr) (sp : Sp) (W : WX) (t : TA) : TE := fun σ H Q => t σ H fun vs H1 => ∀ x dx, H1 x = none → H1 dx = none → dx ≠ x → sp (.ref x :: vs) (upd (upd H1 dx (.own x)) x (.ins C dx [])) (fun v H2 => v = .non ∧ Q (.ref x) H2) fun c d H2 => W c d σ H2
theorem pe_makeR (M : Mk X.K Ca fa) (G : FnOk X.prog X.w X.K X.mg X.base (L2.CX X.prog X.w) n fa fn pr pm) (hr : Room (n + 1) X.A) (hm : X.mg nm = some (.ref Ca)) (hb : Binds X.K fn pr []) (tk : Takes X W) (ha : PA X (a0 :: as) ta) (hg : Gl X nm := by rfl)
    (hdb : (nm == ("__debug__" : Str)) = false := by decide) (he : starEach (a0 :: as) X.env = (false, eval a0 X.env) :: starEach as X.env := by rfl) (hpl : (backTo q2 (starEach as X.env)).any (·.1) = false := by rfl) :
    PE X (.Call (.Name nm q1) (a0 :: as) [] q2) (tMakeR Ca pm W ta) := by
  refine ⟨fun P s σ H Q I h => wpAny_Call_Name_kw (ld_glob I hg hm ?_ hdb)⟩
  refine PySem.W.callWith_K (h₀ := X.base) I.ok.mod.kin M.kp (thn (ha.run q2 P s σ H _ I h) fun us t ⟨vs, H1, J, rv, q⟩ => ⟨J.kIn, ?_⟩) he hpl
  have fresh1 := J.hok.fresh (Nat.le_succ t.heap.objs.size)
  have fresh0 := J.hok.fresh (Nat.le_refl t.heap.objs.size)
  have asked := q _ _ fresh1 fresh0 (Nat.ne_of_lt (Nat.lt_succ_self _))
  have J2 := Inv.made (C := Ca) J
  have rel : Vals (V.ref (t.heap.objs.size + 1) :: vs) (Value.ref (t.heap.objs.size + 1) :: us) := .cons rfl rv
  have len : (Value.ref (t.heap.objs.size + 1) :: us ++ []).length = pr.length := by
    rw [List.append_nil, ← rel.length]
    exact G.len _ _ _ _ asked
  have bind := hb _ (Value.ref (t.heap.objs.size + 1) :: us) J2.kIn len
  rw [List.append_nil] at bind
  have ran := G.run _ X.stack _ _ ⟨Value.ref (t.heap.objs.size + 1) :: us, []⟩ _ _ _ (fun c d H2 => W c d σ H2) (hr.make Ca us []) (J2.env0.make Ca us []) bind rel asked
  refine wpAny_call (make_map (f := fa) J.kIn M.makes M.init (beq_iff_eq.mp M.fn) (codeAny_mono ran fun res z hz => ?_))
  cases res with
  | error er => exact passAt tk σ _ _ _ _ _ J2 hz
  | ok fl =>
    cases fl with
    | ret u =>
      have back := J2.after hz
      obtain ⟨v, H3, J3, r3, e3, q3⟩ := back
      subst e3
      exact ⟨r3, .ref (t.heap.objs.size + 1), H3, J3, rfl, q3⟩
    | next => exact hz.elim
    | brk => exact hz.elim
    | cont => exact hz.elim
/-- o.m(..) whose m may raise -/
def tMethR (C : Addr) (m : Str) (sp : Sp) (W : WX) (to : TE) (t : TA) : TE := fun σ H Q => to σ H fun x H1 => ∃ a dx fs, x = .ref a ∧ H1 a = some (.ins C dx fs) ∧ fs.lookup m = none ∧ t σ H1 fun vs H2 => sp (x :: vs) H2 Q fun c d H3 => W c d σ H3
theorem pe_methRs {pl : Sem Bool} (hmt : Meth X.K Ca mt fa) (cl : Cls X.K Ca) (ho : PE X o to) (G : FnOk X.prog X.w X.K X.mg X.base (L2.CX X.prog X.w) n fa fn pr pm) (hr : Room n X.A) (hb : Binds X.K fn pr []) (tk : Takes X W) (ha : PA X (a0 :: as) ta)
    (hst : starEach (a0 :: as) X.env = (false, eval a0 X.env) :: starEach as X.env := by rfl) (hpl : (backTo q2 (starEach as X.env)).any (·.1) = false := by rfl)
    (ht : eval (.Call (.Attribute o mt q3) (a0 :: as) [] q2) X.env = (do
      let r ← eval o X.env
      standAt q3.atName
      let (g, more) ← holding [r] (getMethod r mt pl)
      callWith q2 g more (backTo q2 (starEach (a0 :: as) X.env)) (backToKw q2 (keywordEach [] X.env))) := by rfl) : PE X (.Call (.Attribute o mt q3) (a0 :: as) [] q2) (tMethR Ca mt pm W to ta) := by
  refine ⟨fun P s σ H Q I h => PySem.W.methodCall_KW (pl := pl) (thn (ho.run P s σ H _ I h) fun u t ⟨x, H1, J, rx, a, dx, fs, ex, ea, nl, q⟩ => ?_) ht⟩
  subst ex
  obtain rfl : u = Value.ref a := rx
  refine getmeth_ok J ea cl hmt nl (PySem.W.callWith_K (first := [.ref a]) (h₀ := X.base) J.ok.mod.kin hmt.kp (thn (ha.run q2 P t σ H1 _ J q) fun us t2 ⟨vs, H2, J2, rv, z⟩ => ⟨J2.kIn, ?_⟩) hst hpl)
  exact run_fnS (us := .ref a :: us) (vs := .ref a :: vs) (E := WE W) G hr hb (passAt tk σ) J2 (.cons rfl rv) z
theorem pe_methR0 {pl : Sem Bool} (hmt : Meth X.K Ca mt fa) (cl : Cls X.K Ca) (ho : PE X o to) (G : FnOk X.prog X.w X.K X.mg X.base (L2.CX X.prog X.w) n fa fn pr pm) (hr : Room n X.A) (hb : Binds X.K fn pr []) (tk : Takes X W)
    (ht : eval (.Call (.Attribute o mt q3) [] [] q2) X.env = (do
      let r ← eval o X.env
      standAt q3.atName
      let (g, more) ← holding [r] (getMethod r mt pl)
      callWith q2 g more (backTo q2 (starEach [] X.env)) (backToKw q2 (keywordEach [] X.env))) := by rfl) : PE X (.Call (.Attribute o mt q3) [] [] q2) (tMethR Ca mt pm W to tNil) := by
  refine ⟨fun P s σ H Q I h => PySem.W.methodCall_KW (pl := pl) (thn (ho.run P s σ H _ I h) fun u t ⟨x, H1, J, rx, a, dx, fs, ex, ea, nl, q⟩ => ?_) ht⟩
  subst ex
  obtain rfl : u = Value.ref a := rx
  refine getmeth_ok J ea cl hmt nl ?_
  exact PySem.W.callWith_K0 (first := [.ref a]) J.kIn hmt.kp (run_fnS (us := [.ref a]) (vs := [.ref a]) (E := WE W) G hr hb (passAt tk σ) J (.cons rfl .nil) q)
end

/-! ### the place of a sign in a text -/
section
open PySem.Builtin.Str PySem.StrLaws
theorem first_sign (x : Str) (c : Nat) (h : c ∈ x.cps.toList) : ∃ rest, occurrences x ⟨#[c]⟩ 0 x.length 1 = x.cps.toList.idxOf c :: rest := by
  have key := occ_first x ⟨#[c]⟩ x.length 1 (Nat.le_refl 1) (List.range' 0 (x.length + 1 - 0)) 0 fun _ _ => Nat.zero_le _
  rw [occ_eq]
  have sub := fun k => subAt_one x c k
  rcases key with ⟨_, hn⟩ | ⟨pre, i, post, e, h0, hi, hn⟩
  · obtain ⟨j, hj⟩ := List.getElem?_of_mem h
    have hlt : j < x.length := (List.getElem?_eq_some_iff.mp hj).1
    exact absurd ((sub j).mpr hj) (hn j (List.mem_range'.mpr ⟨j, by omega, by omega⟩))
  · have hx := (sub i).mp hi
    have before : ∀ k, k < i → x.cps.toList[k]? ≠ some c := fun k hk q => hn k (range'_split e k hk) ((sub k).mpr q)
    obtain ⟨hl, hv⟩ := List.getElem?_eq_some_iff.mp hx
    have e2 : x.cps.toList.idxOf c = i := by
      have hlt : x.cps.toList.idxOf c < x.cps.toList.length := List.idxOf_lt_length_iff.mpr h
      have hget : x.cps.toList[x.cps.toList.idxOf c] = c := List.getElem_idxOf hlt
      rcases Nat.lt_trichotomy (x.cps.toList.idxOf c) i with z | z | z
      · exact absurd (List.getElem?_eq_some_iff.mpr ⟨hlt, hget⟩) (before _ z)
      · exact z
      · exact absurd hv (by
          have := List.not_of_lt_findIdx (p := (· == c)) (xs := x.cps.toList) z
          simpa using this)
    rw [e2]
    generalize hg : (forIn (List.range' 0 (x.length + 1 - 0)) ((#[] : Array Nat), 0) (occBody x ⟨#[c]⟩ x.length 1)).run.fst = arr at h0
    cases hl : arr.toList with
    | nil =>
      rw [← Array.getElem?_toList, hl] at h0
      cases h0
    | cons a r =>
      rw [← Array.getElem?_toList, hl] at h0
      exact ⟨r, by rw [Option.some.inj (show some a = some i from h0)]⟩
end
def mIdx : V → List V → Hp → VK → Prop := fun x xs H Q => ∃ (a : Str) (c : Nat), x = .str a ∧ xs = [.str ⟨#[c]⟩] ∧ c ∈ a.cps.toList ∧ Q (.int (a.cps.toList.idxOf c : Nat)) H
section
variable {X : Cx}
theorem mt_strIdx : MtR X "str.index" mIdx := by
  intro P s σ H x xs v us Q I rx rs h
  obtain ⟨a, c, ex, es, hc, q⟩ := h
  obtain ⟨rest, e⟩ := first_sign a c hc
  exact mt_sindex P s σ H x xs v us Q I rx rs ⟨a, _, _, rest, ex, es, e, q⟩
/-! ### the least and the greatest of a tuple of ints -/
theorem reads_ints {hp : Heap} : ∀ {ns : List Int} {us : List Value}, Vals (ns.map V.int) us → ReadsAll hp us (ns.map PyData.int) []
  | [], _, r => by cases r; exact .nil
  | n :: ns, _, r => by
    cases r with
    | cons r1 r2 =>
      obtain ⟨t, rfl⟩ := r1
      exact ReadsAll.cons (as := []) (bs := []) (.int n t) (reads_ints r2)
theorem alike_ints (ns : List Int) : PySem.W.AlikeAll (ns.map PyData.int) := ⟨fun x hx y hy => by
  obtain ⟨a, _, rfl⟩ := List.mem_map.mp hx
  obtain ⟨b, _, rfl⟩ := List.mem_map.mp hy
  rfl, fun x hx => by
  obtain ⟨a, _, rfl⟩ := List.mem_map.mp hx
  exact fun z => by cases z⟩
theorem depth_ints : ∀ ns : List Int, PyData.depthAll (ns.map PyData.int) = 0
  | [] => rfl
  | n :: ns => by
    show max 0 (PyData.depthAll (ns.map PyData.int)) = 0
    rw [depth_ints ns]
    rfl
/-- min(t), max(t): t a tuple of ints, not empty -/
def cMinT (K : PySem.W.Frag) : List V → Hp → VK → Prop := fun vs H Q => ∃ (a : Addr) (n : Int) (ns : List Int), vs = [.ref a] ∧ SqT K H a ((n :: ns).map V.int) ∧ Q (.int (ns.foldl min n)) H
def cMaxT (K : PySem.W.Frag) : List V → Hp → VK → Prop := fun vs H Q => ∃ (a : Addr) (n : Int) (ns : List Int), vs = [.ref a] ∧ SqT K H a ((n :: ns).map V.int) ∧ Q (.int (ns.foldl max n)) H
theorem call_minT (hc : X.calm = true) (hu : X.A.units + 64 < cLine) : CallR X (.builtin "min") (cMinT X.K) := by
  intro P s σ H vs us Q I r h
  obtain ⟨a, n, ns, rfl, ht, q⟩ := h
  obtain ⟨u, rfl, ru⟩ := vals1 r
  cases (show u = Value.ref a from ru)
  obtain ⟨its, rv, pl, _⟩ := I.tuple ht
  refine PySem.W.min_tuple_data (x := .int n) (xs := ns.map .int) (I.ok.hd hc) pl (reads_ints (ns := n :: ns) rv) (alike_ints (n :: ns)) (by
    have e := depth_ints (n :: ns)
    rw [List.map_cons] at e
    rw [e]
    omega) fun i v h' tk bs hv hr hk => ?_
  rw [PySem.W.minD_ints] at hr
  cases hr with
  | int _ t => exact ⟨.int _, H, I.kept hk, ⟨t, rfl⟩, q⟩
theorem call_maxT (hc : X.calm = true) (hu : X.A.units + 64 < cLine) : CallR X (.builtin "max") (cMaxT X.K) := by
  intro P s σ H vs us Q I r h
  obtain ⟨a, n, ns, rfl, ht, q⟩ := h
  obtain ⟨u, rfl, ru⟩ := vals1 r
  cases (show u = Value.ref a from ru)
  obtain ⟨its, rv, pl, _⟩ := I.tuple ht
  refine PySem.W.max_tuple_data (x := .int n) (xs := ns.map .int) (I.ok.hd hc) pl (reads_ints (ns := n :: ns) rv) (alike_ints (n :: ns)) (by
    have e := depth_ints (n :: ns)
    rw [List.map_cons] at e
    rw [e]
    omega) fun i v h' tk bs hv hr hk => ?_
  rw [PySem.W.maxD_ints] at hr
  cases hr with
  | int _ t => exact ⟨.int _, H, I.kept hk, ⟨t, rfl⟩, q⟩
end

section
variable {X : Cx} (K : PySem.W.Frag) (hK : X.K = K := by rfl)
include hK
theorem kMin (hu : X.A.units + 64 < cLine) (hc : X.calm = true := by rfl) : CallR X (.builtin "min") (cMinT K) := hK ▸ call_minT hc hu
theorem kMax (hu : X.A.units + 64 < cLine) (hc : X.calm = true := by rfl) : CallR X (.builtin "max") (cMaxT K) := hK ▸ call_maxT hc hu
theorem kFld {o : Expr} {f : Str} {p : Pos} {te : TE} (h : PE X (.Attribute o f p) (tFld X.K te f)) : PE X (.Attribute o f p) (tFld K te f) := hK ▸ h
theorem kBm {e : Expr} {T : String} {r : V → List V → Hp → VK → Prop} {to : TE} {t : TA} (h : PE X e (tBM X.K T r to t)) : PE X e (tBM K T r to t) := hK ▸ h
theorem kBm0 {e : Expr} {T : String} {r : V → List V → Hp → VK → Prop} {to : TE} (h : PE X e (tBM0 X.K T r to)) : PE X e (tBM0 K T r to) := hK ▸ h
def cTupOf (K : PySem.W.Frag) : List V → Hp → VK → Prop := fun xs H Q => ∃ p ys, xs = [.ref p] ∧ ((SqL K H p ys ∧ ∀ l, H l = none → Q (.ref l) (upd H l (.tup ys))) ∨ (SqT K H p ys ∧ Q (.ref p) H))
def cLstOf (K : PySem.W.Frag) : List V → Hp → VK → Prop := fun xs H Q => ∃ p ys, xs = [.ref p] ∧ (SqL K H p ys ∨ SqT K H p ys) ∧ ∀ l, H l = none → Q (.ref l) (upd H l (.lst ys))
def mJoin (K : PySem.W.Frag) : V → List V → Hp → VK → Prop := fun x xs H Q => ∃ a p, ∃ ys : List Str, x = .str a ∧ xs = [.ref p] ∧ (SqL K H p (ys.map V.str) ∨ SqT K H p (ys.map V.str)) ∧ (ys.map (·.length)).sum + ys.length * a.length ≤ 16777216 ∧ Q (.str (Txt.join a ys)) H
theorem kTupOf : CallR X (.type "tuple") (cTupOf K) := hK ▸ call_tuple_of
theorem kLstOf : CallR X (.type "list") (cLstOf K) := hK ▸ call_list_of
theorem kJoin : MtR X "str.join" (mJoin K) := hK ▸ mt_join
end
/-! ### a text, several times -/
def oMulP : R2 := fun x y H Q => oMul x y H Q ∨ ∃ (z : Str) (n : Int), x = .str z ∧ y = .int n ∧ MulOk z n ∧ Q (.str (Txt.mul z n)) H
theorem op_mulS {X : Cx} : OpR X (binaryOp .Mult) (fun x y H Q => ∃ (z : Str) (n : Int), x = .str z ∧ y = .int n ∧ MulOk z n ∧ Q (.str (Txt.mul z n)) H) := by
  intro P s σ H x y v u Q I rx ry h
  obtain ⟨z, n, rfl, rfl, ok, q⟩ := h
  obtain ⟨t, rfl⟩ := rx
  obtain ⟨t2, rfl⟩ := ry
  exact PySem.SB.mul ok fun t' k => ⟨.str _, H, I.tok _, ⟨t', rfl⟩, q⟩
theorem op_mulPP {X : Cx} : OpR X (binaryOp .Mult) oMulP := OpR.or op_mulP op_mulS
section
variable {K : PySem.W.Frag} {σ : L2.St} {H : Hp} {Q : VK} {D : Ends} {te tv : TE} {f : Str} {a C dx : Addr} {fs : List (Str × V)} {v : V} {t : TA} {sp : Sp} {W : WX}
theorem rd_fld (h : te σ H fun x H1 => ∃ a C dx fs v, x = .ref a ∧ H1 a = some (.ins C dx fs) ∧ Cls K C ∧ NoAttr K C f ∧ fs.lookup f = some v ∧ Q v H1) : tFld K te f σ H Q := h
theorem rd_fldv {P : Addr → Prop} : True := True.intro
theorem rd_mulN {x y : Int} (c : CMul x y) (h : Q (.int (x * y)) H) : oMulP (.int x) (.int y) H Q := .inl ⟨x, y, rfl, rfl, c, h⟩
theorem rd_mulT {z : Str} {n : Int} (c : MulOk z n) (h : Q (.str (Txt.mul z n)) H) : oMulP (.str z) (.int n) H Q := .inr ⟨z, n, rfl, rfl, c, h⟩
theorem rd_tupL {p : Addr} {ys : List V} (e : SqL K H p ys) (h : ∀ l, H l = none → Q (.ref l) (upd H l (.tup ys))) : cTupOf K [.ref p] H Q := ⟨p, ys, rfl, .inl ⟨e, h⟩⟩
theorem rd_tupT {p : Addr} {ys : List V} (e : SqT K H p ys) (h : Q (.ref p) H) : cTupOf K [.ref p] H Q := ⟨p, ys, rfl, .inr ⟨e, h⟩⟩
theorem rd_lstL {p : Addr} {ys : List V} (e : SqL K H p ys ∨ SqT K H p ys) (h : ∀ l, H l = none → Q (.ref l) (upd H l (.lst ys))) : cLstOf K [.ref p] H Q := ⟨p, ys, rfl, e, h⟩
theorem rd_idx {z : Str} {c : Nat} (hc : c ∈ z.cps.toList) (h : Q (.int (z.cps.toList.idxOf c : Nat)) H) : mIdx (.str z) [.str ⟨#[c]⟩] H Q := ⟨z, c, rfl, rfl, hc, h⟩
end

/-! ### comprehensions whose parts change the heap: P of the new list's place, the turn, what is in it, the heap -/
theorem lc_gen {J : It} {n j : Nat} {G : Hp → Prop} {Y : Nat → Hp → V → Hp → Prop} {xs : Nat → V} {σ : L2.St} {H : Hp} {Q : VK} {te : TE} (P : Addr → Nat → List V → Hp → Prop) (w : Walk J n G Y) (hY : ∀ i H x H', i < n → Y i H x H' → H' = H ∧ x = xs i) (hn : n < 100000)
    (h0 : ∀ L, H L = none → P L 0 [] (upd H L (.lst []))) (hG : ∀ L i vs Hc, H L = none → P L i vs Hc → G Hc)
    (he : ∀ L i vs Hc, i < n → H L = none → Hc L = some (.lst vs) → vs.length = i → P L i vs Hc → ∀ N : VK, (∀ v H2, H2 L = some (.lst vs) → P L (i + 1) (vs ++ [v]) (upd H2 L (.lst (vs ++ [v]))) → N v H2) → te ((wipe σ [j]).set j (some (xs i))) Hc N)
    (h : ∀ L vs Hc, H L = none → Hc L = some (.lst vs) → vs.length = n → P L n vs Hc → Q (.ref L) Hc) : lcB (gName j) tYes te [j] σ Q J H := by
  intro L hL
  refine lc_it w (fun i Hc => ∃ vs, Hc L = some (.lst vs) ∧ vs.length = i ∧ P L i vs Hc) ⟨[], upd_same, rfl, h0 L hL⟩ (fun i Hc _ p => ?_) (fun i x Hc H' hi p y => ?_) fun Hc p => ?_
  · obtain ⟨vs, _, _, p⟩ := p
    exact hG L i vs Hc hL p
  · obtain ⟨vs, h1, h2, p⟩ := p
    obtain ⟨rfl, rfl⟩ := hY _ _ _ _ hi y
    refine ⟨by simp [wipe], rd_yes ?_⟩
    refine rd_iteT ?_
    refine he L i vs _ hi hL h1 h2 p _ fun v H2 z1 z2 => ?_
    exact ⟨vs, z1, Nat.lt_of_lt_of_le (by rw [h2]; omega : vs.length < 100000) (by decide), vs ++ [v], upd_same, by rw [List.length_append, h2]; rfl, z2⟩
  · obtain ⟨vs, h1, h2, p⟩ := p
    exact h L vs Hc hL h1 h2 p
/-- the heap but for one place -/
def hide (L : Addr) (H : Hp) : Hp := fun b => if b = L then none else H b
theorem hide_ne {L b : Addr} {H : Hp} (h : b ≠ L) : hide L H b = H b := if_neg h
theorem hide_ex {L : Addr} {H : Hp} : Ex (hide L H) H := fun b o e => by
  by_cases h : b = L
  · rw [h] at e
    have z : hide L H L = none := if_pos rfl
    rw [z] at e
    cases e
  · rw [hide_ne h] at e
    exact e
theorem hide_mono {L : Addr} {H H' : Hp} (k : ∀ b o, b ≠ L → H b = some o → H' b = some o) : Ex (hide L H) (hide L H') := fun b o e => by
  by_cases h : b = L
  · rw [h] at e
    have z : hide L H L = none := if_pos rfl
    rw [z] at e
    cases e
  · rw [hide_ne h] at e ⊢
    exact k b o h e
theorem ex_hide {L : Addr} {H H' : Hp} (hL : H L = none) (e : Ex H H') : Ex H (hide L H') := fun b o q => by
  rw [hide_ne (ne_of_none q hL)]
  exact e b o q
/-- each value is new or stood before: R of the turn, the value and the heap without the new list -/
theorem lc_new {J : It} {n j : Nat} {G : Hp → Prop} {Y : Nat → Hp → V → Hp → Prop} {xs : Nat → V} {σ : L2.St} {H : Hp} {Q : VK} {te : TE} (R : Nat → V → Hp → Prop) (w : Walk J n G Y) (hY : ∀ i H x H', i < n → Y i H x H' → H' = H ∧ x = xs i) (hn : n < 100000)
    (hG : ∀ Hc, Ex H Hc → G Hc) (mR : ∀ i v H1 H2, Ex H1 H2 → R i v H1 → R i v H2)
    (he : ∀ L i Hc, i < n → H L = none → (∃ vs, Hc L = some (.lst vs)) → Ex H Hc → ∀ N : VK, (∀ v H2, Ex Hc H2 → R i v (hide L H2) → N v H2) → te ((wipe σ [j]).set j (some (xs i))) Hc N)
    (h : ∀ L vs Hc, H L = none → Ex H Hc → Hc L = some (.lst vs) → vs.length = n → (∀ i v, vs[i]? = some v → R i v (hide L Hc)) → Q (.ref L) Hc) : lcB (gName j) tYes te [j] σ Q J H := by
  refine lc_gen (fun L i vs Hc => Ex H Hc ∧ ∀ i v, vs[i]? = some v → R i v (hide L Hc)) w hY hn (fun L hL => ⟨Evl.Ex.new hL, fun i v z => by cases z⟩) (fun L i vs Hc _ p => hG Hc p.1) (fun L i vs Hc hi hL h1 h2 p N hN => ?_) (fun L vs Hc hL h1 h2 p => h L vs Hc hL p.1 h1 h2 p.2)
  refine he L i Hc hi hL ⟨vs, h1⟩ p.1 N fun v H2 e2 r2 => hN v H2 (e2 L _ h1) ?_
  have kp : Ex (hide L H2) (hide L (upd H2 L (.lst (vs ++ [v])))) := hide_mono fun b o hb q => by rw [upd_ne hb]; exact q
  have kp0 : Ex (hide L Hc) (hide L H2) := hide_mono fun b o _ q => e2 b o q
  refine ⟨Evl.Ex.mut (p.1.trans e2) hL, fun i' v' hv => ?_⟩
  by_cases hlt : i' < vs.length
  · rw [List.getElem?_append_left hlt] at hv
    exact mR _ _ _ _ (kp0.trans kp) (p.2 i' v' hv)
  · rw [List.getElem?_append_right (by omega)] at hv
    have e0 : i' - vs.length = 0 := by
      rcases Nat.eq_zero_or_pos (i' - vs.length) with z | z
      · exact z
      · rw [List.getElem?_eq_none (by simp; omega)] at hv
        cases hv
    rw [e0] at hv
    obtain rfl : v = v' := Option.some.inj hv
    have e3 : i' = i := by omega
    rw [e3]
    exact mR _ _ _ _ kp r2

theorem rd_sfld {K : PySem.W.Frag} {ta tv : TE} {f : Str} {D : Ends} {σ : L2.St} {H : Hp} (h : tv σ H fun y H1 => ta σ H1 fun x H2 => ∃ a C dx fs, x = .ref a ∧ H2 a = some (.ins C dx fs) ∧ Cls K C ∧ NoAttr K C f ∧ fs.length < 1000 ∧ D.nx σ (upd H2 a (.ins C dx (putF f y fs)))) : sFld K ta tv f D σ H := h
theorem kSf {X : Cx} (K : PySem.W.Frag) (hK : X.K = K := by rfl) {st : Stmt} {ta tv : TE} {f : Str} (h : PS X st (sFld X.K ta tv f)) : PS X st (sFld K ta tv f) := hK ▸ h

section
variable {K : PySem.W.Frag} {σ : L2.St} {H : Hp} {Q : VK} {te to : TE} {t : TA} {C : Addr} {m f : Str} {sp : Sp} {W : WX} {dvs : List V} {E : XK}
theorem rd_makeR (h : t σ H fun vs H1 => ∀ x dx, H1 x = none → H1 dx = none → dx ≠ x → sp (.ref x :: vs) (upd (upd H1 dx (.own x)) x (.ins C dx [])) (fun v H2 => v = .non ∧ Q (.ref x) H2) fun c d H2 => W c d σ H2) : tMakeR C sp W t σ H Q := h
theorem rd_methR (h : to σ H fun x H1 => ∃ a dx fs, x = .ref a ∧ H1 a = some (.ins C dx fs) ∧ fs.lookup m = none ∧ t σ H1 fun vs H2 => sp (x :: vs) H2 Q fun c d H3 => W c d σ H3) : tMethR C m sp W to t σ H Q := h
theorem rd_meth (h : to σ H fun x H1 => ∃ a dx fs, x = .ref a ∧ H1 a = some (.ins C dx fs) ∧ fs.lookup m = none ∧ t σ H1 fun vs H2 => sp (x :: (vs ++ dvs)) H2 Q E) : tMeth C m sp dvs E to t σ H Q := h
theorem rd_notV (h : te σ H fun x H1 => ∃ c, x = .bl c ∧ Q (.bl (!c)) H1) : tNotV te σ H Q := h
theorem rd_xf {a : Addr} {cls : Value} {d : Option Addr} {C : Addr} {f : Str} (h : te σ H fun x H1 => x = .ref a ∧ cls = .ref C ∧ ∃ (dd : Addr) (fs : List (Str × V)) (v : V), d = some dd ∧ H1 dd = some (.xd fs) ∧ fs.lookup f = some v ∧ Q v H1) : tXf a cls d C f te σ H Q := h
end
/-! ### more on comprehensions, numbers, texts -/
theorem look_map {f : NameKind → Bool} : ∀ (l : List (Str × NameKind)) (y : Str), (l.lookup y = some .cell ∨ l.lookup y = some .free) → ∀ g : Str × NameKind → Str × NameKind, (∀ n k, g (n, k) = (n, k) ∨ (k = .free ∧ g (n, k) = (n, .cell))) → ((l.map g).lookup y = some .cell ∨ (l.map g).lookup y = some .free)
  | [], _, h, _, _ => by rcases h with h | h <;> cases h
  | (n, k) :: l, y, h, g, hg => by
    rw [List.map_cons]
    rw [List.lookup_cons] at h
    cases e : y == n with
    | true =>
      rw [e] at h
      rcases hg n k with z | ⟨z1, z2⟩
      · rw [z, List.lookup_cons, e]; exact h
      · rw [z2, List.lookup_cons, e]; exact .inl rfl
    | false =>
      rw [e] at h
      have ih := look_map (f := f) l y h g hg
      rcases hg n k with z | ⟨z1, z2⟩
      · rw [z, List.lookup_cons, e]; exact ih
      · rw [z2, List.lookup_cons, e]; exact ih
theorem blkOk_in {X : Cx} {N : List Str} (hN : X.N = N) {s : Shared} {H : Hp} {sc0 scope : Scope} {C : Addr} {cl : List (Str × Addr)} {fp : List Addr} {own : List (Str × Nat)} (h : blkC N sc0 scope own = true) :
    BlkOk (X.blk s H sc0 (compEnvC sc0 cl C X.env) fp).N (X.blk s H sc0 (compEnvC sc0 cl C X.env) fp).env.scope scope own := by
  subst hN
  have b := blkOk_by h
  refine ⟨b.kind, b.uniq, b.ix, fun y hy hf => ?_, b.own⟩
  refine look_map (f := fun _ => true) _ _ (b.free y hy hf) _ fun n k => ?_
  by_cases c : (k == NameKind.free && X.env.scope.kind == ScopeKind.function && X.env.kindOf n == some NameKind.cell) = true
  · right
    refine ⟨?_, if_pos c⟩
    have c1 : (k == NameKind.free) = true := by
      rw [Bool.and_eq_true, Bool.and_eq_true] at c
      exact c.1.1
    cases k <;> first | rfl | cases c1
  · left
    exact if_neg c
theorem given_range (v : Nat → V) : ∀ n, Evl.given n (fun _ => true) v = (List.range n).map v
  | 0 => rfl
  | n + 1 => by rw [Evl.given_yes rfl, given_range v n, List.range_succ, List.map_append]; rfl
/-- a comprehension whose parts leave the heap, without a test -/
theorem lc_map {J : It} {n j : Nat} {G : Hp → Prop} {Y : Nat → Hp → V → Hp → Prop} {xs v : Nat → V} {σ : L2.St} {H : Hp} {Q : VK} {te : TE} (w : Walk J n G Y) (hY : ∀ i H x H', i < n → Y i H x H' → H' = H ∧ x = xs i) (hG : ∀ Hc, Ex H Hc → G Hc) (hn : n < 100000)
    (he : ∀ i Hc, i < n → Ex H Hc → Val te ((wipe σ [j]).set j (some (xs i))) Hc (v i))
    (h : ∀ L, H L = none → Q (.ref L) (upd H L (.lst ((List.range n).map v)))) : lcB (gName j) tYes te [j] σ Q J H := by
  refine lc_pure (f := fun _ => true) w hY hG hn (fun _ _ _ _ => ans_yes) (fun i Hc hi e _ => he i Hc hi e) fun L hL => ?_
  rw [given_range]
  exact h L hL
theorem walk_range0 {n : Nat} : Walk (Itr 0 n) n (fun _ => True) fun i H x H' => H' = H ∧ x = V.int (i : Nat) := by
  obtain ⟨a, b, c⟩ := walk_range (lo := 0) (n := n)
  refine ⟨a, b, fun i H x H' hi g y => ?_⟩
  have := c i H x H' hi g y
  refine ⟨this.1, ?_⟩
  rw [this.2]
  show V.int (0 + (i : Int)) = _
  rw [Int.zero_add]
theorem fmod_nat (a m : Nat) : Int.fmod (a : Int) (m : Int) = ((a % m : Nat) : Int) := by
  rw [Int.fmod_eq_emod_of_nonneg _ (Int.natCast_nonneg m)]
  rfl
theorem fold_app (c : Nat) : ∀ (k : Nat) (a : Array Nat), (List.foldl (fun x y => x ++ y) a (List.replicate k #[c])).toList = a.toList ++ List.replicate k c
  | 0, a => by simp
  | k + 1, a => by
    rw [List.replicate_succ, List.foldl_cons, fold_app c k, List.replicate_succ]
    simp
theorem mul_sign (c : Nat) (n : Int) (h : 0 < n) : (Txt.mul ⟨#[c]⟩ n).cps.toList = List.replicate n.toNat c := by
  unfold Txt.mul
  rw [if_neg (by omega)]
  by_cases e : n = 1
  · subst e; rfl
  · have hb : (n == 1 || (⟨#[c]⟩ : Str).length == 0) = false := by
      have : (⟨#[c]⟩ : Str).length = 1 := rfl
      simp [e, this]
    rw [if_neg (by rw [hb]; decide)]
    show (List.foldl (fun x y => x ++ y) #[] (List.replicate n.toNat #[c])).toList = _
    rw [fold_app]
    rfl
theorem ixN_nat {n j : Nat} (h : j < n) : ixN n (j : Int) = some j := by
  unfold ixN
  rw [if_pos (Int.natCast_nonneg j), if_pos (by omega), Int.toNat_natCast]
theorem seqIndex_nat {n j : Nat} (h : j < n) : seqIndex? (j : Int) n = some j := by
  unfold seqIndex?
  have h0 : ¬ (j : Int) < 0 := by omega
  simp only [h0, if_false]
  rw [if_pos (by simp; omega), Int.toNat_natCast]
theorem erase_map {α β : Type} (f : α → β) : ∀ (l : List α) (j : Nat), (l.map f).eraseIdx j = (l.eraseIdx j).map f
  | [], _ => rfl
  | _ :: _, 0 => rfl
  | a :: l, j + 1 => by
    show f a :: (l.map f).eraseIdx j = f a :: (l.eraseIdx j).map f
    rw [erase_map f l j]
theorem mulOk_sign (c : Nat) {n : Int} (h0 : 0 < n) (h1 : n < 100000) : MulOk ⟨#[c]⟩ n := by
  have e : (⟨#[c]⟩ : Str).length = 1 := rfl
  refine ⟨by simp; omega, fun _ _ => ?_, fun _ _ => ?_⟩
  · rw [e]
    intro hh
    have : ((2:Int) ^ 63 - 1) / n ≥ 1 := by
      refine Int.le_ediv_of_mul_le h0 ?_
      omega
    omega
  · rw [e]
    unfold Builtin.Str.tooLong
    have : sizeLine ≥ 100000 := by decide
    exact decide_eq_false (by omega)
theorem first_at {l : List Nat} {c : Nat} {r : List Nat} (h : l = c :: r) : l.idxOf c = 0 := by
  rw [h]
  exact List.idxOf_cons_self
theorem atI_last {α : Type} {l : List α} (h : 0 < l.length) : atI l (-1) = some (l[l.length - 1]'(by omega)) := by
  have e : ixN l.length (-1) = some (l.length - 1) := by
    unfold ixN
    rw [if_neg (by decide), if_pos (by omega)]
    congr 1
    omega
  show (ixN l.length (-1)).bind (fun j => l[j]?) = _
  rw [e]
  exact List.getElem?_eq_getElem _
end AT

set_option Elab.async false
set_option linter.all false
set_option maxRecDepth 100000
set_option maxHeartbeats 4000000
/-! own words, third part: a law's own def, run where nothing is being shown; the repr of data -/
namespace AT
open PySem PySem.Spec L2
/-- as FnOk, but only where no repr is under way -/
structure FnG (P : Program) (w : World) (K : PySem.W.Frag) (mg : Str → Option Value) (base : Heap) (CX : CXT) (k : Nat) (f : Addr) (fd : FuncData) (ps : List Str) (sp : Sp) : Prop where
  len : ∀ vs H Q E, sp vs H Q E → vs.length = ps.length
  run : ∀ (A : Around) (outer : List Env) (s : Shared) (H : Hp) (args : Args) (us : List Value) (vs : List V) (Q : VK) (E : XK), A.guards = some [] → Room k A → Env0 P w K mg base A outer s H → BindsTo s fd args (ps.zip us) → Vals vs us → sp vs H Q E →
    codeAny (model P w) A (.call (.ref f) args) (CR CX outer P w H s Q E) s
theorem fn_ofG {CX : CXT} {P : Program} {w : World} {K : PySem.W.Frag} {mg : Str → Option Value} {base : Heap} {k : Nat} {f : Addr} {name qual : Str} {params : Arguments} {body : List Stmt} {scope : Scope} {dV kV doc pm cdv ct oc : Value} {an od : Option Addr} {osl : Array (Option Value)} {N ps : List Str} {sp : Sp}
    (lk : List.lookup f K = some { cls := oc, dict := od, data := Data.func (PySem.W.fnOf name qual params body scope dV kV doc pm an cdv ct), slots := osl }) (hcd : PySem.W.codeIn K cdv qual = true) (S : FnScope N ps scope)
    (len : ∀ vs H Q E, sp vs H Q E → vs.length = ps.length)
    (hb : ∀ (A : Around) (outer : List Env) (s : Shared) (H : Hp) (vs : List V) (Q : VK) (E : XK), A.guards = some [] → Room k (A.deeper (PyProof.Rows.envOfC qual scope s.heap.objs.size f cdv)) → sp vs H Q E →
      ∃ t, PSs (cxOf CX P w K mg base N qual scope f cdv A outer s H E) body t ∧ t { nx := fun _ H' => Q .non H', rt := Q } (L2.start N vs) H) :
    FnG P w K mg base CX (k + 1) f (PySem.W.fnOf name qual params body scope dV kV doc pm an cdv ct) ps sp := by
  refine ⟨len, fun A outer s H args us vs Q E hg hr e0 bd rv hsp => ?_⟩
  have hl := len vs H Q E hsp
  have KX : K.In s.heap := e0.mod.kin.keeps fun b o e => (e0.bs b o e).1
  have lim : s.heap.NoLimit := e0.mod.nolimit.keeps fun b o e => (e0.bs b o e).1
  refine codeAny_call_function hr.depth (KX f _ lk) rfl S.co S.gen rfl (PySem.W.codeRec_of KX hcd) (bd _ _ _ _ ?_)
  refine wpAny_newFunctionEnv_cells S.kind (fun x hx => ?_) fun env he s1 x => ?_
  · obtain ⟨n, v⟩ := x
    rcases S.par n (List.of_mem_zip hx).1 with q | q
    · exact .inl q
    · exact .inr ⟨q, PySem.W.cellsFrom_some scope.names (s.heap.objs.size + 1) [] (.inl q)⟩
  · subst he
    refine ⟨lim.keeps x.toInCall.keep, codeAny_func ?_⟩
    obtain ⟨t, ht, hq⟩ := hb A outer s H vs Q E hg (hr.deeper _) hsp
    have I := inv_start (CX := CX) (E := E) S hr.hd e0 hl rv x
    refine wpAny_mono (ht.run [] s1 (L2.start N vs) H _ I hq) (fun fl s' hs => ?_) fun e s' hs => hs
    cases fl with
    | next =>
      obtain ⟨σ', H', J, q⟩ := hs
      exact ⟨.non, H', J.os, J.bare, J.base, J.hok, rfl, q⟩
    | brk =>
      obtain ⟨_, _, _, q⟩ := hs
      exact q.elim
    | cont =>
      obtain ⟨_, _, _, q⟩ := hs
      exact q.elim
    | ret u =>
      obtain ⟨v, σ', H', J, rv, q⟩ := hs
      exact ⟨v, H', J.os, J.bare, J.base, J.hok, rv, q⟩
theorem _root_.L2.Fun.okG {P : Program} {w : World} {K : PySem.W.Frag} {mg : Str → Option Value} {base : Heap} {x qual : Str} {st : Stmt} {f : Addr} {fd : FuncData} {N ps : List Str} {k : Nat} {sp : Sp} (F : Fun K x qual st f fd) (S : FnScope N ps (defScope st)) (len : ∀ vs H Q E, sp vs H Q E → vs.length = ps.length)
    (hb : ∀ (cdv : Value) (A : Around) (outer : List Env) (s : Shared) (H : Hp) (vs : List V) (Q : VK) (E : XK), A.guards = some [] → Room k (A.deeper (PyProof.Rows.envOfC qual (defScope st) s.heap.objs.size f cdv)) → sp vs H Q E →
      ∃ t, PSs (cxOf CX0 P w K mg base N qual (defScope st) f cdv A outer s H E).nox (defBody st) t ∧ t { nx := fun _ H' => Q .non H', rt := Q } (L2.start N vs) H) : FnG P w K mg base CX0 (k + 1) f fd ps sp := by
  obtain ⟨oc, od, kV, doc, pm, an, cdv, ct, osl, rfl, lk, hcd⟩ := F.ex
  refine fn_ofG lk hcd S len fun A outer s H vs Q E hg hr hsp => ?_
  obtain ⟨t, h, q⟩ := hb cdv A outer s H vs Q E hg hr hsp
  exact ⟨t, PSs.nox h, q⟩
theorem law_callG {P : Program} {w : World} {K : PySem.W.Frag} {mg mb : Str → Option Value} {k : Nat} {fa a : Addr} {fd : FuncData} {x : Str} {sp : Sp} {s₁ : Shared} {vs : List Value} {ns : List Int}
    (KX : K.In s₁.heap) (hns : s₁.heap.Ns mainGlobals mg) (hb : s₁.heap.Ns builtinsNs mb) (hbb : ∀ x : Str, x ≠ "__name__" → mb x = bootBuiltins x) (hlim : s₁.heap.NoLimit) (hg : s₁.gens = #[]) (ha : s₁.heap.get? a = some { cls := .type "list", data := .seq vs.toArray })
    (hi : PyProof.Rows.IntsAre vs ns) (hl : ns.length ≤ sizeLine) (hr : Room k callerA) (F : ∀ base : Heap, K.In base → base.Ns mainGlobals mg → FnG P w K mg base CX0 k fa fd [x] sp) (hbind : ∀ (s : Shared) (u : Value), BindsTo s fd { pos := [u] } [(x, u)])
    (hsp : ∀ H : Hp, Only H → SqL K H a (ns.map V.int) → sp [.ref a] H (fun v _ => v = .bl true) E0) :
    codeAny (model P w) callerA (.call (.ref fa) { pos := [.ref a] }) (fun r s' => r = .ok (.ret (.bool true)) ∧ OldK s₁.heap s'.heap ∧ s'.os = s₁.os ∧ PyProof.Rows.AllBare s'.gens) s₁ := by
  have core : ∀ H : Hp, Only H → SqL K H a (ns.map V.int) → HOk P w H s₁.heap → (∀ b, H b ≠ none → b = a) → (H a ≠ none → K.lookup a = none) →
      codeAny (model P w) callerA (.call (.ref fa) { pos := [.ref a] }) (fun r s' => r = .ok (.ret (.bool true)) ∧ OldK s₁.heap s'.heap ∧ s'.os = s₁.os ∧ PyProof.Rows.AllBare s'.gens) s₁ := by
    intro H hO hS hok hA hK
    have nd : ∀ {b : Addr} {o : Obj} {es ep}, s₁.heap.get? b = some o → o.data = .dict es ep → H b = none := by
      intro b o es ep e d
      cases q : H b with
      | none => rfl
      | some u =>
        obtain rfl := hA b (by rw [q]; exact fun z => by cases z)
        rw [ha] at e
        obtain rfl := Option.some.inj e
        cases d
    have nsK : ∀ {b : Addr} {m : Str → Option Value}, s₁.heap.Ns b m → (hidT s₁.heap H).Ns b m := by
      rintro b m ⟨o, es, ep, e, d, r⟩
      exact ⟨o, es, ep, hidT_get e (nd e d), d, r⟩
    have hKb : K.In (hidT s₁.heap H) := fun b o e => hidT_get (KX b o e) (by
      cases q : H b with
      | none => rfl
      | some u =>
        have nb : H b ≠ none := by rw [q]; exact fun z => by cases z
        obtain rfl := hA b nb
        have z := hK nb
        rw [e] at z
        cases z)
    have hM : L2.Mod K mg (hidT s₁.heap H) := ⟨hKb, nsK hns, ⟨mb, nsK hb, hbb⟩, by
      obtain ⟨mc, h1, h2⟩ := hlim
      exact ⟨mc, nsK h1, h2⟩⟩
    have e0 : Env0 P w K mg (hidT s₁.heap H) callerA [] s₁ H := ⟨rfl, hM, fun b o e => of_hidT e, Nat.le_of_eq (hidT_size s₁.heap H), trivial, (fun b z => by cases z), hok, PyProof.Rows.AllBare.of_eq hg⟩
    refine codeAny_mono ((F (hidT s₁.heap H) hKb (nsK hns)).run callerA [] s₁ H { pos := [.ref a] } [.ref a] [.ref a] _ E0 rfl hr e0 (hbind s₁ (.ref a)) (.cons rfl .nil) (hsp H hO hS)) fun r s' z => ?_
    cases r with
    | error e => exact absurd z fun z => by cases z
    | ok fl =>
      cases fl with
      | next => exact z.elim
      | brk => exact z.elim
      | cont => exact z.elim
      | ret u =>
        obtain ⟨v, H', os, bare, un, hok', rv, rfl⟩ := z
        obtain rfl : u = .bool true := rv
        refine ⟨rfl, OldK.of_keep fun b o e => ?_, os, bare⟩
        cases q : H b with
        | none => exact un.keep b o e q (fun z => by cases z) (fun z => by cases z)
        | some u =>
          rcases hO b with z | ⟨ob, xs, z⟩
          · rw [z] at q; cases q
          · have z2 := un.frzs b ob (.lst xs) z
            have e1 := (hok b _ z).1
            have e2 := (hok' b _ z2).1
            rw [e] at e1
            rw [e2, e1]
  cases hk : K.lookup a with
  | none =>
    refine core (fun b => if b = a then some (.frz { cls := .type "list", data := .seq vs.toArray } (.lst (ns.map V.int))) else none) (fun b => ?_) (.inl (.inr ⟨_, if_pos rfl⟩)) (fun b u z => ?_) (fun b z => ?_) fun _ => hk
    · by_cases e : b = a
      · exact .inr ⟨_, _, if_pos e⟩
      · exact .inl (if_neg e)
    · by_cases e : b = a
      · subst e
        have z' := (if_pos rfl).symm.trans z
        obtain rfl := Option.some.inj z'
        exact ⟨ha, by rw [List.length_map]; exact hl, vs, _, vals_ints hi, ha⟩
      · have z' := (if_neg e).symm.trans z
        cases z'
    · by_cases e : b = a
      · exact e
      · exact absurd (if_neg e) z
  | some o =>
    refine core (fun _ => none) (fun _ => .inl rfl) ?_ (fun b u z => by cases z) (fun b z => absurd rfl z) fun z => absurd rfl z
    have e := KX a o hk
    rw [ha] at e
    obtain rfl := Option.some.inj e
    refine .inr ⟨_, vs.toArray, _, hk, rfl, rfl, rfl, ?_, vals_ints hi⟩
    have := PyProof.Rows.IntsAre.length hi
    rw [List.size_toArray]
    omega
theorem walk_ofG {l : PySem.W.OpenLaw} {n k : Nat} {q : Program} {loose : List Str} {XP : (Str → Option Value) → Heap → Prop} {YP : World → Heap → Prop} {d : DefRec} {K : Params → PySem.W.Frag} {sp : PySem.W.Frag → Sp} {x : Str}
    (hn : l.most = some n) (hn2 : n ≤ sizeLine) (hdf : d.params.defaults = []) (hr : Room k callerA) (hY : ∀ (w : World) (h : Heap), YP w h → (K w.params).In h)
    (F : ∀ (w : World) (mg : Str → Option Value) (fa : Addr) (h : Heap), (K w.params).In h → h.Ns mainGlobals mg → mg d.name = some (.ref fa) → ∃ fd, (∀ (s : Shared) (u : Value), BindsTo s fd { pos := [u] } [(x, u)]) ∧ ∀ base : Heap, (K w.params).In base → base.Ns mainGlobals mg → FnG l.prog w (K w.params) mg base CX0 k fa fd [x] (sp (K w.params)))
    (hsp : ∀ (K : PySem.W.Frag) (H : Hp) (a : Addr) (ns : List Int), ns.length ≤ n → Only H → SqL K H a (ns.map V.int) → sp K [.ref a] H (fun v _ => v = .bl true) E0) : PySem.W.WalkO q loose XP YP l.row.toRowW d [] fun f vs => PySem.call f vs :=
  Att.attach_call hn hdf fun w s₀ s₁ mg mb fa o pm cd doc a vs ns G Y ho hd hcd hmg hobj hints hlen hg => by
    obtain ⟨fd, hb, hF⟩ := F w mg fa s₁.heap (hY w s₁.heap Y) G.T.g hmg
    exact law_callG (hY w s₁.heap Y) G.T.g G.T.b G.T.builtins G.T.nolimit hg hobj hints (Nat.le_trans hlen hn2) hr hF hb fun H hO hS => hsp _ H a ns hlen hO hS
/-- repr(v): v lists and tuples of plain values -/
def cReprD (K : PySem.W.Frag) : List V → Hp → VK → Prop := fun xs H Q => cRepr xs H Q ∨ ∃ (a : Addr) (d : PyData), xs = [.ref a] ∧ Dp K H (.ref a) d ∧ d.showable = true ∧ d.hasDict = false ∧ d.depth ≤ 60 ∧ d.shown.length ≤ sizeLine ∧ Q (.str d.shown) H
theorem call_reprD {X : Cx} (hg : X.A.guards = some []) (hu : X.A.units + 64 < cLine) : CallR X (.builtin "repr") (cReprD X.K) := by
  refine CallR.or call_reprP ?_
  intro P s σ H vs us Q I r h
  obtain ⟨a, d, rfl, hd, sh, nd, dl, sl, q⟩ := h
  obtain ⟨u, rfl, ru⟩ := vals1 r
  cases (show u = Value.ref a from ru)
  obtain ⟨as, rd⟩ := Dp.reads I d _ _ hd ru
  refine repr_of_reads' rd sh (fun z => by rw [nd] at z; cases z) hg (by omega) (fun b o e => e) (fun h' u tk hk => ?_) sl
  exact ⟨.str d.shown, H, I.kept hk, ⟨u, rfl⟩, q⟩
/-! ### how long what is shown may be -/
theorem join_len (sep : Str) (B : Nat) : ∀ ss : List Str, (∀ s ∈ ss, s.length ≤ B) → (Str.join sep ss).length ≤ ss.length * (B + sep.length)
  | [], _ => by unfold Str.join; exact Nat.zero_le _
  | [x], h => by
    unfold Str.join
    have := h x List.mem_cons_self
    simp
    omega
  | x :: y :: r, h => by
    have ih := join_len sep B (y :: r) fun s hs => h s (List.mem_cons_of_mem _ hs)
    have hx := h x List.mem_cons_self
    unfold Str.join
    rw [TL.len_tl, TL.tl_append, TL.tl_append, List.length_append, List.length_append, ← TL.len_tl, ← TL.len_tl, ← TL.len_tl]
    rw [List.length_cons, Nat.succ_mul]
    omega
theorem tuple_len {B : Nat} {ss : List Str} (h : ∀ s ∈ ss, s.length ≤ B) : (tupleText ss).length ≤ ss.length * (B + 2) + 3 := by
  have j := join_len (Str.ofString ", ") B ss h
  have e2 : (Str.ofString ", ").length = 2 := by decide +kernel
  rw [e2] at j
  unfold tupleText
  rw [TL.len_tl, TL.tl_append, TL.tl_append, List.length_append, List.length_append, ← TL.len_tl, ← TL.len_tl, ← TL.len_tl]
  have e1 : (Str.ofString "(").length = 1 := by decide +kernel
  have e3 : (Str.ofString (if (ss.length == 1) = true then ",)" else ")")).length ≤ 2 := by
    cases (ss.length == 1) <;> decide +kernel
  omega
theorem foldl_len {f : Nat → Array Nat} {B : Nat} : ∀ (l : List Nat) (a : Array Nat), (∀ c ∈ l, (f c).size ≤ B) → (l.foldl (fun out c => out ++ f c) a).size ≤ a.size + l.length * B
  | [], a, _ => by simp
  | c :: l, a, h => by
    have ih := foldl_len (f := f) (B := B) l (a ++ f c) fun d hd => h d (List.mem_cons_of_mem _ hd)
    have hc := h c List.mem_cons_self
    rw [List.foldl_cons, List.length_cons, Nat.succ_mul]
    rw [Array.size_append] at ih
    omega
theorem repr_len {z : Str} {B : Nat} (h : ∀ c ∈ z.cps.toList, (Builtin.Str.reprChar (reprQuote z) c).length ≤ B) : (reprText z).length ≤ 2 + z.length * B := by
  show ((Array.foldl (fun out c => out ++ (Builtin.Str.reprChar (reprQuote z) c).toArray) #[reprQuote z] z.cps).push (reprQuote z)).size ≤ _
  rw [Array.size_push, ← Array.foldl_toList]
  have := foldl_len (f := fun c => (Builtin.Str.reprChar (reprQuote z) c).toArray) (B := B) z.cps.toList #[reprQuote z] (fun c hc => by rw [List.size_toArray]; exact h c hc)
  have e : z.cps.toList.length = z.length := rfl
  rw [e] at this
  have e1 : (#[reprQuote z] : Array Nat).size = 1 := rfl
  omega
theorem quote_or (z : Str) : reprQuote z = 34 ∨ reprQuote z = 39 := by
  unfold reprQuote
  split
  · exact .inl rfl
  · exact .inr rfl
theorem repr_pl : ∀ c ∈ ("abcdefghijklmnopqrstuvwxyzABCDEFGHIJKLMNOPQRSTUVWXYZ0123456789<>=:_@#" : Str).cps.toList, (Builtin.Str.reprChar 34 c).length ≤ 10 ∧ (Builtin.Str.reprChar 39 c).length ≤ 10 := by decide +kernel
theorem small_text : ∀ n : Nat, n < 100 → (Str.ofString (toString (n : Int))).length ≤ 4 ∧ (n : Int).natAbs.log2 < 1920 := by decide +kernel
/-- data that may be shown: at most so long, so deep -/
structure Okd (d : PyData) (L D : Nat) : Prop where
  sh : d.showable = true
  nd : d.hasDict = false
  dp : d.depth ≤ D
  ln : d.shown.length ≤ L
theorem Okd.mono {d : PyData} {L D L' D' : Nat} (h : Okd d L D) (h1 : L ≤ L') (h2 : D ≤ D') : Okd d L' D' := ⟨h.sh, h.nd, Nat.le_trans h.dp h2, Nat.le_trans h.ln h1⟩
theorem Okd.bool (b : Bool) : Okd (.bool b) 5 0 := ⟨rfl, rfl, Nat.le_refl 0, by cases b <;> decide +kernel⟩
theorem Okd.int {n : Nat} (h : n < 100) : Okd (.int (n : Int)) 4 0 := ⟨decide_eq_true (small_text n h).2, rfl, Nat.le_refl 0, (small_text n h).1⟩
theorem Okd.str {z : Str} (h : ∀ c ∈ z.cps.toList, c ∈ ("abcdefghijklmnopqrstuvwxyzABCDEFGHIJKLMNOPQRSTUVWXYZ0123456789<>=:_@#" : Str).cps.toList) : Okd (.str z) (2 + z.length * 10) 0 := ⟨rfl, rfl, Nat.le_refl 0, repr_len fun c hc => by
  rcases quote_or z with e | e <;> rw [e]
  · exact (repr_pl c (h c hc)).1
  · exact (repr_pl c (h c hc)).2⟩
theorem all_okd {L D : Nat} : ∀ xs : List PyData, (∀ x ∈ xs, Okd x L D) → PyData.showableAll xs = true ∧ PyData.hasDictAll xs = false ∧ PyData.depthAll xs ≤ D ∧ (∀ s ∈ PyData.shownAll xs, s.length ≤ L) ∧ (PyData.shownAll xs).length = xs.length
  | [], _ => ⟨rfl, rfl, Nat.zero_le _, (fun s hs => by cases hs), rfl⟩
  | x :: xs, h => by
    obtain ⟨a, b, c, d, e⟩ := all_okd xs fun y hy => h y (List.mem_cons_of_mem _ hy)
    have hx := h x List.mem_cons_self
    refine ⟨?_, ?_, ?_, fun s hs => ?_, ?_⟩
    · show (x.showable && PyData.showableAll xs) = true
      rw [hx.sh, a]; rfl
    · show (x.hasDict || PyData.hasDictAll xs) = false
      rw [hx.nd, b]; rfl
    · show max x.depth (PyData.depthAll xs) ≤ D
      exact Nat.max_le.mpr ⟨hx.dp, c⟩
    · have hs' : s ∈ x.shown :: PyData.shownAll xs := hs
      rcases List.mem_cons.mp hs' with z | z
      · rw [z]; exact hx.ln
      · exact d s z
    · show (x.shown :: PyData.shownAll xs).length = _
      rw [List.length_cons, e]
      rfl
theorem Okd.tuple {L D : Nat} {xs : List PyData} (h : ∀ x ∈ xs, Okd x L D) : Okd (.tuple xs) (xs.length * (L + 2) + 3) (D + 1) := by
  obtain ⟨a, b, c, d, e⟩ := all_okd xs h
  refine ⟨a, b, Nat.succ_le_succ c, ?_⟩
  have := tuple_len d
  rw [e] at this
  exact this
section
variable {X : Cx} (K : PySem.W.Frag)
theorem kReprD (hg : X.A.guards = some []) (hu : X.A.units + 64 < cLine) (hK : X.K = K := by rfl) : CallR X (.builtin "repr") (cReprD K) := hK ▸ call_reprD hg hu
end
theorem rd_reprBD {K : PySem.W.Frag} {b : Bool} {H : Hp} {Q : VK} (h : Q (.str (if b then "True" else "False")) H) : cReprD K [.bl b] H Q := .inl (rd_reprB h)
theorem rd_reprD {K : PySem.W.Frag} {a : Addr} {d : PyData} {L D : Nat} {H : Hp} {Q : VK} (h1 : Dp K H (.ref a) d) (h2 : Okd d L D) (hL : L ≤ sizeLine) (hD : D ≤ 60) (h : Q (.str d.shown) H) : cReprD K [.ref a] H Q := .inr ⟨a, d, rfl, h1, h2.sh, h2.nd, Nat.le_trans h2.dp hD, Nat.le_trans h2.ln hL, h⟩
/-! ### signs, joined -/
theorem fold_signs : ∀ (cs : List Nat) (a : Array Nat), (List.foldl (fun acc (p : Str) => acc ++ (Str.ofString "").cps ++ p.cps) a (cs.map fun c => (⟨#[c]⟩ : Str))).toList = a.toList ++ cs
  | [], a => by simp
  | c :: cs, a => by
    rw [List.map_cons, List.foldl_cons, fold_signs cs]
    have e : (Str.ofString "").cps = #[] := by decide +kernel
    rw [e]
    simp
theorem join_signs (cs : List Nat) : (Txt.join "" (cs.map fun c => (⟨#[c]⟩ : Str))).cps.toList = cs := by
  cases cs with
  | nil => rfl
  | cons c cs =>
    show (List.foldl (fun acc (p : Str) => acc ++ (Str.ofString "").cps ++ p.cps) #[c] (cs.map fun c => (⟨#[c]⟩ : Str))).toList = _
    rw [fold_signs cs #[c]]
    rfl
theorem sum_signs : ∀ cs : List Nat, ((cs.map fun c => (⟨#[c]⟩ : Str)).map (·.length)).sum = cs.length
  | [] => rfl
  | c :: cs => by
    rw [List.map_cons, List.map_cons, List.sum_cons, sum_signs cs, List.length_cons]
    show 1 + cs.length = cs.length + 1
    omega
end AT

set_option Elab.async false
set_option linter.all false
set_option maxRecDepth 100000
set_option maxHeartbeats 4000000
/-! own words, fourth part: values as data, a heap with a hidden part that changes -/
namespace AT
open PySem PySem.Spec L2
section
variable {K : PySem.W.Frag}
mutual
theorem Dp.ex' {H H' : Hp} (e : Ex H H') : ∀ (d : PyData) {v : V}, Dp K H v d → Dp K H' v d
  | .none, _, h => by cases h; exact .non
  | .bool b, _, h => by cases h; exact .bl b
  | .int i, _, h => by cases h; exact .int i
  | .str x, _, h => by cases h; exact .str x
  | .list ds, _, h => by
    cases h with
    | lst hs ha => exact .lst (Evl.ex_l e hs) (DpAll.ex' e ds ha)
  | .tuple ds, _, h => by
    cases h with
    | tup hs ha => exact .tup (Evl.ex_t e hs) (DpAll.ex' e ds ha)
  | .dict _, _, h => by cases h
theorem DpAll.ex' {H H' : Hp} (e : Ex H H') : ∀ (ds : List PyData) {vs : List V}, DpAll K H vs ds → DpAll K H' vs ds
  | [], _, h => by cases h; exact .nil
  | d :: ds, _, h => by
    cases h with
    | cons h1 h2 => exact .cons (Dp.ex' e d h1) (DpAll.ex' e ds h2)
end
theorem _root_.L2.Dp.ex {H H' : Hp} {v : V} {d : PyData} (h : Dp K H v d) (e : Ex H H') : Dp K H' v d := Dp.ex' e d h
theorem _root_.L2.DpAll.ex {H H' : Hp} {vs : List V} {ds : List PyData} (h : DpAll K H vs ds) (e : Ex H H') : DpAll K H' vs ds := DpAll.ex' e ds h
theorem _root_.L2.DpAll.len {H : Hp} : ∀ {vs : List V} {ds : List PyData}, DpAll K H vs ds → vs.length = ds.length
  | _, _, .nil => rfl
  | _, _, .cons _ t => by rw [List.length_cons, List.length_cons, t.len]
theorem _root_.L2.DpAll.get {H : Hp} : ∀ {vs : List V} {ds : List PyData} {i : Nat} {d : PyData}, DpAll K H vs ds → ds[i]? = some d → ∃ v, vs[i]? = some v ∧ Dp K H v d
  | _, _, i, d, .nil, e => by simp at e
  | _, _, 0, d, .cons (v := v) h _, e => by
    simp at e
    subst e
    exact ⟨v, rfl, h⟩
  | _, _, i + 1, d, .cons _ t, e => by
    obtain ⟨v, h1, h2⟩ := t.get (i := i) (d := d) (by simpa using e)
    exact ⟨v, by simpa using h1, h2⟩
theorem _root_.L2.DpAll.got {H : Hp} {vs : List V} {ds : List PyData} {i : Nat} {v : V} (h : DpAll K H vs ds) (e : vs[i]? = some v) : ∃ d, ds[i]? = some d ∧ Dp K H v d := by
  have hl : i < vs.length := (List.getElem?_eq_some_iff.mp e).1
  have hd : i < ds.length := by rw [← h.len]; exact hl
  obtain ⟨v', h1, h2⟩ := h.get (List.getElem?_eq_getElem hd)
  rw [h1] at e
  obtain rfl := Option.some.inj e
  exact ⟨_, List.getElem?_eq_getElem hd, h2⟩
theorem _root_.L2.DpAll.app {H : Hp} : ∀ {vs : List V} {ds : List PyData} {us : List V} {es : List PyData}, DpAll K H vs ds → DpAll K H us es → DpAll K H (vs ++ us) (ds ++ es)
  | _, _, _, _, .nil, h => h
  | _, _, _, _, .cons h t, q => .cons h (t.app q)
theorem _root_.L2.DpAll.snoc {H : Hp} {vs : List V} {ds : List PyData} {v : V} {d : PyData} (h : DpAll K H vs ds) (q : Dp K H v d) : DpAll K H (vs ++ [v]) (ds ++ [d]) := h.app (.cons q .nil)
theorem DpAll.of {H : Hp} : ∀ {vs : List V} {ds : List PyData}, vs.length = ds.length → (∀ (i : Nat) v d, vs[i]? = some v → ds[i]? = some d → Dp K H v d) → DpAll K H vs ds
  | [], [], _, _ => .nil
  | [], _ :: _, h, _ => by cases h
  | _ :: _, [], h, _ => by cases h
  | v :: vs, d :: ds, h, g => .cons (g 0 v d rfl rfl) (DpAll.of (Nat.succ.inj h) fun i v d h1 h2 => g (i + 1) v d (by simpa using h1) (by simpa using h2))
theorem _root_.L2.DpAll.erase {H : Hp} : ∀ {vs : List V} {ds : List PyData} (i : Nat), DpAll K H vs ds → DpAll K H (vs.eraseIdx i) (ds.eraseIdx i)
  | _, _, _, .nil => .nil
  | _, _, 0, .cons _ t => t
  | _, _, i + 1, .cons h t => .cons h (t.erase i)
theorem _root_.L2.DpAll.set {H : Hp} {v : V} {d : PyData} (q : Dp K H v d) : ∀ {vs : List V} {ds : List PyData} (i : Nat), DpAll K H vs ds → DpAll K H (vs.set i v) (ds.set i d)
  | _, _, _, .nil => .nil
  | _, _, 0, .cons _ t => .cons q t
  | _, _, i + 1, .cons h t => .cons h (t.set q i)
theorem DpAll.mapV {α : Type} {H : Hp} (f : α → V) (g : α → PyData) (l : List α) (h : ∀ x ∈ l, Dp K H (f x) (g x)) : DpAll K H (l.map f) (l.map g) := by
  induction l with
  | nil => exact .nil
  | cons x l ih => exact .cons (h x List.mem_cons_self) (ih fun y hy => h y (List.mem_cons_of_mem _ hy))
/-! the shapes of values -/
theorem Dp.non_iff {H : Hp} {v : V} (h : Dp K H v .none) : v = .non := by cases h; rfl
theorem Dp.int_iff {H : Hp} {v : V} {i : Int} (h : Dp K H v (.int i)) : v = .int i := by cases h; rfl
theorem Dp.str_iff {H : Hp} {v : V} {i : Str} (h : Dp K H v (.str i)) : v = .str i := by cases h; rfl
theorem Dp.bl_iff {H : Hp} {v : V} {i : Bool} (h : Dp K H v (.bool i)) : v = .bl i := by cases h; rfl
theorem Dp.lstv {H : Hp} {v : V} {ds : List PyData} (h : Dp K H v (.list ds)) : ∃ a vs, v = .ref a ∧ SqL K H a vs ∧ DpAll K H vs ds := by
  cases h with
  | lst hs ha => exact ⟨_, _, rfl, hs, ha⟩
theorem Dp.tupv {H : Hp} {v : V} {ds : List PyData} (h : Dp K H v (.tuple ds)) : ∃ a vs, v = .ref a ∧ SqT K H a vs ∧ DpAll K H vs ds := by
  cases h with
  | tup hs ha => exact ⟨_, _, rfl, hs, ha⟩
/-! ### the hidden part -/
def hid (S : List Addr) (H : Hp) : Hp := fun b => if b ∈ S then none else H b
theorem hid_at {S : List Addr} {H : Hp} {b : Addr} (h : b ∉ S) : hid S H b = H b := if_neg h
theorem hid_in {S : List Addr} {H : Hp} {b : Addr} (h : b ∈ S) : hid S H b = none := if_pos h
theorem hid_nil {H : Hp} : hid [] H = H := by
  funext b
  exact if_neg List.not_mem_nil
theorem hid_some {S : List Addr} {H : Hp} {b : Addr} {o : HO} (h : hid S H b = some o) : b ∉ S ∧ H b = some o := by
  by_cases z : b ∈ S
  · rw [hid_in z] at h; cases h
  · exact ⟨z, by rw [hid_at z] at h; exact h⟩
theorem hid_ex {S : List Addr} {H : Hp} : Ex (hid S H) H := fun b o h => (hid_some h).2
theorem hid_sub {S S' : List Addr} {H : Hp} (h : ∀ b ∈ S', b ∈ S) : Ex (hid S H) (hid S' H) := fun b o q => by
  obtain ⟨h1, h2⟩ := hid_some q
  rw [hid_at fun z => h1 (h b z)]
  exact h2
theorem hid_tail {q : Addr} {S : List Addr} {H : Hp} : Ex (hid (q :: S) H) (hid S H) := hid_sub fun _ hb => List.mem_cons_of_mem _ hb
/-- all but S stands -/
def Kp (S : List Addr) (H H' : Hp) : Prop := ∀ b o, b ∉ S → H b = some o → H' b = some o
theorem Kp.refl {S : List Addr} {H : Hp} : Kp S H H := fun _ _ _ h => h
theorem Kp.trans {S : List Addr} {H H1 H2 : Hp} (a : Kp S H H1) (b : Kp S H1 H2) : Kp S H H2 := fun x o hx h => b x o hx (a x o hx h)
theorem Kp.of_ex {S : List Addr} {H H' : Hp} (e : Ex H H') : Kp S H H' := fun b o _ h => e b o h
theorem Kp.ex {S : List Addr} {H H' : Hp} (k : Kp S H H') : Ex (hid S H) (hid S H') := fun b o q => by
  obtain ⟨h1, h2⟩ := hid_some q
  rw [hid_at h1]
  exact k b o h1 h2
theorem Kp.sub {S S' : List Addr} {H H' : Hp} (k : Kp S H H') (h : ∀ b ∈ S, b ∈ S') : Kp S' H H' := fun b o hb q => k b o (fun z => hb (h b z)) q
theorem Kp.put {S : List Addr} {H : Hp} {q : Addr} {o : HO} (h : q ∈ S) : Kp S H (upd H q o) := fun b u hb z => by
  rw [upd_ne (show b ≠ q from fun e => hb (by rw [e]; exact h))]
  exact z
theorem Kp.new {S : List Addr} {H : Hp} {q : Addr} {o : HO} (h : H q = none) : Kp S H (upd H q o) := Kp.of_ex (Evl.Ex.new h)
/-- from what stands in the one hidden part to the other -/
theorem Kp.up {M S : List Addr} {H0 H : Hp} (k : Kp M H0 H) (fr : ∀ q ∈ S, q ∉ M → H0 q = none) : Ex (hid M H0) (hid S H) := fun b o z => by
  obtain ⟨h1, h2⟩ := hid_some z
  rw [hid_at fun hb => ?_]
  · exact k b o h1 h2
  · have := fr b hb h1
    rw [h2] at this
    cases this
theorem Ex.hid {S : List Addr} {H H' : Hp} (e : Ex H H') : Ex (AT.hid S H) (AT.hid S H') := (Kp.of_ex (S := S) e).ex
/-- a list that was changed is let be -/
theorem Dp.frz {S : List Addr} {H : Hp} {q : Addr} {vs : List V} {ds : List PyData} (hq : H q = some (.lst vs)) (hn : q ∉ S) (h : DpAll K (hid (q :: S) H) vs ds) : Dp K (hid S H) (.ref q) (.list ds) :=
  .lst (SqL.of (by rw [hid_at hn]; exact hq)) (h.ex hid_tail)
theorem Dp.frz' {S : List Addr} {H : Hp} {q : Addr} {vs : List V} {ds : List PyData} (hq : H q = some (.lst vs)) (hn : q ∉ S) (h : DpAll K (hid S H) vs ds) : Dp K (hid S H) (.ref q) (.list ds) :=
  .lst (SqL.of (by rw [hid_at hn]; exact hq)) h
/-- a new list, a new tuple -/
theorem notin_of {S : List Addr} {H : Hp} {q : Addr} (hs : ∀ b ∈ S, ∃ o, H b = some o) (hq : H q = none) : q ∉ S := fun z => by
  obtain ⟨o, ho⟩ := hs q z
  rw [hq] at ho
  cases ho
theorem Dp.newT {S : List Addr} {H : Hp} {q : Addr} {vs : List V} {ds : List PyData} (hq : H q = none) (hn : q ∉ S) (h : DpAll K (hid S H) vs ds) : Dp K (hid S (upd H q (.tup vs))) (.ref q) (.tuple ds) :=
  .tup (Evl.st_of (by rw [hid_at hn, upd_same])) (h.ex (Ex.hid (Evl.Ex.new hq)))
theorem Dp.newL {S : List Addr} {H : Hp} {q : Addr} {vs : List V} {ds : List PyData} (hq : H q = none) (hn : q ∉ S) (h : DpAll K (hid S H) vs ds) : Dp K (hid S (upd H q (.lst vs))) (.ref q) (.list ds) :=
  .lst (SqL.of (by rw [hid_at hn, upd_same])) (h.ex (Ex.hid (Evl.Ex.new hq)))
/-! ### reading -/
section
variable {σ : L2.St} {H H0 : Hp} {Q : VK} {x : V} {ds : List PyData} {d : PyData} {i : Nat}
theorem rd_ixDT (e : Ex H0 H) (h : Dp K H0 x (.tuple ds)) (hi : ds[i]? = some d) (q : ∀ v, Dp K H0 v d → Q v H) : rIx K x (.int (i : Int)) H Q := by
  obtain ⟨a, vs, rfl, h1, h2⟩ := Dp.tupv h
  obtain ⟨v, hv, hd⟩ := h2.get hi
  exact rd_ixT (Evl.ex_t e h1) (atI_nat hv) (q v hd)
theorem rd_ixDL (e : Ex H0 H) (h : Dp K H0 x (.list ds)) (hi : ds[i]? = some d) (q : ∀ v, Dp K H0 v d → Q v H) : rIx K x (.int (i : Int)) H Q := by
  obtain ⟨a, vs, rfl, h1, h2⟩ := Dp.lstv h
  obtain ⟨v, hv, hd⟩ := h2.get hi
  exact rd_ixL (Evl.ex_l e h1) (atI_nat hv) (q v hd)
theorem rd_lenDT (e : Ex H0 H) (h : Dp K H0 x (.tuple ds)) (q : Q (.int (ds.length : Int)) H) : cLen K [x] H Q := by
  obtain ⟨a, vs, rfl, h1, h2⟩ := Dp.tupv h
  exact rd_lenT (Evl.ex_t e h1) (by rw [h2.len]; exact q)
theorem rd_lenDL (e : Ex H0 H) (h : Dp K H0 x (.list ds)) (q : Q (.int (ds.length : Int)) H) : cLen K [x] H Q := by
  obtain ⟨a, vs, rfl, h1, h2⟩ := Dp.lstv h
  exact rd_lenL (Evl.ex_l e h1) (by rw [h2.len]; exact q)
def oIs : R2 := fun x y H Q => y = .non ∧ Q (.bl (decide (x = .non))) H
theorem rd_is {P : Prop} (h : P) : V.non = V.non ∧ P := ⟨rfl, h⟩
/-- == of the same data -/
def Lay (d : PyData) : Prop := d.canLay0 = true ∧ d.depth ≤ 64
theorem Lay.sh {d : PyData} (h : Lay d) : SeqAt.shaped d = true := Bool.and_eq_true_iff.mpr ⟨h.1, decide_eq_true h.2⟩
theorem rd_eqD {y : V} {H1 : Hp} (e0 : Ex H0 H) (e1 : Ex H1 H) (hx : Dp K H0 x d) (hy : Dp K H1 y d) (hl : Lay d) (q : Q (.bl true) H) : oEq K x y H Q :=
  .inr ⟨d, d, hx.ex e0, hy.ex e1, hl.sh, hl.sh, by rw [SeqAt.eqv_refl d hl.1]; exact q⟩
theorem rd_neD {y : V} {H1 : Hp} (e0 : Ex H0 H) (e1 : Ex H1 H) (hx : Dp K H0 x d) (hy : Dp K H1 y d) (hl : Lay d) (q : Q (.bl false) H) : oNe K x y H Q :=
  .inr ⟨d, d, hx.ex e0, hy.ex e1, hl.sh, hl.sh, by rw [SeqAt.eqv_refl d hl.1]; exact q⟩
end
/-- data that may be compared: at most so deep -/
structure Ly (d : PyData) (n : Nat) : Prop where
  c : d.canLay0 = true
  p : d.depth ≤ n
theorem Ly.lay {d : PyData} {n : Nat} (h : Ly d n) (hn : n ≤ 64) : Lay d := ⟨h.c, Nat.le_trans h.p hn⟩
theorem Ly.mono {d : PyData} {n m : Nat} (h : Ly d n) (hn : n ≤ m) : Ly d m := ⟨h.c, Nat.le_trans h.p hn⟩
theorem Ly.none : Ly .none 0 := ⟨rfl, Nat.le_refl 0⟩
theorem Ly.bool {b : Bool} : Ly (.bool b) 0 := ⟨rfl, Nat.le_refl 0⟩
theorem Ly.int {i : Int} : Ly (.int i) 0 := ⟨rfl, Nat.le_refl 0⟩
theorem Ly.str {x : Str} (h : okS x) : Ly (.str x) 0 := ⟨h, Nat.le_refl 0⟩
theorem ly_all {n : Nat} : ∀ {ds : List PyData}, (∀ d ∈ ds, Ly d n) → PyData.canLayAll0 ds = true ∧ PyData.depthAll ds ≤ n
  | [], _ => ⟨rfl, Nat.zero_le _⟩
  | d :: ds, h => by
    obtain ⟨a, b⟩ := ly_all (ds := ds) fun y hy => h y (List.mem_cons_of_mem _ hy)
    have hx := h d List.mem_cons_self
    refine ⟨?_, Nat.max_le.mpr ⟨hx.p, b⟩⟩
    show (d.canLay0 && PyData.canLayAll0 ds) = true
    rw [hx.c, a]; rfl
theorem Ly.tuple {n : Nat} {ds : List PyData} (h : ∀ d ∈ ds, Ly d n) : Ly (.tuple ds) (n + 1) := ⟨(ly_all h).1, Nat.succ_le_succ (ly_all h).2⟩
theorem Ly.list {n : Nat} {ds : List PyData} (h : ∀ d ∈ ds, Ly d n) : Ly (.list ds) (n + 1) := ⟨(ly_all h).1, Nat.succ_le_succ (ly_all h).2⟩
/-! ### walks over data -/
def YD (K : PySem.W.Frag) (ds : List PyData) (H0 : Hp) : Nat → Hp → V → Hp → Prop := fun i H v H' => H' = H ∧ ∃ d, ds[i]? = some d ∧ Dp K H0 v d
abbrev Wd (K : PySem.W.Frag) (J : It) (ds : List PyData) (H0 : Hp) : Prop := Walk J ds.length (fun H => Ex H0 H) (YD K ds H0)
theorem wd_list {H0 : Hp} {a : Addr} {vs : List V} {ds : List PyData} (h : SqL K H0 a vs) (hd : DpAll K H0 vs ds) : Wd K (Itl K a) ds H0 := by
  rw [Wd, ← hd.len]
  exact walk_list.mono (fun H e => Evl.ex_l e h) fun i H x H' _ _ y => ⟨y.1, hd.got y.2⟩
theorem wd_tup {H0 : Hp} {a : Addr} {vs : List V} {ds : List PyData} (h : SqT K H0 a vs) (hd : DpAll K H0 vs ds) : Wd K (Itt K a) ds H0 := by
  rw [Wd, ← hd.len]
  exact walk_tup.mono (fun H e => Evl.ex_t e h) fun i H x H' _ _ y => ⟨y.1, hd.got y.2⟩
section
variable {σ : L2.St} {H H0 : Hp} {Q : VK} {te : TE} {R : It → Hp → Prop} {D : Ends} {g : TG} {tb : TS} {tt : TT} {J : It} {ds : List PyData} {x : V} {vs : List Nat}
theorem rd_anyL' (h : te σ H fun x H1 => ∃ a, x = .ref a ∧ (∃ xs, SqL K H1 a xs) ∧ R (Itl K a) H1) : iAny K te σ H R := .inl h
theorem rd_anyT' (h : te σ H fun x H1 => ∃ a, x = .ref a ∧ (∃ xs, SqT K H1 a xs) ∧ R (Itt K a) H1) : iAny K te σ H R := .inr (.inl h)
theorem rd_anyS' (h : te σ H fun v H1 => ∃ x, v = .str x ∧ R (Its x) H1) : iAny K te σ H R := .inr (.inr h)
theorem rd_itDL (e : Ex H0 H) (h : Dp K H0 x (.list ds)) (q : ∀ J, Wd K J ds H0 → R J H) : ∃ a, x = .ref a ∧ (∃ xs, SqL K H a xs) ∧ R (Itl K a) H := by
  obtain ⟨a, vs, rfl, h1, h2⟩ := Dp.lstv h
  exact ⟨a, rfl, ⟨vs, Evl.ex_l e h1⟩, q _ (wd_list h1 h2)⟩
theorem rd_itDT (e : Ex H0 H) (h : Dp K H0 x (.tuple ds)) (q : ∀ J, Wd K J ds H0 → R J H) : ∃ a, x = .ref a ∧ (∃ xs, SqT K H a xs) ∧ R (Itt K a) H := by
  obtain ⟨a, vs, rfl, h1, h2⟩ := Dp.tupv h
  exact ⟨a, rfl, ⟨vs, Evl.ex_t e h1⟩, q _ (wd_tup h1 h2)⟩
theorem rd_itS {z : Str} (q : R (Its z) H) : ∃ x, V.str z = .str x ∧ R (Its x) H := ⟨z, rfl, q⟩
theorem fo_D (w : Wd K J ds H0) (Pv : Nat → L2.St → Hp → Prop) (h0 : Pv 0 σ H) (hG : ∀ i σ H, i ≤ ds.length → Pv i σ H → Ex H0 H)
    (hs : ∀ (i : Nat) d v σ H, ds[i]? = some d → Dp K H0 v d → Pv i σ H → g v σ H fun σ2 H2 => tb { D with nx := Pv (i + 1), ct := Pv (i + 1), bk := D.nx } σ2 H2) (hd : ∀ σ H, Pv ds.length σ H → D.nx σ H) : forB g tb D σ J H :=
  fo_it w Pv h0 hG (fun i v σ H H' hi p y => by
    obtain ⟨rfl, d, h1, h2⟩ := y
    exact hs i d v σ _ h1 h2 p) hd
/-- how the heap goes on from H: S may change, the rest stands -/
structure Tr (S : List Addr) (H : Hp) (T : Hp → Hp → Prop) : Prop where
  rfl' : T H H
  here : ∀ {a}, T H a → T a a
  st : ∀ {a b c}, T a b → (∃ o, a c = some o) → ∃ o : HO, b c = some o
  trans : ∀ {a b c}, T a b → T b c → T a c
  put : ∀ {L Hc o}, H L = none → T H Hc → T H (upd Hc L o)
  kp : ∀ {a b}, T a b → Kp S a b
theorem tr_ex {S : List Addr} {H : Hp} : Tr S H Ex := ⟨Evl.Ex.refl H, fun {a} _ => Evl.Ex.refl a, fun e h => h.elim fun o z => ⟨o, e _ _ z⟩, fun a b => a.trans b, fun h e => Evl.Ex.mut e h, fun e => Kp.of_ex e⟩
/-- a comprehension with a test, each value told by its turn -/
theorem lc_F {S : List Addr} {T : Hp → Hp → Prop} {n : Nat} {G : Hp → Prop} {Y : Nat → Hp → V → Hp → Prop} {P : Nat → V → Prop} {P2 : Nat → L2.St → Prop} (t : Tr S H T) (hS : ∀ b ∈ S, ∃ o, H b = some o) (w : Walk J n G Y) (hY : ∀ i H x H', i < n → Y i H x H' → H' = H ∧ P i x) (hn : n < 100000)
    (hG : ∀ Hc, T H Hc → G Hc) (p : Nat → Bool) (f : Nat → PyData)
    (hg : ∀ i x Hc (N : L2.St → Hp → Prop), i < n → P i x → T H Hc → (∀ σ2, wipe σ2 vs = wipe σ vs → P2 i σ2 → N σ2 Hc) → g x (wipe σ vs) Hc N)
    (ht : ∀ L i σ2 Hc, i < n → P2 i σ2 → H L = none → L ∉ S → T H Hc → (∀ b ∈ L :: S, ∃ o, Hc b = some o) → Ex (hid S H) (hid (L :: S) Hc) → ∀ N : Bool → Hp → Prop, (∀ H2, T Hc H2 → N (p i) H2) → tt σ2 Hc N)
    (he : ∀ L i σ2 Hc, i < n → P2 i σ2 → p i = true → H L = none → L ∉ S → T H Hc → (∀ b ∈ L :: S, ∃ o, Hc b = some o) → Ex (hid S H) (hid (L :: S) Hc) → ∀ N : VK, (∀ v H2, T Hc H2 → Dp K (hid (L :: S) H2) v (f i) → N v H2) → te σ2 Hc N)
    (h : ∀ L us Hc, T H Hc → H L = none → L ∉ S → Hc L = some (.lst us) → DpAll K (hid (L :: S) Hc) us (((List.range n).filter p).map f) → Q (.ref L) Hc) : lcB g tt te vs σ Q J H := by
  intro L hL
  have nL : L ∉ S := notin_of hS hL
  have up : ∀ {Hc}, T H Hc → Ex (hid S H) (hid (L :: S) Hc) := fun q => (t.kp q).up fun b hb hn => by
    rcases List.mem_cons.mp hb with z | z
    · rw [z]; exact hL
    · exact absurd z hn
  have kL : ∀ {a b : Hp} {o}, T a b → a L = some o → b L = some o := fun q z => t.kp q L _ nL z
  have hz : ∀ m, m ≤ n → (((List.range m).filter p).map f).length < sizeLine := fun m hm => by
    rw [List.length_map]
    have := List.length_filter_le p (List.range m)
    rw [List.length_range] at this
    exact Nat.lt_of_le_of_lt (Nat.le_trans this hm) (Nat.lt_trans hn (by decide))
  refine lc_it w (fun i Hc => i ≤ n ∧ T H Hc ∧ ∃ us, Hc L = some (.lst us) ∧ DpAll K (hid (L :: S) Hc) us (((List.range i).filter p).map f)) ⟨Nat.zero_le _, t.put hL t.rfl', [], upd_same, .nil⟩ (fun i Hc _ q => hG Hc q.2.1) (fun i x Hc H' hi q y => ?_) fun Hc q => ?_
  · obtain ⟨hi1, t1, us, h1, h2⟩ := q
    obtain ⟨rfl, px⟩ := hY _ _ _ _ hi y
    refine hg i x _ _ hi px t1 fun σ2 hw p2 => ⟨hw, ?_⟩
    have hs1 : ∀ b ∈ L :: S, ∃ o, H' b = some o := fun b hb => by
      rcases List.mem_cons.mp hb with z | z
      · rw [z]; exact ⟨_, h1⟩
      · exact t.st t1 (hS b z)
    refine ht L i σ2 _ hi p2 hL nL t1 hs1 (up t1) _ fun H2 t2 => ?_
    cases hp : p i with
    | true =>
      refine rd_iteT ?_
      refine he L i σ2 H2 hi p2 hp hL nL (t.trans t1 t2) (fun b hb => t.st t2 (hs1 b hb)) (up (t.trans t1 t2)) _ fun v H3 t3 dv => ?_
      have k23 := (t.kp (t.trans t2 t3)).sub (S' := L :: S) fun b hb => List.mem_cons_of_mem _ hb
      refine ⟨us, kL t3 (kL t2 h1), by rw [h2.len]; exact hz i hi1, hi, t.put hL (t.trans (t.trans t1 t2) t3), us ++ [v], upd_same, ?_⟩
      rw [List.range_succ, List.filter_append, List.map_append]
      have e : ((List.filter p [i]).map f) = [f i] := by
        rw [List.filter_cons, if_pos hp]
        rfl
      rw [e]
      exact ((h2.ex k23.ex).snoc dv).ex (Kp.put List.mem_cons_self).ex
    | false =>
      refine rd_iteF ?_
      have k12 := (t.kp t2).sub (S' := L :: S) fun b hb => List.mem_cons_of_mem _ hb
      refine ⟨hi, t.trans t1 t2, us, kL t2 h1, ?_⟩
      rw [List.range_succ, List.filter_append, List.map_append]
      have e : ((List.filter p [i]).map f) = [] := by
        rw [List.filter_cons, if_neg (by rw [hp]; exact Bool.false_ne_true)]
        rfl
      rw [e, List.append_nil]
      exact h2.ex k12.ex
  · obtain ⟨_, t1, us, h1, h2⟩ := q
    exact h L us Hc t1 hL nL h1 h2
/-- a comprehension without a test, each value told by a relation -/
theorem lc_R {S : List Addr} {T : Hp → Hp → Prop} {n : Nat} {G : Hp → Prop} {Y : Nat → Hp → V → Hp → Prop} {P : Nat → V → Prop} {P2 : Nat → L2.St → Prop} (t : Tr S H T) (hS : ∀ b ∈ S, ∃ o, H b = some o) (w : Walk J n G Y) (hY : ∀ i H x H', i < n → Y i H x H' → H' = H ∧ P i x) (hn : n < 100000)
    (hG : ∀ Hc, T H Hc → G Hc) (R : Nat → PyData → Prop)
    (hg : ∀ i x Hc (N : L2.St → Hp → Prop), i < n → P i x → T H Hc → (∀ σ2, wipe σ2 vs = wipe σ vs → P2 i σ2 → N σ2 Hc) → g x (wipe σ vs) Hc N)
    (he : ∀ L i σ2 Hc, i < n → P2 i σ2 → H L = none → L ∉ S → T H Hc → (∀ b ∈ L :: S, ∃ o, Hc b = some o) → Ex (hid S H) (hid (L :: S) Hc) → ∀ N : VK, (∀ v d H2, T Hc H2 → Dp K (hid (L :: S) H2) v d → R i d → N v H2) → te σ2 Hc N)
    (h : ∀ L us Hc ds, T H Hc → H L = none → L ∉ S → Hc L = some (.lst us) → DpAll K (hid (L :: S) Hc) us ds → ds.length = n → (∀ i d, ds[i]? = some d → R i d) → Q (.ref L) Hc) : lcB g tYes te vs σ Q J H := by
  intro L hL
  have nL : L ∉ S := notin_of hS hL
  have up : ∀ {Hc}, T H Hc → Ex (hid S H) (hid (L :: S) Hc) := fun q => (t.kp q).up fun b hb hn => by
    rcases List.mem_cons.mp hb with z | z
    · rw [z]; exact hL
    · exact absurd z hn
  have kL : ∀ {a b : Hp} {o}, T a b → a L = some o → b L = some o := fun q z => t.kp q L _ nL z
  refine lc_it w (fun i Hc => i ≤ n ∧ T H Hc ∧ ∃ us ds, Hc L = some (.lst us) ∧ DpAll K (hid (L :: S) Hc) us ds ∧ ds.length = i ∧ ∀ i d, ds[i]? = some d → R i d) ⟨Nat.zero_le _, t.put hL t.rfl', [], [], upd_same, .nil, rfl, fun i d z => by simp at z⟩ (fun i Hc _ q => hG Hc q.2.1) (fun i x Hc H' hi q y => ?_) fun Hc q => ?_
  · obtain ⟨hi1, t1, us, ds, h1, h2, h3, h4⟩ := q
    obtain ⟨rfl, px⟩ := hY _ _ _ _ hi y
    refine hg i x _ _ hi px t1 fun σ2 hw p2 => ⟨hw, rd_yes ?_⟩
    refine rd_iteT ?_
    have hs1 : ∀ b ∈ L :: S, ∃ o, H' b = some o := fun b hb => by
      rcases List.mem_cons.mp hb with z | z
      · rw [z]; exact ⟨_, h1⟩
      · exact t.st t1 (hS b z)
    refine he L i σ2 _ hi p2 hL nL t1 hs1 (up t1) _ fun v d H3 t3 dv rv => ?_
    have k23 := (t.kp t3).sub (S' := L :: S) fun b hb => List.mem_cons_of_mem _ hb
    refine ⟨us, kL t3 h1, by rw [h2.len, h3]; exact Nat.lt_of_lt_of_le (Nat.lt_trans hi hn) (by decide), hi, t.put hL (t.trans t1 t3), us ++ [v], ds ++ [d], upd_same, ((h2.ex k23.ex).snoc dv).ex (Kp.put List.mem_cons_self).ex, by rw [List.length_append, h3]; rfl, fun i' d' hd' => ?_⟩
    by_cases hlt : i' < ds.length
    · rw [List.getElem?_append_left hlt] at hd'
      exact h4 i' d' hd'
    · rw [List.getElem?_append_right (by omega)] at hd'
      have e0 : i' - ds.length = 0 := by
        rcases Nat.eq_zero_or_pos (i' - ds.length) with z | z
        · exact z
        · rw [List.getElem?_eq_none (by simp; omega)] at hd'
          cases hd'
      rw [e0] at hd'
      obtain rfl : d = d' := Option.some.inj hd'
      have e3 : i' = i := by omega
      rw [e3]
      exact rv
  · obtain ⟨_, t1, us, ds, h1, h2, h3, h4⟩ := q
    exact h L us Hc ds t1 hL nL h1 h2 h3 h4
/-- one name as the target -/
theorem hg_name {T : Hp → Hp → Prop} {n j : Nat} {P : Nat → V → Prop} {H : Hp} (hw : ∀ v : V, wipe ((wipe σ [j]).set j (some v)) [j] = wipe σ [j]) : ∀ i x Hc (N : L2.St → Hp → Prop), i < n → P i x → T H Hc → (∀ σ2, wipe σ2 [j] = wipe σ [j] → (∃ v, P i v ∧ σ2 = (wipe σ [j]).set j (some v)) → N σ2 Hc) → gName j x (wipe σ [j]) Hc N :=
  fun i x Hc N _ p _ h => h _ (hw x) ⟨x, p, rfl⟩
theorem wd_Y {n : Nat} : ∀ (i : Nat) (H : Hp) (x : V) (H' : Hp), i < n → YD K ds H0 i H x H' → H' = H ∧ ∃ d, ds[i]? = some d ∧ Dp K H0 x d := fun _ _ _ _ _ y => y
theorem str_Y {z : Str} : ∀ (i : Nat) (H : Hp) (x : V) (H' : Hp), i < z.cps.size → (H' = H ∧ ∃ c, z.cps[i]? = some c ∧ x = .str ⟨#[c]⟩) → H' = H ∧ ∃ c, z.cps.toList[i]? = some c ∧ x = V.str ⟨#[c]⟩ := fun i H x H' _ y => ⟨y.1, by
  obtain ⟨c, h1, h2⟩ := y.2
  exact ⟨c, by rw [Array.getElem?_toList]; exact h1, h2⟩⟩
/-! over data, one name as the target -/
theorem getD_range {α β : Type} (l : List α) (a : α) (q : α → Bool) (f : α → β) : ((List.range l.length).filter (fun i => q (l.getD i a))).map (fun i => f (l.getD i a)) = (l.filter q).map f := by
  have e : (List.range l.length).map (fun i => l.getD i a) = l := by
    refine List.ext_getElem (by simp) fun i h1 h2 => ?_
    rw [List.getElem_map, List.getElem_range, List.getD_eq_getElem?_getD, List.getElem?_eq_getElem h2]
    rfl
  have h : ((List.range l.length).map (fun i => l.getD i a)).filter q = ((List.range l.length).filter (fun i => q (l.getD i a))).map (fun i => l.getD i a) := List.filter_map ..
  rw [e] at h
  rw [h, List.map_map]
  rfl
theorem lc_FD {S : List Addr} {T : Hp → Hp → Prop} {j : Nat} (t : Tr S H T) (hS : ∀ b ∈ S, ∃ o, H b = some o) (w : Wd K J ds H0) (e0 : Ex H0 (hid S H)) (hn : ds.length < 100000) (hw : ∀ v : V, wipe ((wipe σ [j]).set j (some v)) [j] = wipe σ [j])
    (q : PyData → Bool) (F : PyData → PyData)
    (ht : ∀ L d v Hc, d ∈ ds → Dp K (hid (L :: S) Hc) v d → H L = none → L ∉ S → T H Hc → (∀ b ∈ L :: S, ∃ o, Hc b = some o) → Ex (hid S H) (hid (L :: S) Hc) → ∀ N : Bool → Hp → Prop, (∀ H2, T Hc H2 → N (q d) H2) → tt ((wipe σ [j]).set j (some v)) Hc N)
    (he : ∀ L d v Hc, d ∈ ds → Dp K (hid (L :: S) Hc) v d → q d = true → H L = none → L ∉ S → T H Hc → (∀ b ∈ L :: S, ∃ o, Hc b = some o) → Ex (hid S H) (hid (L :: S) Hc) → ∀ N : VK, (∀ v H2, T Hc H2 → Dp K (hid (L :: S) H2) v (F d) → N v H2) → te ((wipe σ [j]).set j (some v)) Hc N)
    (h : ∀ L us Hc, T H Hc → H L = none → L ∉ S → Hc L = some (.lst us) → DpAll K (hid (L :: S) Hc) us ((ds.filter q).map F) → Q (.ref L) Hc) : lcB (gName j) tt te [j] σ Q J H := by
  have hd : ∀ {i : Nat} {d : PyData}, ds[i]? = some d → ds.getD i .none = d := fun z => by rw [List.getD_eq_getElem?_getD, z]; rfl
  refine lc_F (K := K) (P := fun i x => ∃ d, ds[i]? = some d ∧ Dp K H0 x d) t hS w wd_Y hn (fun Hc z => (e0.trans (t.kp z).ex).trans hid_ex) (fun i => q (ds.getD i .none)) (fun i => F (ds.getD i .none)) (hg_name hw) (fun L i σ2 Hc hi p2 hL nL t1 hs up N hN => ?_) (fun L i σ2 Hc hi p2 hp hL nL t1 hs up N hN => ?_) fun L us Hc t1 hL nL h1 h2 => ?_
  · obtain ⟨v, ⟨d, h1, h2⟩, rfl⟩ := p2
    exact ht L d v Hc (List.mem_of_getElem? h1) (h2.ex (e0.trans up)) hL nL t1 hs up N fun H2 t2 => by have := hN H2 t2; rw [hd h1] at this; exact this
  · obtain ⟨v, ⟨d, h1, h2⟩, rfl⟩ := p2
    rw [hd h1] at hp
    exact he L d v Hc (List.mem_of_getElem? h1) (h2.ex (e0.trans up)) hp hL nL t1 hs up N fun v2 H2 t2 d2 => hN v2 H2 t2 (by rw [hd h1]; exact d2)
  · rw [getD_range] at h2
    exact h L us Hc t1 hL nL h1 h2
theorem lc_MD {S : List Addr} {T : Hp → Hp → Prop} {j : Nat} (t : Tr S H T) (hS : ∀ b ∈ S, ∃ o, H b = some o) (w : Wd K J ds H0) (e0 : Ex H0 (hid S H)) (hn : ds.length < 100000) (hw : ∀ v : V, wipe ((wipe σ [j]).set j (some v)) [j] = wipe σ [j])
    (F : PyData → PyData)
    (he : ∀ L d v Hc, d ∈ ds → Dp K (hid (L :: S) Hc) v d → H L = none → L ∉ S → T H Hc → (∀ b ∈ L :: S, ∃ o, Hc b = some o) → Ex (hid S H) (hid (L :: S) Hc) → ∀ N : VK, (∀ v H2, T Hc H2 → Dp K (hid (L :: S) H2) v (F d) → N v H2) → te ((wipe σ [j]).set j (some v)) Hc N)
    (h : ∀ L us Hc, T H Hc → H L = none → L ∉ S → Hc L = some (.lst us) → DpAll K (hid (L :: S) Hc) us (ds.map F) → Q (.ref L) Hc) : lcB (gName j) tYes te [j] σ Q J H := by
  refine lc_FD (K := K) t hS w e0 hn hw (fun _ => true) F (fun L d v Hc _ _ _ _ t1 _ _ N hN => rd_yes (hN Hc (t.here t1))) (fun L d v Hc hm hd _ hL nL t1 hs up N hN => he L d v Hc hm hd hL nL t1 hs up N hN) fun L us Hc t1 hL nL h1 h2 => ?_
  rw [List.filter_eq_self.mpr fun _ _ => rfl] at h2
  exact h L us Hc t1 hL nL h1 h2
theorem ex_up1 {H H' : Hp} {q : Addr} (e : Ex H H') (hq : H q = none) : Ex H (hid [q] H') := fun b o z => by
  rw [hid_at (fun m => by rw [List.mem_singleton.mp m, hq] at z; cases z)]
  exact e b o z
theorem st1 {H : Hp} {q : Addr} {o : HO} (h : H q = some o) : ∀ b ∈ [q], ∃ o, H b = some o := fun b hb => by
  cases List.mem_singleton.mp hb
  exact ⟨o, h⟩
theorem sts_ex {S : List Addr} {H H' : Hp} (h : ∀ b ∈ S, ∃ o, H b = some o) (e : Ex H H') : ∀ b ∈ S, ∃ o, H' b = some o := fun b hb => by
  obtain ⟨o, z⟩ := h b hb
  exact ⟨o, e b o z⟩
theorem ex_nil {H H' : Hp} (e : Ex H H') : Ex H (hid [] H') := by rw [hid_nil]; exact e
def isN : PyData → Bool
  | .none => true
  | _ => false
theorem isN_dp {H : Hp} {v : V} {d : PyData} (h : Dp K H v d) : decide (v = .non) = isN d := by
  cases h <;> rfl
/-- the values of plain data -/
theorem dp_strs {H : Hp} : ∀ {vs : List V} {ss : List Str}, DpAll K H vs (ss.map PyData.str) → vs = ss.map V.str
  | _, [], h => by cases h; rfl
  | _, s :: ss, h => by
    cases h with
    | cons h1 h2 => rw [Dp.str_iff h1, dp_strs h2]; rfl
theorem dp_ints' {H : Hp} : ∀ {vs : List V} {ss : List Int}, DpAll K H vs (ss.map PyData.int) → vs = ss.map V.int
  | _, [], h => by cases h; rfl
  | _, s :: ss, h => by
    cases h with
    | cons h1 h2 => rw [Dp.int_iff h1, dp_ints' h2]; rfl
theorem dp_bls {H : Hp} : ∀ {vs : List V} {ss : List Bool}, DpAll K H vs (ss.map PyData.bool) → vs = ss.map V.bl
  | _, [], h => by cases h; rfl
  | _, s :: ss, h => by
    cases h with
    | cons h1 h2 => rw [Dp.bl_iff h1, dp_bls h2]; rfl
theorem dps_str {H : Hp} (ss : List Str) : DpAll K H (ss.map V.str) (ss.map PyData.str) := DpAll.mapV _ _ _ fun x _ => .str x
theorem dps_int {H : Hp} (ss : List Int) : DpAll K H (ss.map V.int) (ss.map PyData.int) := DpAll.mapV _ _ _ fun x _ => .int x
theorem dps_bl {H : Hp} (ss : List Bool) : DpAll K H (ss.map V.bl) (ss.map PyData.bool) := DpAll.mapV _ _ _ fun x _ => .bl x
end
end
section
variable {X : Cx} (K : PySem.W.Frag) (hK : X.K = K := by rfl)
include hK
theorem kGt {e : Expr} {n : Nat} {t : TGs} (h : PG X e (gTup X.K n t)) : PG X e (gTup K n t) := hK ▸ h
end
section
variable {K : PySem.W.Frag} {σ : L2.St} {H H0 : Hp} {v : V} {Q : L2.St → Hp → Prop} {t : TGs} {ds : List PyData}
/-- a, b = a tuple of data -/
theorem rd_gtD {n : Nat} (e : Ex H0 H) (h : Dp K H0 v (.tuple ds)) (hn : ds.length = n) (q : ∀ xs, DpAll K H0 xs ds → t xs σ H Q) : gTup K n t v σ H Q := by
  obtain ⟨a, vs, rfl, h1, h2⟩ := Dp.tupv h
  exact ⟨a, vs, rfl, Evl.ex_t e h1, by rw [h2.len, hn], q vs h2⟩
theorem dp2 {a b : PyData} {xs : List V} (h : DpAll K H0 xs [a, b]) : ∃ x y, xs = [x, y] ∧ Dp K H0 x a ∧ Dp K H0 y b := by
  cases h with
  | cons h1 h =>
    cases h with
    | cons h2 h =>
      cases h
      exact ⟨_, _, rfl, h1, h2⟩
theorem rd_gN {i : Nat} {tg : TGs} {x : V} {xs : List V} (h : tg xs (σ.set i (some x)) H Q) : gCons (gName i) tg (x :: xs) σ H Q := ⟨_, _, rfl, h⟩
theorem rd_gE (h : Q σ H) : gNil [] σ H Q := ⟨rfl, h⟩
end
/-! ### hiding what data can't reach -/
mutual
def noList : PyData → Bool
  | .list _ => false
  | .tuple ds => noListAll ds
  | _ => true
def noListAll : List PyData → Bool
  | [] => true
  | d :: ds => noList d && noListAll ds
end
section
variable {K : PySem.W.Frag} {S : List Addr} {H : Hp}
theorem sqt_hid (h : ∀ b ∈ S, (∃ C dx fs, H b = some (.ins C dx fs)) ∨ ∃ xs, H b = some (.lst xs)) {a : Addr} {vs : List V} (q : SqT K H a vs) : SqT K (hid S H) a vs := by
  rcases q with (q | ⟨o, q⟩) | q
  · refine .inl (.inl ?_)
    rw [hid_at fun hb => ?_]
    · exact q
    · rcases h a hb with ⟨_, _, _, z⟩ | ⟨_, z⟩ <;> rw [z] at q <;> cases q
  · refine .inl (.inr ⟨o, ?_⟩)
    rw [hid_at fun hb => ?_]
    · exact q
    · rcases h a hb with ⟨_, _, _, z⟩ | ⟨_, z⟩ <;> rw [z] at q <;> cases q
  · exact .inr q
theorem sql_hid (h : ∀ b ∈ S, ∃ C dx fs, H b = some (.ins C dx fs)) {a : Addr} {vs : List V} (q : SqL K H a vs) : SqL K (hid S H) a vs := by
  rcases q with (q | ⟨o, q⟩) | q
  · refine .inl (.inl ?_)
    rw [hid_at fun hb => ?_]
    · exact q
    · obtain ⟨_, _, _, z⟩ := h a hb
      rw [z] at q; cases q
  · refine .inl (.inr ⟨o, ?_⟩)
    rw [hid_at fun hb => ?_]
    · exact q
    · obtain ⟨_, _, _, z⟩ := h a hb
      rw [z] at q; cases q
  · exact .inr q
mutual
theorem Dp.hidI (h : ∀ b ∈ S, ∃ C dx fs, H b = some (.ins C dx fs)) : ∀ (d : PyData) {v : V}, Dp K H v d → Dp K (hid S H) v d
  | .none, _, q => by cases q; exact .non
  | .bool b, _, q => by cases q; exact .bl b
  | .int i, _, q => by cases q; exact .int i
  | .str x, _, q => by cases q; exact .str x
  | .list ds, _, q => by
    cases q with
    | lst hs ha => exact .lst (sql_hid h hs) (DpAll.hidI h ds ha)
  | .tuple ds, _, q => by
    cases q with
    | tup hs ha => exact .tup (sqt_hid (fun b hb => .inl (h b hb)) hs) (DpAll.hidI h ds ha)
  | .dict _, _, q => by cases q
theorem DpAll.hidI (h : ∀ b ∈ S, ∃ C dx fs, H b = some (.ins C dx fs)) : ∀ (ds : List PyData) {vs : List V}, DpAll K H vs ds → DpAll K (hid S H) vs ds
  | [], _, q => by cases q; exact .nil
  | d :: ds, _, q => by
    cases q with
    | cons h1 h2 => exact .cons (Dp.hidI h d h1) (DpAll.hidI h ds h2)
end
mutual
theorem Dp.hidT (h : ∀ b ∈ S, (∃ C dx fs, H b = some (.ins C dx fs)) ∨ ∃ xs, H b = some (.lst xs)) : ∀ (d : PyData) {v : V}, noList d = true → Dp K H v d → Dp K (hid S H) v d
  | .none, _, _, q => by cases q; exact .non
  | .bool b, _, _, q => by cases q; exact .bl b
  | .int i, _, _, q => by cases q; exact .int i
  | .str x, _, _, q => by cases q; exact .str x
  | .list ds, _, n, q => by cases n
  | .tuple ds, _, n, q => by
    cases q with
    | tup hs ha => exact .tup (sqt_hid h hs) (DpAll.hidT h ds n ha)
  | .dict _, _, _, q => by cases q
theorem DpAll.hidT (h : ∀ b ∈ S, (∃ C dx fs, H b = some (.ins C dx fs)) ∨ ∃ xs, H b = some (.lst xs)) : ∀ (ds : List PyData) {vs : List V}, noListAll ds = true → DpAll K H vs ds → DpAll K (hid S H) vs ds
  | [], _, _, q => by cases q; exact .nil
  | d :: ds, _, n, q => by
    obtain ⟨n1, n2⟩ := Bool.and_eq_true_iff.mp n
    cases q with
    | cons h1 h2 => exact .cons (Dp.hidT h d n1 h1) (DpAll.hidT h ds n2 h2)
end
theorem noList_all {ds : List PyData} (h : ∀ d ∈ ds, noList d = true) : noListAll ds = true := by
  induction ds with
  | nil => rfl
  | cons d ds ih =>
    show (noList d && noListAll ds) = true
    rw [h d List.mem_cons_self, ih fun e he => h e (List.mem_cons_of_mem _ he)]
    rfl
/-- a list or a tuple of data -/
def SqD (K : PySem.W.Frag) (H : Hp) (x : V) (ds : List PyData) : Prop := Dp K H x (.list ds) ∨ Dp K H x (.tuple ds)
theorem SqD.ex {H' : Hp} {x : V} {ds : List PyData} (h : SqD K H x ds) (e : Ex H H') : SqD K H' x ds := h.elim (fun z => .inl (z.ex e)) fun z => .inr (z.ex e)
theorem rd_anySq {σ : L2.St} {H0 : Hp} {te : TE} {x : V} {ds : List PyData} {R : It → Hp → Prop} (he : ∀ Q : VK, Q x H → te σ H Q) (e : Ex H0 H) (h : SqD K H0 x ds) (q : ∀ J, Wd K J ds H0 → R J H) : iAny K te σ H R := by
  rcases h with h | h
  · exact rd_anyL' (he _ (rd_itDL e h q))
  · exact rd_anyT' (he _ (rd_itDT e h q))
/-- tuple(x) -/
theorem rd_tupSq {S : List Addr} {H0 : Hp} {x : V} {ds : List PyData} {Q : VK} (hs : ∀ b ∈ S, ∃ o, H b = some o) (e : Ex H0 (hid S H)) (h : SqD K H0 x ds) (q : ∀ a H', Ex H H' → Dp K (hid S H') (.ref a) (.tuple ds) → Q (.ref a) H') : cTupOf K [x] H Q := by
  rcases h with h | h
  · obtain ⟨a, vs, rfl, h1, h2⟩ := Dp.lstv h
    exact rd_tupL (Evl.ex_l (e.trans hid_ex) h1) fun l hl => q l _ (Evl.Ex.new hl) (Dp.newT hl (notin_of hs hl) (h2.ex e))
  · obtain ⟨a, vs, rfl, h1, h2⟩ := Dp.tupv h
    exact rd_tupT (Evl.ex_t (e.trans hid_ex) h1) (q a H (Evl.Ex.refl H) (h.ex e))
/-- list(x) -/
theorem rd_lstSq {S : List Addr} {H0 : Hp} {x : V} {ds : List PyData} {Q : VK} (e : Ex H0 (hid S H)) (h : SqD K H0 x ds) (q : ∀ l vs, H l = none → DpAll K (hid S H) vs ds → Q (.ref l) (upd H l (.lst vs))) : cLstOf K [x] H Q := by
  rcases h with h | h
  · obtain ⟨a, vs, rfl, h1, h2⟩ := Dp.lstv h
    exact rd_lstL (.inl (Evl.ex_l (e.trans hid_ex) h1)) fun l hl => q l vs hl (h2.ex e)
  · obtain ⟨a, vs, rfl, h1, h2⟩ := Dp.tupv h
    exact rd_lstL (.inr (Evl.ex_t (e.trans hid_ex) h1)) fun l hl => q l vs hl (h2.ex e)
end
section
variable {K : PySem.W.Frag} {H : Hp}
theorem rd_lstSq0 {H0 : Hp} {x : V} {ds : List PyData} {Q : VK} (e : Ex H0 H) (h : SqD K H0 x ds) (q : ∀ l vs, H l = none → DpAll K H0 vs ds → Q (.ref l) (upd H l (.lst vs))) : cLstOf K [x] H Q := by
  rcases h with h | h
  · obtain ⟨a, vs, rfl, h1, h2⟩ := Dp.lstv h
    exact rd_lstL (.inl (Evl.ex_l e h1)) fun l hl => q l vs hl h2
  · obtain ⟨a, vs, rfl, h1, h2⟩ := Dp.tupv h
    exact rd_lstL (.inr (Evl.ex_t e h1)) fun l hl => q l vs hl h2
end
theorem rd_par3 {i j l : Nat} {ta : TA} {D : Ends} {σ : L2.St} {H : Hp} (h : ta σ H fun vs H1 => ∃ u v w, vs = [u, v, w] ∧ D.nx (((σ.set i (some u)).set j (some v)).set l (some w)) H1) : tPar3 i j l ta D σ H := h
theorem rd_v3 {u v w : V} {P : V → V → V → Prop} (h : P u v w) : ∃ u' v' w', [u, v, w] = [u', v', w'] ∧ P u' v' w' := ⟨u, v, w, rfl, h⟩
end AT

set_option Elab.async false
set_option linter.all false
set_option maxRecDepth 100000
set_option maxHeartbeats 4000000
/-! own words, fifth part: dicts whose keys are tuples, lists unpacked, while -/
namespace AT
open PySem PySem.Spec PyProof.Rows L2
/-- {k: v}, the key a tuple -/
def tDisp1T (tk tv : TE) : TE := fun σ H Q => ∀ p, H p = none → tk σ (upd H p (.dT [])) fun x H1 => tv σ H1 fun y H2 => H2 p = some (.dT []) ∧ ∃ (b : Addr) (k : List Key), x = .ref b ∧ H2 b = some (.tup (k.map kV)) ∧ Q (.ref p) (upd H2 p (.dT [(k, y)]))
section
variable {X : Cx} {pos : Pos} {k v : Expr} {tk tv : TE}
theorem pe_disp1T (hu : X.A.units + 1 < cLine) (hk : PE X k tk) (hv : PE X v tv) : PE X (.Dict [some k] [v] pos) (tDisp1T tk tv) := by
  refine ⟨fun pins s σ H Q I q => ?_⟩
  have hn := I.hok.fresh (Nat.le_refl s.heap.objs.size)
  have I1 := I.laid (a := s.heap.objs.size) (o := .dT []) (t' := s.toks) (fun _ _ z => Heap.get?_push_of_some _ z) (Nat.le_refl _) (dt_empty s.heap I.big)
  have hz := zip_pairTrees [some k] [v] X.env pos rfl rfl
  have hl : (pairTrees [some k] [v] X.env pos).length = 1 := pairTrees_length [some k] [v] X.env pos rfl rfl
  have hne : pairTrees [some k] [v] X.env pos ≠ [] := fun z => by rw [z] at hl; cases hl
  have room : (tupleKind (mixKind X.prog X.w)).room X.A := Nat.lt_of_succ_lt hu
  rw [arm_eval_Dict, hz, dictDisplay_pairs _ hne (by rw [hl]; decide)]
  refine wpAny_bind (wpAny_standAt (wpAny_bind ?_))
  refine wpAny_subDictH (knd := tupleKind (mixKind X.prog X.w)) room (by rw [hl]; decide) ?_
  refine pairTrees_cons_walk (thn (hk.run pins _ σ _ _ I1 (q _ hn)) fun u s1 ⟨x, H1, I1', rx, q1⟩ => thn (hv.run pins s1 σ H1 _ I1' q1) fun w2 s2 ⟨y, H2, I2, ry, q2⟩ => pairTrees_nil_walk ?_)
  obtain ⟨e, b, ks, rfl, eb, q3⟩ := q2
  cases (show u = Value.ref b from rx)
  obtain ⟨z, hd, xs0, r0, dd⟩ := dt_of I2.hok e
  cases r0
  refine ⟨[(ks, b, w2)], ⟨rfl, rfl, key_of I2.hok eb, True.intro⟩, dd, fun h' tk dd' hs => wpAny_pure ⟨.ref s.heap.objs.size, _, ?_, rfl, q3⟩⟩
  have e1 : storedAllH [] [(ks, b, w2)] = [(ks, b, w2)] := rfl
  rw [e1] at dd'
  obtain ⟨o, es, ep, ho, h2, h3, h4, h5, h6⟩ := dd'
  refine d_write I2 (by rw [e]; exact True.intro) hs ⟨o, ho⟩ ⟨by show 1 ≤ sizeLine; decide, hd, [(ks, b, w2)], .cons ⟨rfl, ?_, ry⟩ .nil, o, es, ep, ho, h2, h3, h4, h6⟩
  show upd H2 s.heap.objs.size _ b = _
  rw [upd_ne (ne_of eb e (fun z => nomatch z))]
  exact eb
end
section
variable {X : Cx} (K : PySem.W.Frag) (hK : X.K = K := by rfl)
include hK
theorem kGl {e : Expr} {n : Nat} {t : TGs} (h : PG X e (gLst X.K n t)) : PG X e (gLst K n t) := hK ▸ h
end
section
variable {K : PySem.W.Frag} {σ : L2.St} {H : Hp} {Q : VK} {D : Ends} {td ty tv tk : TE} {tt : TT} {tb : TS}
theorem rd_dget (h : td σ H fun x H1 => ty σ H1 fun y H2 => ∃ a v, x = .ref a ∧ DGet H2 a y (some v) ∧ Q v H2) : tDGet td ty σ H Q := h
theorem rd_din (h : ty σ H fun y H1 => td σ H1 fun x H2 => ∃ a o, x = .ref a ∧ DGet H2 a y o ∧ Q (.bl o.isSome) H2) : tDIn ty td σ H Q := h
theorem rd_dnin (h : ty σ H fun y H1 => td σ H1 fun x H2 => ∃ a o, x = .ref a ∧ DGet H2 a y o ∧ Q (.bl (!o.isSome)) H2) : tDNotIn ty td σ H Q := h
theorem rd_dput (h : tv σ H fun v H1 => td σ H1 fun x H2 => ty σ H2 fun y H3 => ∃ a H4, x = .ref a ∧ DPut H3 a y v H4 ∧ D.nx σ H4) : sDPut td ty tv D σ H := h
theorem rd_disp1T (h : ∀ p, H p = none → tk σ (upd H p (.dT [])) fun x H1 => tv σ H1 fun y H2 => H2 p = some (.dT []) ∧ ∃ (b : Addr) (k : List Key), x = .ref b ∧ H2 b = some (.tup (k.map kV)) ∧ Q (.ref p) (upd H2 p (.dT [(k, y)]))) : tDisp1T tk tv σ H Q := h
theorem rd_dnK (h : ∀ p, H p = none → Q (.ref p) (upd H p (.dK []))) : tDNewK σ H Q := h
theorem rd_dnT (h : ∀ p, H p = none → Q (.ref p) (upd H p (.dT []))) : tDNewT σ H Q := h
theorem rd_wh (W : Nat → L2.St → Hp → Prop) (m0 : Nat) (h0 : W m0 σ H) (hs : ∀ m σ' H', W m σ' H' → tt σ' H' fun b H1 => if b = true then ∃ N : L2.St → Hp → Prop, (∀ σ2 H2, N σ2 H2 → ∃ m', m' < m ∧ W m' σ2 H2) ∧ tb { D with nx := N, ct := N, bk := D.nx } σ' H1 else D.nx σ' H1) : tWhile tt tb D σ H := ⟨W, ⟨m0, h0⟩, hs⟩
end
end AT

set_option Elab.async false
set_option linter.all false
set_option maxRecDepth 100000
set_option maxHeartbeats 4000000
/-! own words, sixth part: enumerate over tuples and texts -/
namespace AT
open PySem PySem.Spec PyProof.Rows L2
open AutoSeq1 (wpAny_loadPart')
section
theorem tupIn {h : Heap} {a : Addr} {its : Array Value} (p : IsTup h a its) : h.IsTuple a its := by
  obtain ⟨o, e1, e2, n, e3⟩ := p
  exact ⟨o, e1, e2, n, e3⟩
/-- a tuple, item by item -/
theorem draws_tup {P : Program} {w : World} {B : Around} (calm : B.handled = none) (z q : Addr) (hq : q ≠ z) (vs : Array Value) :
    Draws P w B z [z, q] vs.size (fun k v => vs[k]? = some v) (fun k g => g.IsTupleIter z q k ∧ g.IsTuple q vs) := by
  refine ⟨fun _ _ st => ?_, fun _ _ _ st hk => ?_, fun k s Q E hk st hQ => ?_, fun s Q E st hE => ?_⟩
  · obtain ⟨⟨o, e, _⟩, _⟩ := st
    exact ⟨o, e⟩
  · exact ⟨Heap.IsTupleIter.at st.1 fun o e => hk z List.mem_cons_self o e, Heap.IsTuple.at st.2 fun o e => hk q (List.mem_cons_of_mem _ List.mem_cons_self) o e⟩
  · have hx : vs[k]? = some vs[k] := by simp [hk]
    exact RZ.nextOf_tuple_item st.1 st.2 hx fun g g1 g2 => hQ _ g s.toks hx ⟨g1, Heap.IsTuple.extBut st.2 g2.extBut hq⟩ g2
  · exact RZ.nextOf_tuple_end calm st.1 st.2 (by simp) hE
theorem enumNewT (q : Addr) (vs : Array Value) (k : Nat) (od : Option Addr) (sl : Array (Option Value)) :
    Meets (Builtin.«enumerate.__new__» ⟨[.type "enumerate", .ref q], []⟩) (fun _ R s => s.heap.get? q = some ⟨.type "tuple", od, .seq vs k, sl⟩ ∧
      R (.ok (.ret (.ref (s.heap.push { cls := .type "tuple_iterator", data := .fields #[.ref q, .int 0 0] }).objs.size)))
        ⟨(s.heap.push { cls := .type "tuple_iterator", data := .fields #[.ref q, .int 0 0] }).push { cls := .type "enumerate", data := .fields #[.none, .bool false, .ref s.heap.objs.size, rawInt 0, .none, .none] }, s.gens, s.drawn, s.toks, s.os⟩) :=
  .of_wp fun prog w A R s h => by
    obtain ⟨hp, g, d, tk, os⟩ := s
    obtain ⟨hl, h⟩ := h
    have sub := sub_enumerate
    have tup : Heap.IsTuple (Shared.heap ⟨hp, g, d, tk, os⟩) q vs := ⟨_, hl, rfl, k, rfl⟩
    wp_walk using wpAny_loadPart' hl
    refine wpAny_stack_any fun _ => wpAny_pure ?_
    split
    · rename_i c _ _ _ _ _
      cases (c == Value.type "enumerate") <;>
        (wp_walk using wpAny_loadPart' hl, wpAny_pyIter_tuple tup
         exact ⟨_, rfl, h⟩)
    · wp_walk using wpAny_loadPart' hl, wpAny_pyIter_tuple tup
      exact ⟨_, rfl, h⟩
theorem callEnumT {P : Program} {w : World} {B : Around} {E : Value → Shared → Prop} {s : Shared} {q : Addr} {vs : Array Value} {Q : Value → Shared → Prop} (tup : s.heap.IsTuple q vs)
    (hQ : ∀ g, IsEnum g (s.heap.objs.size + 1) s.heap.objs.size 0 .none → g.IsTupleIter s.heap.objs.size q 0 → (∀ b o, s.heap.get? b = some o → g.get? b = some o) → Q (.ref (s.heap.objs.size + 1)) { s with heap := g }) :
    wpAny (model P w) B (call (.type "enumerate") [.ref q]) Q E s := by
  obtain ⟨⟨c, od, dt, sl⟩, hl, hc, k, hd⟩ := tup
  obtain rfl : c = .type "tuple" := hc
  obtain rfl : dt = .seq vs k := hd
  refine callType_new F.called_enumerate (by decide) (F.typeCall_enumerate_1 _) (F.newCall_enumerate_1 _) (fun x => F.args_object_init_2 x _) F.entry_enumerate_new (enumNewT q vs k od sl) ⟨hl, ?_⟩
  have size1 : (s.heap.push { cls := .type "tuple_iterator", data := .fields #[.ref q, .int 0 0] }).objs.size = s.heap.objs.size + 1 := Heap.size_push ..
  show _ ∧ _
  rw [size1]
  have made : IsEnum ((s.heap.push { cls := .type "tuple_iterator", data := .fields #[.ref q, .int 0 0] }).push { cls := .type "enumerate", data := .fields #[.none, .bool false, .ref s.heap.objs.size, rawInt 0, .none, .none] }) (s.heap.objs.size + 1) s.heap.objs.size 0 .none := by
    have e := Heap.get?_push_size (s.heap.push { cls := .type "tuple_iterator", data := .fields #[.ref q, .int 0 0] }) (o := { cls := .type "enumerate", data := .fields #[.none, .bool false, .ref s.heap.objs.size, rawInt 0, .none, .none] }) rfl
    rw [size1] at e
    exact e
  exact ⟨⟨_, made, rfl⟩, hQ _ made ⟨_, Heap.get?_push_of_some _ (Heap.get?_push_size _ rfl), rfl, rfl⟩ fun b o z => Heap.get?_push_of_some _ (Heap.get?_push_of_some _ z)⟩
/-- the tuple at q, each item in a new pair -/
def ItEt (K : PySem.W.Frag) (q : Addr) : It where
  go := fun i H => ∃ (xs : List V) (x : V), SqT K H q xs ∧ xs[i]? = some x
  yld := fun i H v H' => ∃ T x, v = .ref T ∧ H T = none ∧ H' = upd H T (.tup [.int (i : Nat), x]) ∧ ∀ xs, SqT K H q xs → xs[i]? = some x
  stop := fun i H => ∃ xs : List V, SqT K H q xs ∧ xs.length = i
theorem turn_enumT {P : Program} {w : World} {K : PySem.W.Frag} {tgs : List Expr} {kk : Nat} {tp : Pos} (q e z : Addr) :
    Turn P w K (.Tuple tgs kk tp) (ItEt K q) [e, z] e (fun i g => (∃ old, IsEnum g e z ((i : Nat) : Int) old) ∧ g.IsTupleIter z q i ∧ e ≠ z ∧ q ≠ z ∧ q ≠ e) := by
  refine ⟨List.mem_cons_self, fun i g st b hb => ?_, fun i g g' st k => ?_, ?_, ?_, fun B i s Q E st h => ?_⟩
  · obtain ⟨⟨old, he⟩, ⟨o, ho, hc, hd⟩, _⟩ := st
    rcases List.mem_cons.mp hb with y | y
    · rw [y]; exact ⟨_, he, fun v t => nomatch t⟩
    · rw [List.mem_singleton.mp y]; exact ⟨o, ho, fun v t => by rw [hd] at t; cases t⟩
  · obtain ⟨⟨old, he⟩, hz, ne⟩ := st
    exact ⟨⟨old, k e List.mem_cons_self _ he⟩, Heap.IsTupleIter.at hz fun o t => k z (List.mem_cons_of_mem _ List.mem_cons_self) o t, ne⟩
  · intro X hP hw hK hc i pins s σ H E I hf st hg
    subst hP hw hK
    obtain ⟨⟨old, he⟩, hz, ne, n1, n2⟩ := st
    obtain ⟨xs, x, hq, hx⟩ := hg
    obtain ⟨its, rv, p, len⟩ := I.tuple hq
    obtain ⟨u, hu, ru⟩ := rv.get hx
    have lt : i < its.toArray.size := by
      have := (List.getElem?_eq_some_iff.mp hu).1
      simpa using this
    have heL : e < s.heap.objs.size := Heap.lt_size he
    have hzL : z < s.heap.objs.size := by obtain ⟨_, t, _⟩ := hz; exact Heap.lt_size t
    refine wpAny_pyNext_enum_itemD (draws_tup (P := X.prog) (w := X.w) (B := X.A.in1) (show X.A.in1.handled = none from I.ok.hd hc) z q n1 its.toArray) he ⟨hz, tupIn p⟩ lt ne (by simp [ne, Ne.symm n2]) fun u' g tk hu' ho st' hT hsz hk => ?_
    have eu : u' = u := by
      have a : its.toArray[i]? = some u := by simpa using hu
      rw [a] at hu'
      exact (Option.some.inj hu').symm
    subst eu
    refine ⟨_, rfl, wpAny_letOwnedTupleGo_enum (s := { s with heap := g, toks := tk + 1 }) ho fun g2 he' sb => ?_⟩
    have hT2 : g2.get? s.heap.objs.size = some { cls := .type "tuple", data := .seq #[.int i tk, u'] } := (sb.2 _ (Nat.ne_of_gt heL)).trans hT
    have fresh : ObjOk X.prog X.w (upd H s.heap.objs.size (.tup [.int (i : Nat), x])) g2 s.heap.objs.size (.tup [.int (i : Nat), x]) := ⟨by show 2 ≤ sizeLine; decide, [.int i tk, u'], .cons ⟨_, rfl⟩ (.cons ru .nil), ⟨_, hT2, rfl, _, rfl⟩⟩
    have I1 : Inv X pins σ (upd H s.heap.objs.size (.tup [.int (i : Nat), x])) { s with heap := g2, toks := tk + 1 } :=
      I.turnedNew (ch := [e, z]) (fun b ob hb t => (sb.2 b (fun y => hb (by simp [y]))).trans (hk b ob (fun y => hb (by simp [y])) (fun y => hb (by simp [y])) t)) hf (Nat.le_refl _) fresh
    refine ⟨.ref s.heap.objs.size, _, I1, rfl, ⟨_, x, rfl, I.hok.fresh (Nat.le_refl _), rfl, fun ys hy => by rw [I.tuple_inj hy hq]; exact hx⟩, ⟨⟨u', ?_⟩, Heap.IsTupleIter.at st'.1 fun o t => (sb.2 z (Ne.symm ne)).trans t, ne, n1, n2⟩, fun b hb => ?_⟩
    · have e1 : ((i + 1 : Nat) : Int) = (i : Int) + 1 := by omega
      rw [e1]
      exact he'
    · have hb' : b < s.heap.objs.size := by
        rcases List.mem_cons.mp hb with y | y
        · rw [y]; exact heL
        · rw [List.mem_singleton.mp y]; exact hzL
      rw [upd_ne (Nat.ne_of_lt hb')]
      exact (hf b hb).1
  · intro X hP hw hK hc i pins s σ H E I hf st hg
    subst hP hw hK
    obtain ⟨⟨old, he⟩, hz, ne, n1, n2⟩ := st
    obtain ⟨xs, hq, hx⟩ := hg
    obtain ⟨its, rv, p, len⟩ := I.tuple hq
    obtain ⟨f0, f1, f2, f3, f4, f5⟩ := hf z (List.mem_cons_of_mem _ List.mem_cons_self)
    have hl : i = its.toArray.size := by
      have := rv.length
      simp
      omega
    have he0 : IsEnum s.heap e z ((its.toArray.size : Nat) : Int) old := hl ▸ he
    have hz0 : s.heap.IsTupleIter z q its.toArray.size := hl ▸ hz
    refine wpAny_pyNext_enum_endD (draws_tup (P := X.prog) (w := X.w) (B := X.A.in1) (show X.A.in1.handled = none from I.ok.hd hc) z q n1 its.toArray) he0 ⟨hz0, tupIn p⟩ fun g eb => ⟨rfl, I.turned (t' := s.toks) (fun b o hb t => eb b o hb t) f0 f1 f3 f4 f5⟩
  · obtain ⟨⟨_, he⟩, _⟩ := st
    exact wpAny_pyIter_enum he h
def iEnumT (K : PySem.W.Frag) (ta : TA) : TI := fun σ H R => ta σ H fun vs H1 => ∃ q xs, vs = [.ref q] ∧ SqT K H1 q xs ∧ R (ItEt K q) H1
theorem pi_enumT {X : Cx} {e : Expr} {ta : TA} {p pos tp : Pos} {tgs : List Expr} {kk : Nat} (hg : Gl X "enumerate") (hm : X.mg "enumerate" = none) (ha : PA X [e] ta) (hs : starEach [e] X.env = [(false, eval e X.env)] := by rfl) :
    PI X (.Tuple tgs kk tp) (.Call (.Name "enumerate" p) [e] [] pos) (iEnumT X.K ta) := by
  refine ⟨fun pins s σ H R I h => Call_ (ld_blt I hg hm boot_enumerate (PyProof.Rows.callWith_type1 (thn (ha.run pos pins s σ H _ I h) fun us s1 ⟨vs, H1, I1, r1, q1⟩ => ?_) hs rfl))⟩
  obtain ⟨a, xs, ex, hq, q⟩ := q1
  subst ex
  obtain ⟨u, rfl, ru⟩ := vals1 r1
  cases (show u = Value.ref a from ru)
  obtain ⟨its, rv, p', hz⟩ := I1.tuple hq
  have old : a < s1.heap.objs.size := by obtain ⟨o, e1, _⟩ := p'; exact Heap.lt_size e1
  refine callEnumT (tupIn p') fun g he hit hk => wpAny_pyIter_enum he ?_
  have I2 : Inv X pins σ H1 { s1 with heap := g } := I1.kept (t' := s1.toks) hk
  refine ⟨s1.heap.objs.size + 1, [s1.heap.objs.size + 1, s1.heap.objs.size], _, _, H1, rfl, I2, turn_enumT a (s1.heap.objs.size + 1) s1.heap.objs.size, ⟨⟨.none, he⟩, hit, Nat.succ_ne_self _, Nat.ne_of_lt old, Nat.ne_of_lt (Nat.lt_succ_of_lt old)⟩, fun b hb => ?_, q⟩
  have hle : s1.heap.objs.size ≤ b := by
    rcases List.mem_cons.mp hb with y | y
    · rw [y]; exact Nat.le_add_right _ _
    · rw [List.mem_singleton.mp y]; exact Nat.le_refl _
  exact I1.fpOk hle (I1.hok.fresh hle)
theorem walk_enumT {K : PySem.W.Frag} {q : Addr} {xs : List V} : Walk (ItEt K q) xs.length (fun H => SqT K H q xs) (YPair (fun i => some (.int (i : Nat))) (fun i => xs[i]?)) := by
  refine ⟨fun i _ hi h => ⟨xs, xs[i], h, by simp [hi]⟩, fun _ h => ⟨xs, h, rfl⟩, fun i H v H' _ h y => ?_⟩
  obtain ⟨T, x, h1, h2, h3, h4⟩ := y
  exact ⟨T, .int (i : Nat), x, h1, h2, h3, rfl, h4 xs h⟩
/-- enumerate of a list or a tuple -/
def iEnumA (K : PySem.W.Frag) (ta : TA) : TI := fun σ H R => iEnum K ta σ H R ∨ iEnumT K ta σ H R
theorem pi_enumA {X : Cx} {e : Expr} {ta : TA} {p pos tp : Pos} {tgs : List Expr} {kk : Nat} (hg : Gl X "enumerate") (hm : X.mg "enumerate" = none) (ha : PA X [e] ta) (hs : starEach [e] X.env = [(false, eval e X.env)] := by rfl) :
    PI X (.Tuple tgs kk tp) (.Call (.Name "enumerate" p) [e] [] pos) (iEnumA X.K ta) := PI.or (pi_enum hg hm ha hs) (pi_enumT hg hm ha hs)
end
section
variable {X : Cx} (K : PySem.W.Frag) (hK : X.K = K := by rfl)
include hK
theorem kEn {tg e : Expr} {ta : TA} (h : PI X tg e (iEnumA X.K ta)) : PI X tg e (iEnumA K ta) := hK ▸ h
end
end AT

set_option Elab.async false
set_option linter.all false
set_option maxRecDepth 100000
set_option maxHeartbeats 8000000
/-! own words, seventh part: a name that is set to a dict comprehension on its own line -/
namespace AT
open PySem L2 PySem.Spec PyProof.Rows
/-- whatever the block of the comprehension is -/
abbrev InBlk (X : Cx) (sc : Scope) (R : Cx → Prop) : Prop := ∀ s H C cl fp, R (X.blk s H sc (compEnvC sc cl C X.env) fp)
/-- the comprehension, with one for -/
abbrev DC1 (a b t e : Expr) (cs : List Expr) (sc : Scope) (o : Pos) : Expr := .DictComp a b [⟨t, e, cs, 0⟩] sc o
theorem ps_setDc {X : Cx} {i : Nat} {n : Str} {np o so : Pos} {a b t e : Expr} {cs : List Expr} {sc : Scope} {own : List (Str × Nat)} {wi : TI} {g : TG} {tt : TT} {ta tb : TE}
    (calm : X.calm = true) (nd : X.N.Nodup) (at' : X.N[i]? = some n) (loc : X.env.scope.names.lookup n = some .local) (sw : swapsWith (DC1 a b t e cs sc o) (some (.Name n np)) so.line X.env = pure true)
    (pi : PI X t e wi) (bk : BlkOk X.N X.env.scope sc own) (pg : InBlk X sc fun Y => PG Y t g) (pt : InBlk X sc fun Y => PTs Y cs tt) (pa : InBlk X sc fun Y => PE Y a ta) (pb : InBlk X sc fun Y => PE Y b tb)
    (fo : ∀ x, foldedSetIterable e X.env x = pure x := by intro _; rfl) : PS X (.Assign [.Name n np] (DC1 a b t e cs sc o) so) (tAsg (tDc wi g tt ta tb (own.map (·.2))) (gName i)) :=
  ⟨fun P s σ H D J w => by
    rw [exec_Assign_Name_used n np _ so sw]
    apply wpAny_bind; apply wpAny_standAt; apply wpAny_bind
    refine wpAny_bind (thn ?core fun _ s2 h2 => wpAny_pure (wpAny_pure h2))
    refine dc_core (Qf := fun _ s2 => SP X P D .next s2) (Q := fun x H1 => gName i x σ H1 D.nx) calm nd J pi bk pg pt pa pb fo w fun L C s2 m H2 J2 h2 ns fp => ?_
    refine wpAny_assign_Name (store_ok2 (v := V.ref L) J2 nd at' (.inl loc) rfl (fun s3 J3 ⟨z, but, or⟩ => ⟨m, ns.sameBut but (or.elim (fun y => y ▸ fp.2.1) fun y q => fp.2.2.2.2.1 n z y q.symm), fun h4 but4 => ?_⟩) (.inr loc))
    exact ⟨_, H2, J3.turned (t' := s3.toks) (fun c u hc y => (but4.2 c hc).trans y) fp.1 fp.2.1 fp.2.2.2.1 fp.2.2.2.2.1 fp.2.2.2.2.2, h2⟩⟩
theorem sw_trueD {a b : Expr} {gs : List Comprehension} {sc : Scope} {o np : Pos} {n : Str} {l : Nat} {env : Env} (fn : env.scope.kind = .function) (loc : env.scope.names.lookup n = some .local) (ln : (np.line == o.line) = true)
    (no : (sc.names.any fun (m, k) => m == n && (k == .local || k == .cell)) = false) : swapsWith (.DictComp a b gs sc o) (some (.Name n np)) l env = pure true := by
  have k1 : env.kindOf n = some .local := loc
  have k2 : env.blockKind = .function := by simp only [Env.blockKind, fn]; decide
  simp only [swapsWith, k1, k2, no, Expr.pos, ln]
  rfl
end AT

set_option Elab.async false
set_option linter.all false
set_option maxRecDepth 100000
set_option maxHeartbeats 4000000
local macro_rules | `(tactic| walk_at "rd1") => `(tactic| with_reducible first
  | refine AT.rd_seq ?_ | refine AT.rd_is ?_ | refine AT.rd_asg ?_ | refine AT.rd_name ?_ | refine AT.rd_var (by with_unfolding_all rfl) ?_ | refine AT.rd_c ?_ | refine AT.rd_op ?_ | refine AT.rd_ret ?_ | refine AT.rd_retN ?_ | refine AT.rd_if ?_ | refine AT.rd_ife ?_ | refine AT.rd_next ?_ | refine AT.rd_drop ?_
  | refine AT.rd_test ?_ | refine AT.rd_tB ?_ | refine AT.rd_bl ?_ | refine AT.rd_not ?_ | refine AT.rd_and ?_ | refine AT.rd_or ?_ | refine AT.rd_nil ?_ | refine AT.rd_cons ?_ | refine AT.rd_lst ?_ | refine AT.rd_tup ?_ | refine AT.rd_cb ?_ | refine AT.rd_chain ?_
  | refine AT.rd_called ?_ | refine AT.rd_calledR ?_ | refine AT.rd_raised ?_ | refine AT.rd_iteT ?_ | refine AT.rd_iteF ?_ | refine AT.rd_iteNF ?_ | refine AT.rd_iteNT ?_ | refine AT.rd_addI ?_ | refine AT.rd_subI ?_ | refine AT.rd_lt ?_ | refine AT.rd_le ?_ | refine AT.rd_gt ?_ | refine AT.rd_ge ?_ | refine AT.rd_eqI ?_ | refine AT.rd_neI ?_ | refine AT.rd_eqS ?_ | refine AT.rd_neS ?_
  | refine AT.rd_int ?_ | refine AT.rd_abs ?_ | refine AT.rd_inS ?_ | refine AT.rd_niS ?_ | refine AT.rd_rng1 ?_ | refine AT.rd_rng2 ?_ | refine AT.rd_bm ?_ | refine AT.rd_fld ?_ | refine AT.rd_sfld ?_ | refine AT.rd_makeR ?_ | refine AT.rd_methR ?_ | refine AT.rd_meth ?_ | refine AT.rd_notV ?_ | refine AT.rd_xf ?_ | refine AT.rd_andV ?_ | refine AT.rd_orV ?_ | refine AT.rd_sl ?_ | refine AT.rd_noPart ?_ | refine AT.rd_part ?_ | refine AT.rd_intv ?_ | refine AT.rd_raised1 ?_ | refine AT.rd_gsub ?_ | refine AT.rd_gN ?_ | refine AT.rd_par3 ?_ | refine AT.rd_dget ?_ | refine AT.rd_din ?_ | refine AT.rd_dnin ?_ | refine AT.rd_dput ?_ | refine AT.rd_disp1T ?_ | refine AT.rd_dnK ?_ | refine AT.rd_dnT ?_ | refine AT.rd_v3 ?_ | refine AT.rd_gE ?_ | refine AT.rd_for ?_ | refine AT.rd_lc ?_ | refine AT.rd_lenL (by assumption) ?_ | refine AT.rd_lenT (by assumption) ?_)
local macro_rules | `(tactic| walk_at "rd") => `(tactic| (repeat walk_at "rd1"))
local macro_rules | `(tactic| walk_at "rc1") => `(tactic| with_reducible first
  | refine AT.rd_seqA ?_ | refine AT.rd_is ?_ | refine AT.rd_seqD ?_ | refine AT.rd_asg ?_ | refine AT.rd_name ?_ | refine AT.rd_var (by with_unfolding_all rfl) ?_ | refine AT.rd_c ?_ | refine AT.rd_op ?_ | refine AT.rd_ret ?_ | refine AT.rd_retN ?_ | refine AT.rd_if ?_ | refine AT.rd_next ?_ | refine AT.rd_drop ?_
  | refine AT.rd_test ?_ | refine AT.rd_tB ?_ | refine AT.rd_bl ?_ | refine AT.rd_not ?_ | refine AT.rd_and ?_ | refine AT.rd_or ?_ | refine AT.rd_nil ?_ | refine AT.rd_cons ?_ | refine AT.rd_lst ?_ | refine AT.rd_tup ?_ | refine AT.rd_cb ?_ | refine AT.rd_chain ?_
  | refine AT.rd_called ?_ | refine AT.rd_calledR ?_ | refine AT.rd_raised ?_ | refine AT.rd_iteT ?_ | refine AT.rd_iteF ?_ | refine AT.rd_iteNF ?_ | refine AT.rd_iteNT ?_ | refine AT.rd_addI ?_ | refine AT.rd_subI ?_ | refine AT.rd_lt ?_ | refine AT.rd_le ?_ | refine AT.rd_gt ?_ | refine AT.rd_ge ?_ | refine AT.rd_eqI ?_ | refine AT.rd_neI ?_ | refine AT.rd_eqS ?_ | refine AT.rd_neS ?_
  | refine AT.rd_int ?_ | refine AT.rd_abs ?_ | refine AT.rd_inS ?_ | refine AT.rd_niS ?_ | refine AT.rd_rng1 ?_ | refine AT.rd_rng2 ?_ | refine AT.rd_bm ?_ | refine AT.rd_fld ?_ | refine AT.rd_sfld ?_ | refine AT.rd_makeR ?_ | refine AT.rd_methR ?_ | refine AT.rd_meth ?_ | refine AT.rd_notV ?_ | refine AT.rd_xf ?_ | refine AT.rd_sl ?_ | refine AT.rd_noPart ?_ | refine AT.rd_part ?_ | refine AT.rd_intv ?_ | refine AT.rd_raised1 ?_ | refine AT.rd_gsub ?_ | refine AT.rd_gN ?_ | refine AT.rd_par3 ?_ | refine AT.rd_dget ?_ | refine AT.rd_din ?_ | refine AT.rd_dnin ?_ | refine AT.rd_dput ?_ | refine AT.rd_disp1T ?_ | refine AT.rd_dnK ?_ | refine AT.rd_dnT ?_ | refine AT.rd_v3 ?_ | refine AT.rd_gE ?_ | refine AT.rd_for ?_ | refine AT.rd_lc ?_ | refine AT.rd_lenL (by assumption) ?_ | refine AT.rd_lenT (by assumption) ?_)
local macro_rules | `(tactic| walk_at "rc") => `(tactic| ((repeat walk_at "rc1"); (try with_reducible refine AT.rd_idS ?_)))
local macro_rules | `(tactic| walk_at "rs") => `(tactic| with_reducible refine AT.rd_seq ?_)

namespace AT
open PySem L2
def top (i : Nat) : Stmt := PySem.Challenge.pw_anytext_k14_finitely_many.main.body.getD i (.Pass ⟨0, 0, 0, 0⟩)
abbrev s__wall : Stmt := top 0
theorem sc__wall : FnScope ["k"] ["k"] (defScope s__wall) := ⟨rfl, rfl, rfl, by decide +kernel, rfl, by decide +kernel, by decide +kernel⟩
abbrev s_ways_back : Stmt := top 8
theorem sc_ways_back : FnScope ["nexts", "found", "_", "state", "afters", "after"] ["nexts"] (defScope s_ways_back) := ⟨rfl, rfl, rfl, by decide +kernel, rfl, by decide +kernel, by decide +kernel⟩
abbrev s_reached : Stmt := top 9
theorem sc_reached : FnScope ["starts", "nexts", "found", "waiting", "state", "after"] ["starts", "nexts"] (defScope s_reached) := ⟨rfl, rfl, rfl, by decide +kernel, rfl, by decide +kernel, by decide +kernel⟩
abbrev s_useful : Stmt := top 11
theorem sc_useful : FnScope ["machine", "ends", "state", "accepting", "led_to", "leads_on"] ["machine"] (defScope s_useful) := ⟨rfl, rfl, rfl, by decide +kernel, rfl, by decide +kernel, by decide +kernel⟩
abbrev s_is_finite : Stmt := top 12
theorem sc_is_finite : FnScope ["machine", "states", "kept", "state", "befores", "after", "free", "taken"] ["machine"] (defScope s_is_finite) := ⟨rfl, rfl, rfl, by decide +kernel, rfl, by decide +kernel, by decide +kernel⟩
abbrev s_cell : Stmt := top 14
theorem sc_cell : FnScope ["script", "k"] ["script", "k"] (defScope s_cell) := ⟨rfl, rfl, rfl, by decide +kernel, rfl, by decide +kernel, by decide +kernel⟩
abbrev s_numbers : Stmt := top 15
theorem sc_numbers : FnScope ["cell", "many", "rest", "whole", "numbers", "k", "mixed"] ["cell", "many"] (defScope s_numbers) := ⟨rfl, rfl, rfl, by decide +kernel, rfl, by decide +kernel, by decide +kernel⟩
abbrev s_state : Stmt := top 16
theorem sc_state : FnScope ["script", "start", "many", "numbers", "k", "cell"] ["script", "start", "many"] (defScope s_state) := ⟨rfl, rfl, rfl, by decide +kernel, rfl, by decide +kernel, by decide +kernel⟩
abbrev s_next : Stmt := top 17
theorem sc_next : FnScope ["state", "many", "numbers", "place"] ["state", "many"] (defScope s_next) := ⟨rfl, rfl, rfl, by decide +kernel, rfl, by decide +kernel, by decide +kernel⟩
abbrev s_letters : Stmt := top 18
theorem sc_letters : FnScope ["state", "most", "pool", "letters", "k", "letter"] ["state", "most"] (defScope s_letters) := ⟨rfl, rfl, rfl, by decide +kernel, rfl, by decide +kernel, by decide +kernel⟩
abbrev s_parts : Stmt := top 19
theorem sc_parts : FnScope ["letters", "state", "most", "many", "accepting", "k", "table", "letter"] ["letters", "state", "most"] (defScope s_parts) := ⟨rfl, rfl, rfl, by decide +kernel, rfl, by decide +kernel, by decide +kernel⟩
abbrev s_accepts : Stmt := top 20
theorem sc_accepts : FnScope ["letters", "accepting", "table", "text", "at", "letter"] ["letters", "accepting", "table", "text"] (defScope s_accepts) := ⟨rfl, rfl, rfl, by decide +kernel, rfl, by decide +kernel, by decide +kernel⟩
abbrev s_long : Stmt := top 21
theorem sc_long : FnScope ["accepting", "table", "many", "ends", "length", "at", "after", "following"] ["accepting", "table"] (defScope s_long) := ⟨rfl, rfl, rfl, by decide +kernel, rfl, by decide +kernel, by decide +kernel⟩
abbrev s_law : Stmt := top 22
theorem sc_law : FnScope ["script", "state", "letters", "k", "accepting", "table", "many", "at", "rows", "j", "spot", "path", "letter", "ring"] ["script"] (defScope s_law) := ⟨rfl, rfl, rfl, by decide +kernel, rfl, by decide +kernel, by decide +kernel⟩
abbrev s_init : Stmt := inClass (top 2) 0
theorem sc_init : FnScope ["self", "what"] ["self", "what"] (defScope s_init) := ⟨rfl, rfl, rfl, by decide +kernel, rfl, by decide +kernel, by decide +kernel⟩
abbrev s_Machine_init : Stmt := inClass (top 6) 0
theorem sc_Machine_init : FnScope ["self", "letters", "accepting", "table", "row"] ["self", "letters", "accepting", "table"] (defScope s_Machine_init) := ⟨rfl, rfl, rfl, by decide +kernel, rfl, by decide +kernel, by decide +kernel⟩
abbrev s_Machine_check : Stmt := inClass (top 6) 1
theorem sc_Machine_check : FnScope ["self", "states", "row"] ["self"] (defScope s_Machine_check) := ⟨rfl, rfl, rfl, by decide +kernel, rfl, by decide +kernel, by decide +kernel⟩
abbrev s_Machine_run : Stmt := inClass (top 6) 2
theorem sc_Machine_run : FnScope ["self", "text"] ["self", "text"] (defScope s_Machine_run) := ⟨rfl, rfl, rfl, by decide +kernel, rfl, by decide +kernel, by decide +kernel⟩
abbrev s_Machine_run_from : Stmt := inClass (top 6) 3
theorem sc_Machine_run_from : FnScope ["self", "state", "text"] ["self", "state", "text"] (defScope s_Machine_run_from) := ⟨rfl, rfl, rfl, by decide +kernel, rfl, by decide +kernel, by decide +kernel⟩
abbrev s_Machine_accepts : Stmt := inClass (top 6) 4
theorem sc_Machine_accepts : FnScope ["self", "text"] ["self", "text"] (defScope s_Machine_accepts) := ⟨rfl, rfl, rfl, by decide +kernel, rfl, by decide +kernel, by decide +kernel⟩
abbrev s_Machine_picture : Stmt := inClass (top 6) 5
theorem sc_Machine_picture : FnScope ["self"] ["self"] (defScope s_Machine_picture) := ⟨rfl, rfl, rfl, by decide +kernel, rfl, by decide +kernel, by decide +kernel⟩
structure Txt (K : PySem.W.Frag) (mg : Str → Option Value) where
  a__wall : Addr
  d__wall : FuncData
  f__wall : Fun K "_wall" "_wall" s__wall a__wall d__wall
  o__wall : Own K mg "_wall" a__wall d__wall ["k"]
  a_ways_back : Addr
  d_ways_back : FuncData
  f_ways_back : Fun K "ways_back" "ways_back" s_ways_back a_ways_back d_ways_back
  o_ways_back : Own K mg "ways_back" a_ways_back d_ways_back ["nexts"]
  a_reached : Addr
  d_reached : FuncData
  f_reached : Fun K "reached" "reached" s_reached a_reached d_reached
  o_reached : Own K mg "reached" a_reached d_reached ["starts", "nexts"]
  a_useful : Addr
  d_useful : FuncData
  f_useful : Fun K "useful" "useful" s_useful a_useful d_useful
  o_useful : Own K mg "useful" a_useful d_useful ["machine"]
  a_is_finite : Addr
  d_is_finite : FuncData
  f_is_finite : Fun K "is_finite" "is_finite" s_is_finite a_is_finite d_is_finite
  o_is_finite : Own K mg "is_finite" a_is_finite d_is_finite ["machine"]
  a_cell : Addr
  d_cell : FuncData
  f_cell : Fun K "_law_cell" "_law_cell" s_cell a_cell d_cell
  o_cell : Own K mg "_law_cell" a_cell d_cell ["script", "k"]
  a_numbers : Addr
  d_numbers : FuncData
  f_numbers : Fun K "_law_numbers" "_law_numbers" s_numbers a_numbers d_numbers
  o_numbers : Own K mg "_law_numbers" a_numbers d_numbers ["cell", "many"]
  a_state : Addr
  d_state : FuncData
  f_state : Fun K "_law_state" "_law_state" s_state a_state d_state
  o_state : Own K mg "_law_state" a_state d_state ["script", "start", "many"]
  a_next : Addr
  d_next : FuncData
  f_next : Fun K "_law_next" "_law_next" s_next a_next d_next
  o_next : Own K mg "_law_next" a_next d_next ["state", "many"]
  a_letters : Addr
  d_letters : FuncData
  f_letters : Fun K "_law_letters" "_law_letters" s_letters a_letters d_letters
  o_letters : Own K mg "_law_letters" a_letters d_letters ["state", "most"]
  a_parts : Addr
  d_parts : FuncData
  f_parts : Fun K "_law_parts" "_law_parts" s_parts a_parts d_parts
  o_parts : Own K mg "_law_parts" a_parts d_parts ["letters", "state", "most"]
  a_long : Addr
  d_long : FuncData
  f_long : Fun K "_law_long" "_law_long" s_long a_long d_long
  o_long : Own K mg "_law_long" a_long d_long ["accepting", "table"]
  a_law : Addr
  d_law : FuncData
  f_law : Fun K "law" "law" s_law a_law d_law
  o_law : Own K mg "law" a_law d_law ["script"]
  a_init : Addr
  d_init : FuncData
  T_init : Addr
  f_init : FunD K "__init__" "AnytextError.__init__" (defArgs s_init) (defBody s_init) (defScope s_init) [.non] [] a_init d_init
  tI : PySem.W.typeIn K (.ref a_init) = some (.type "function")
  bI : Binds K d_init ["self", "what"] []
  C_AnytextError : Addr
  C_MachineError : Addr
  C_BadMachine : Addr
  g_BadMachine : mg "BadMachine" = some (.ref C_BadMachine)
  x_BadMachine : ErrX K C_BadMachine a_init
  clsB : ClsB K
  C_Machine : Addr
  g_Machine : mg "Machine" = some (.ref C_Machine)
  cl_Machine : Cls K C_Machine
  na_Machine_letters : NoAttr K C_Machine "letters"
  na_Machine_accepting : NoAttr K C_Machine "accepting"
  na_Machine_table : NoAttr K C_Machine "table"
  a_Machine_init : Addr
  d_Machine_init : FuncData
  f_Machine_init : Fun K "__init__" "Machine.__init__" s_Machine_init a_Machine_init d_Machine_init
  b_Machine_init : Binds K d_Machine_init ["self", "letters", "accepting", "table"] []
  mk_Machine : Mk K C_Machine a_Machine_init
  a_Machine_check : Addr
  d_Machine_check : FuncData
  f_Machine_check : Fun K "check" "Machine.check" s_Machine_check a_Machine_check d_Machine_check
  b_Machine_check : Binds K d_Machine_check ["self"] []
  m_Machine_check : Meth K C_Machine "check" a_Machine_check
  a_Machine_run : Addr
  d_Machine_run : FuncData
  f_Machine_run : Fun K "run" "Machine.run" s_Machine_run a_Machine_run d_Machine_run
  b_Machine_run : Binds K d_Machine_run ["self", "text"] []
  m_Machine_run : Meth K C_Machine "run" a_Machine_run
  a_Machine_run_from : Addr
  d_Machine_run_from : FuncData
  f_Machine_run_from : Fun K "run_from" "Machine.run_from" s_Machine_run_from a_Machine_run_from d_Machine_run_from
  b_Machine_run_from : Binds K d_Machine_run_from ["self", "state", "text"] []
  m_Machine_run_from : Meth K C_Machine "run_from" a_Machine_run_from
  a_Machine_accepts : Addr
  d_Machine_accepts : FuncData
  f_Machine_accepts : Fun K "accepts" "Machine.accepts" s_Machine_accepts a_Machine_accepts d_Machine_accepts
  b_Machine_accepts : Binds K d_Machine_accepts ["self", "text"] []
  m_Machine_accepts : Meth K C_Machine "accepts" a_Machine_accepts
  a_Machine_picture : Addr
  d_Machine_picture : FuncData
  f_Machine_picture : Fun K "picture" "Machine.picture" s_Machine_picture a_Machine_picture d_Machine_picture
  b_Machine_picture : Binds K d_Machine_picture ["self"] []
  m_Machine_picture : Meth K C_Machine "picture" a_Machine_picture
  nb_abs : mg "abs" = none
  nb_any : mg "any" = none
  nb_enumerate : mg "enumerate" = none
  nb_int : mg "int" = none
  nb_len : mg "len" = none
  nb_list : mg "list" = none
  nb_max : mg "max" = none
  nb_min : mg "min" = none
  nb_range : mg "range" = none
  nb_repr : mg "repr" = none
  nb_tuple : mg "tuple" = none
section
variable {P : Program} {w : World} {K : PySem.W.Frag} {mg : Str → Option Value} {base : Heap}
/-! ### the helpers that all laws have: cells of the script, numbers, a state, the next drawn number -/
def spCell (K : PySem.W.Frag) : Sp := fun vs H Q _ => ∃ (l : Addr) (ns : List Int) (k : Int), vs = [.ref l, .int k] ∧ SqL K H l (ns.map V.int) ∧ 0 ≤ k ∧ ∀ z, Q (.int z) H
theorem ok_cell (T : Txt K mg) : FnOk P w K mg base CX0 1 T.a_cell T.d_cell ["script", "k"] (spCell K) := by
  refine T.f_cell.ok sc_cell (fun vs H Q E h => ?_) (fun cdv A outer s H vs Q E hr h => ?_)
  · obtain ⟨_, _, _, rfl, _⟩ := h; rfl
  · obtain ⟨l, ns, k, rfl, hs, h0, q⟩ := h
    refine ⟨_, (pss_cons (ps_if (pt_cmpR op_ltP (pv 1) (pe_callB (kLen K) (by rfl) T.nb_len (by decide +kernel) (pa_cons (pv 0) pa_nil)) (by first | rfl | exact nomark _))
    (pss_one (ps_ret (pe_ix (kIx K) (pv 0) (pv 1) (fun _ _ => rfl))))
    pss_nil)
  (pss_one (ps_ret pe_int))), ?_⟩
    walk_at "rd"
    refine rd_iteD (fun h1 => ?_) (fun h1 => ?_)
    · walk_at "rd"
      rw [List.length_map] at h1
      refine rd_ixL (v := .int (ns.getD k.toNat 0)) hs ?_ (q _)
      have e : k = (k.toNat : Int) := (Int.toNat_of_nonneg h0).symm
      rw [e]
      refine atI_nat ?_
      rw [List.getElem?_map, Int.toNat_natCast, List.getD_eq_getElem?_getD, List.getElem?_eq_getElem (show k.toNat < ns.length by omega)]
      rfl
    · walk_at "rd"
      exact q 0
/-- numbers from 0 to 999 -/
def Small (ns : List Int) : Prop := ∀ x ∈ ns, 0 ≤ x ∧ x < 1000
theorem Small.more {ns : List Int} {x : Int} (h : Small ns) (h0 : 0 ≤ x) (h1 : x < 1000) : Small (ns ++ [x]) := fun y hy => by
  rcases List.mem_append.mp hy with hy | hy
  · exact h y hy
  · rw [List.mem_singleton.mp hy]; exact ⟨h0, h1⟩
theorem Small.app {ns ms : List Int} (h : Small ns) (k : Small ms) : Small (ns ++ ms) := fun y hy => (List.mem_append.mp hy).elim (h y) (k y)
theorem fmod_small {a m : Int} (h : 0 < m) : 0 ≤ a.fmod m ∧ a.fmod m < m := by
  rw [Int.fmod_eq_emod_of_nonneg _ (Int.le_of_lt h)]
  exact ⟨Int.emod_nonneg _ (by omega), Int.emod_lt_of_pos _ h⟩
/-- a new list of small numbers -/
def spNumbers : Sp := fun vs H Q _ => ∃ (c m : Int), vs = [.int c, .int m] ∧ 0 ≤ m ∧ m ≤ 1000 ∧ ∀ (p : Addr) (ns : List Int) (H' : Hp), H p = none → Ex H H' → H' p = some (.lst (ns.map V.int)) → (ns.length : Int) = m → Small ns → Q (.ref p) H'
theorem append_int {H' : Hp} {p : Addr} {ns : List Int} {D : VK} {K : PySem.W.Frag} {i : Nat} {x : Int} (hp : H' p = some (.lst (ns.map V.int))) (hi : ns.length = i) (hl : i < 100000) (q : D .non (upd H' p (.lst ((ns ++ [x]).map V.int)))) :
    rAppend (.ref p) [.int x] H' D := ⟨p, ns.map V.int, .int x, rfl, rfl, hp, Nat.lt_of_lt_of_le (by rw [List.length_map, hi]; exact hl) (by decide), by rw [List.map_append] at q; exact q⟩
theorem ok_numbers (T : Txt K mg) : FnOk P w K mg base CX0 1 T.a_numbers T.d_numbers ["cell", "many"] spNumbers := by
  refine T.f_numbers.ok sc_numbers (fun vs H Q E h => ?_) (fun cdv A outer s H vs Q E hr h => ?_)
  · obtain ⟨_, _, rfl, _⟩ := h; rfl
  · obtain ⟨c, m, rfl, h0, h1, q⟩ := h
    refine ⟨_, (pss_cons (ps_set (i := 2) sc_numbers.nd rfl (by first | exact Or.inl rfl | exact Or.inr rfl) (pe_callB call_absP (by rfl) T.nb_abs (by decide +kernel) (pa_cons (pv 0) pa_nil)))
  (pss_cons (ps_set (i := 3) sc_numbers.nd rfl (by first | exact Or.inl rfl | exact Or.inr rfl) (pv 2))
  (pss_cons (ps_set (i := 4) sc_numbers.nd rfl (by first | exact Or.inl rfl | exact Or.inr rfl) (pe_lst pa_nil))
  (pss_cons (ps_for PassesOwn.never rfl (pi_range1 (by rfl) T.nb_range (pa_cons (pv 1) pa_nil)) (pg_name (i := 5) sc_numbers.nd rfl (by first | exact Or.inl rfl | exact Or.inr rfl))
    (pss_one (ps_if (PW.pt (pw_and (pt_cmpR op_geP (pv 3) (pe_op op_powP pe_int pe_int) (by first | rfl | exact nomark _)) (pw_and1 (pt_cmpR op_gtP (pv 2) pe_int (by first | rfl | exact nomark _)))))
    (pss_cons (ps_expr (kBm K rfl (pe_bm PySem.F.plainAttrs_list PySem.F.slot_list_append PySem.F.type_list_append mt_append (pv 4) (pa_cons (pe_op op_modP (pe_callTy call_intP (by rfl) T.nb_int (by decide +kernel) (pa_cons (pv 2) pa_nil)) pe_int) pa_nil))))
  (pss_one (ps_set (i := 2) sc_numbers.nd rfl (by first | exact Or.inl rfl | exact Or.inr rfl) (pe_op op_divP (pv 2) pe_int))))
    (pss_cons (ps_set (i := 6) sc_numbers.nd rfl (by first | exact Or.inl rfl | exact Or.inr rfl) (pe_op op_modP (pe_callTy call_intP (by rfl) T.nb_int (by decide +kernel) (pa_cons (pe_op (kAdd K) (pe_op (kAdd K) (pe_op op_mulPP (pv 3) pe_int) (pe_op op_mulPP (pv 5) pe_int)) pe_int) pa_nil)) pe_int))
  (pss_cons (ps_set (i := 6) sc_numbers.nd rfl (by first | exact Or.inl rfl | exact Or.inr rfl) (pe_op op_modP (pe_callTy call_intP (by rfl) T.nb_int (by decide +kernel) (pa_cons (pe_op (kAdd K) (pe_op (kAdd K) (pe_op op_mulPP (pv 6) (pv 6)) (pe_op op_mulPP pe_int (pv 5))) pe_int) pa_nil)) pe_int))
  (pss_one (ps_expr (kBm K rfl (pe_bm PySem.F.plainAttrs_list PySem.F.slot_list_append PySem.F.type_list_append mt_append (pv 4) (pa_cons (pe_op op_modP (pe_callTy call_intP (by rfl) T.nb_int (by decide +kernel) (pa_cons (pe_op op_divP (pv 6) pe_int) pa_nil)) pe_int) pa_nil))))))))))
  (pss_one (ps_ret (pv 4))))))), ?_⟩
    walk_at "rd"
    refine ⟨by decide, fun p hp => ?_⟩
    walk_at "rd"
    refine ⟨_, rfl, by omega, by omega, fo_range (n := m.toNat) (fun i σ H' => ∃ (r : Int) (ns : List Int) (kk mm : Option V), σ = [some (.int c), some (.int m), some (.int r), some (.int (if c < 0 then -c else c)), some (.ref p), kk, mm] ∧ Ex H H' ∧ H' p = some (.lst (ns.map V.int)) ∧ ns.length = i ∧ Small ns)
      ⟨_, [], none, none, rfl, Evl.Ex.new hp, upd_same, rfl, fun x hx => by cases hx⟩ ?_ ?_⟩
    · rintro i σ H' hi ⟨r, ns, kk, mm, rfl, e, hl, hn, sm⟩
      have tl : tyV K "list" (.ref p) H' := .inl ⟨rfl, _, SqL.of hl⟩
      walk_at "rd"
      refine rd_powI ⟨by decide, by decide, by decide⟩ ?_
      walk_at "rd"
      refine rd_ite (fun h2 => ?_) (fun h2 => ?_)
      · walk_at "rd"
        refine rd_ite (fun h3 => ?_) (fun h3 => ?_)
        · walk_at "rd"
          refine ⟨tl, ?_⟩
          walk_at "rd"
          refine rd_modI (by decide) ?_
          walk_at "rd"
          refine append_int (K := K) hl hn (by omega) ?_
          walk_at "rd"
          refine rd_divI ⟨by decide, by decide⟩ ?_
          walk_at "rd"
          have fm := fmod_small (a := r) (m := 1000) (by decide)
          exact ⟨_, ns ++ [_], _, _, rfl, Evl.Ex.mut e hp, upd_same, by rw [List.length_append, hn]; rfl, sm.more fm.1 fm.2⟩
        · walk_at "rd"
          refine rd_mulN (.inr ⟨by decide, by decide⟩) ?_
          walk_at "rd"
          refine rd_mulN (.inr ⟨by decide, by decide⟩) ?_
          walk_at "rd"
          refine rd_modI (by decide) ?_
          walk_at "rd"
          have fa := fmod_small (a := (if c < 0 then -c else c) * 48271 + (i : Int) * 69621 + 11) (m := 2147483647) (by decide)
          refine rd_mulN (.inl ⟨by omega, by omega⟩) ?_
          walk_at "rd"
          refine rd_mulN (.inl ⟨by decide, by decide⟩) ?_
          walk_at "rd"
          refine rd_modI (by decide) ?_
          walk_at "rd"
          refine ⟨tl, ?_⟩
          walk_at "rd"
          refine rd_divI ⟨by decide, by decide⟩ ?_
          walk_at "rd"
          refine rd_modI (by decide) ?_
          walk_at "rd"
          refine append_int (K := K) hl hn (by omega) ?_
          have fm := fun a : Int => fmod_small (a := a) (m := 1000) (by decide)
          exact ⟨_, ns ++ [_], _, _, rfl, Evl.Ex.mut e hp, upd_same, by rw [List.length_append, hn]; rfl, sm.more (fm _).1 (fm _).2⟩
      · walk_at "rd"
        refine rd_mulN (.inr ⟨by decide, by decide⟩) ?_
        walk_at "rd"
        refine rd_mulN (.inr ⟨by decide, by decide⟩) ?_
        walk_at "rd"
        refine rd_modI (by decide) ?_
        walk_at "rd"
        have fa := fmod_small (a := (if c < 0 then -c else c) * 48271 + (i : Int) * 69621 + 11) (m := 2147483647) (by decide)
        refine rd_mulN (.inl ⟨by omega, by omega⟩) ?_
        walk_at "rd"
        refine rd_mulN (.inl ⟨by decide, by decide⟩) ?_
        walk_at "rd"
        refine rd_modI (by decide) ?_
        walk_at "rd"
        refine ⟨tl, ?_⟩
        walk_at "rd"
        refine rd_divI ⟨by decide, by decide⟩ ?_
        walk_at "rd"
        refine rd_modI (by decide) ?_
        walk_at "rd"
        refine append_int (K := K) hl hn (by omega) ?_
        have fm := fun a : Int => fmod_small (a := a) (m := 1000) (by decide)
        exact ⟨_, ns ++ [_], _, _, rfl, Evl.Ex.mut e hp, upd_same, by rw [List.length_append, hn]; rfl, sm.more (fm _).1 (fm _).2⟩
    · rintro σ H' ⟨r, ns, kk, mm, rfl, e, hl, hn, sm⟩
      walk_at "rd"
      exact q p ns H' hp e hl (by omega) sm
/-- a state: the numbers, the place -/
def StAt (H : Hp) (p : Addr) : Prop := ∃ (l : Addr) (ns : List Int) (place : Int), H p = some (.lst [.ref l, .int place]) ∧ H l = some (.lst (ns.map V.int)) ∧ Small ns ∧ 0 < ns.length ∧ ns.length ≤ 100000 ∧ 0 ≤ place
theorem StAt.ex {H H' : Hp} {p : Addr} (h : StAt H p) (e : Ex H H') : StAt H' p := by
  obtain ⟨l, ns, pl, h1, h2, h3⟩ := h
  exact ⟨l, ns, pl, e _ _ h1, e _ _ h2, h3⟩
def spState (K : PySem.W.Frag) : Sp := fun vs H Q _ => ∃ (l : Addr) (ns : List Int) (st many : Int), vs = [.ref l, .int st, .int many] ∧ SqL K H l (ns.map V.int) ∧ 0 ≤ st ∧ st ≤ 1000 ∧ 0 < many ∧ many ≤ 1000 ∧
  ∀ (p : Addr) (H' : Hp), H p = none → Ex H H' → StAt H' p → Q (.ref p) H'
theorem ok_state (T : Txt K mg) : FnOk P w K mg base CX0 2 T.a_state T.d_state ["script", "start", "many"] (spState K) := by
  refine T.f_state.ok sc_state (fun vs H Q E h => ?_) (fun cdv A outer s H vs Q E hr h => ?_)
  · obtain ⟨_, _, _, _, rfl, _⟩ := h; rfl
  · obtain ⟨l, ns, st, many, rfl, hs, h0, h1, h2, h3, q⟩ := h
    refine ⟨_, (pss_cons (ps_set (i := 3) sc_state.nd rfl (by first | exact Or.inl rfl | exact Or.inr rfl) (pe_lst pa_nil))
  (pss_cons (ps_for PassesOwn.never rfl (pi_range2 (by rfl) T.nb_range (pa_cons (pv 1) (pa_cons (pe_op (kAdd K) (pv 1) (pv 2)) pa_nil))) (pg_name (i := 4) sc_state.nd rfl (by first | exact Or.inl rfl | exact Or.inr rfl))
    (pss_cons (ps_set (i := 5) sc_state.nd rfl (by first | exact Or.inl rfl | exact Or.inr rfl) (pe_callE (ok_cell T) (hr.mono (by decide)) T.o_cell (pa_cons (pv 0) (pa_cons (pv 4) pa_nil))))
  (pss_cons (ps_if (pt_cmpR op_ltP (pe_callB call_absP (by rfl) T.nb_abs (by decide +kernel) (pa_cons (pv 5) pa_nil)) (pe_op op_powP pe_int pe_int) (by first | rfl | exact nomark _))
    (pss_one (ps_set (i := 5) sc_state.nd rfl (by first | exact Or.inl rfl | exact Or.inr rfl) (pe_op (kAdd K) (pe_op op_mulPP (pv 5) pe_int) (pv 4))))
    pss_nil)
  (pss_one (ps_set (i := 3) sc_state.nd rfl (by first | exact Or.inl rfl | exact Or.inr rfl) (pe_op (kAdd K) (pv 3) (pe_callE (ok_numbers T) (hr.mono (by decide)) T.o_numbers (pa_cons (pv 5) (pa_cons pe_int pa_nil)))))))))
  (pss_one (ps_ret (pe_lst (pa_cons (pv 3) (pa_cons pe_int pa_nil))))))), ?_⟩
    walk_at "rd"
    refine ⟨by decide, fun p hp => ?_⟩
    walk_at "rd"
    refine ⟨_, _, rfl, ⟨by omega, by omega, by omega, by omega⟩, fo_range2 (lo := st) (n := (st + many - st).toNat) (fun i σ H' => ∃ (p2 : Addr) (ms : List Int) (kk cc : Option V), σ = [some (.ref l), some (.int st), some (.int many), some (.ref p2), kk, cc] ∧ Ex H H' ∧ H p2 = none ∧ H' p2 = some (.lst (ms.map V.int)) ∧ ms.length = i * 20 ∧ Small ms)
      ⟨p, [], none, none, rfl, Evl.Ex.new hp, hp, upd_same, rfl, fun x hx => by cases hx⟩ ?_ ?_⟩
    · rintro i σ H' hi ⟨p2, ms, kk, cc, rfl, e, hp2, hl, hn, sm⟩
      walk_at "rd"
      refine ⟨l, ns, _, rfl, Evl.ex_l e hs, by omega, fun z => ?_⟩
      walk_at "rd"
      refine rd_powI ⟨by decide, by decide, by decide⟩ ?_
      walk_at "rd"
      have hi2 : i < 1000 := by omega
      have fin : ∀ (z2 : Int) (cc : Option V), cc = some (.int z2) → tAsg (tOp (oAdd K) (tVar 3) (tCalled spNumbers (tCons (tVar 5) (tCons (tC (.int 20)) tNil)))) (gName 3)
          { nx := fun σ H' => ∃ (p2 : Addr) (ms : List Int) (kk cc : Option V), σ = [some (.ref l), some (.int st), some (.int many), some (.ref p2), kk, cc] ∧ Ex H H' ∧ H p2 = none ∧ H' p2 = some (.lst (ms.map V.int)) ∧ ms.length = (i + 1) * 20 ∧ Small ms, rt := Q } [some (.ref l), some (.int st), some (.int many), some (.ref p2), some (.int (st + (i : Int))), cc] H' := by
        rintro z2 cc rfl
        walk_at "rd"
        refine ⟨z2, 20, rfl, by decide, by decide, fun p3 ns3 H3 hp3 e3 hl3 hn3 sm3 => ?_⟩
        refine rd_cat (e3 _ _ hl) hl3 ?_ fun p4 hp4 => ?_
        · rw [List.length_map, List.length_map, hn]
          refine Nat.le_trans (show i * 20 + ns3.length ≤ 100000 by omega) (by decide)
        · walk_at "rd"
          refine ⟨p4, ms ++ ns3, _, _, rfl, ex_upd (e.trans e3) hp4, Evl.fresh_back (e.trans e3) hp4, ?_, ?_, sm.app sm3⟩
          · rw [upd_same, List.map_append]
          · rw [List.length_append, hn]; omega
      refine rd_ite (fun h4 => ?_) (fun h4 => ?_)
      · walk_at "rd"
        refine rd_mulN (.inr ⟨by decide, by decide⟩) ?_
        walk_at "rd1"
        walk_at "rd1"
        walk_at "rd1"
        walk_at "rd1"
        exact fin _ _ rfl
      · exact fin _ _ rfl
    · rintro σ H' ⟨p2, ms, kk, cc, rfl, e, hp2, hl, hn, sm⟩
      walk_at "rd"
      refine ⟨by show 2 ≤ sizeLine; decide, fun p3 hp3 => ?_⟩
      refine q p3 _ (Evl.fresh_back e hp3) (ex_upd e hp3) ⟨p2, ms, 0, upd_same, ?_, sm, by omega, by omega, by decide⟩
      rw [upd_ne (ne_of_none hl hp3)]
      exact hl
/-- the same list within -/
def SameIn (p : Addr) (H H' : Hp) : Prop := ∀ (l : Addr) (n : V), H p = some (.lst [.ref l, n]) → ∃ n', H' p = some (.lst [.ref l, n'])
theorem SameIn.trans {p : Addr} {H H1 H2 : Hp} (a : SameIn p H H1) (b : SameIn p H1 H2) : SameIn p H H2 := fun l n e => by
  obtain ⟨n1, e1⟩ := a l n e
  exact b l n1 e1
theorem SameIn.ex {p : Addr} {H H1 H2 : Hp} (a : SameIn p H H1) (b : Ex H1 H2) : SameIn p H H2 := fun l n e => by
  obtain ⟨n1, e1⟩ := a l n e
  exact ⟨n1, b _ _ e1⟩
/-- the next number below many: any -/
def spNext : Sp := fun vs H Q _ => ∃ (p : Addr) (many : Int), vs = [.ref p, .int many] ∧ 0 < many ∧ StAt H p ∧ ∀ (r : Int) (H' : Hp), 0 ≤ r → r < many → StAt H' p → (∀ b o, b ≠ p → H b = some o → H' b = some o) → ((∀ b, H b = none → H' b = none) ∧ SameIn p H H') → Q (.int r) H'
theorem ok_next (T : Txt K mg) : FnOk P w K mg base CX0 1 T.a_next T.d_next ["state", "many"] spNext := by
  refine T.f_next.ok sc_next (fun vs H Q E h => ?_) (fun cdv A outer s H vs Q E hr h => ?_)
  · obtain ⟨_, _, rfl, _⟩ := h; rfl
  · obtain ⟨p, many, rfl, hm, ⟨l, ns, place, h1, h2, sm, l0, l1, p0⟩, q⟩ := h
    have lp : l ≠ p := fun z => by
      rw [z, h1] at h2
      have y := HO.lst.inj (Option.some.inj h2)
      cases ns with
      | nil => cases l0
      | cons a r => cases y
    refine ⟨_, (pss_cons (ps_set (i := 2) sc_next.nd rfl (by first | exact Or.inl rfl | exact Or.inr rfl) (pe_ix (kIx K) (pv 0) pe_int (fun _ _ => rfl)))
  (pss_cons (ps_set (i := 3) sc_next.nd rfl (by first | exact Or.inl rfl | exact Or.inr rfl) (pe_ix (kIx K) (pv 0) pe_int (fun _ _ => rfl)))
  (pss_cons (ps_asg (pe_op (kAdd K) (pv 3) pe_int) (pg_sub (pv 0) pe_int set_list))
  (pss_one (ps_ret (pe_op op_modP (pe_callTy call_intP (by rfl) T.nb_int (by decide +kernel) (pa_cons (pe_op (kAdd K) (pe_ix (kIx K) (pv 2) (pe_op op_modP (pv 3) (pe_callB (kLen K) (by rfl) T.nb_len (by decide +kernel) (pa_cons (pv 2) pa_nil))) (fun _ _ => rfl)) (pe_op op_mulPP (pe_op op_divP (pv 3) (pe_callB (kLen K) (by rfl) T.nb_len (by decide +kernel) (pa_cons (pv 2) pa_nil))) pe_int)) pa_nil)) (pv 1))))))), ?_⟩
    walk_at "rd"
    refine rd_ixL (v := .ref l) (SqL.of h1) (atI_nat (j := 0) rfl) ?_
    walk_at "rd"
    refine rd_ixL (v := .int place) (SqL.of h1) (atI_nat (j := 1) rfl) ?_
    walk_at "rd"
    refine ⟨p, _, 1, 1, rfl, rfl, h1, rfl, ?_⟩
    have h2' : upd H p (.lst (([.ref l, .int place] : List V).set 1 (.int (place + 1)))) l = some (.lst (ns.map V.int)) := by rw [upd_ne lp]; exact h2
    have hq : SqL K (upd H p (.lst (([.ref l, .int place] : List V).set 1 (.int (place + 1))))) l (ns.map V.int) := SqL.of h2'
    walk_at "rd"
    have lz : ((ns.map V.int).length : Int) = ns.length := by rw [List.length_map]
    refine rd_modI (by rw [lz]; omega) ?_
    rw [lz]
    have fm := fmod_small (a := place) (m := (ns.length : Int)) (by omega)
    have e : place.fmod (ns.length : Int) = ((place.fmod (ns.length : Int)).toNat : Int) := (Int.toNat_of_nonneg fm.1).symm
    refine rd_ixL (v := .int (ns.getD (place.fmod (ns.length : Int)).toNat 0)) hq ?_ ?_
    · rw [e]
      refine atI_nat ?_
      rw [List.getElem?_map, Int.toNat_natCast, List.getD_eq_getElem?_getD, List.getElem?_eq_getElem (show (place.fmod (ns.length : Int)).toNat < ns.length by omega)]
      rfl
    · walk_at "rd"
      refine rd_divI ⟨by rw [lz]; omega, by rw [lz]; omega⟩ ?_
      walk_at "rd"
      refine rd_mulN (.inr ⟨by decide, by decide⟩) ?_
      walk_at "rd"
      refine rd_modI (by omega) ?_
      have fr := fun a : Int => fmod_small (a := a) (m := many) hm
      refine q _ _ (fr _).1 (fr _).2 ⟨l, ns, place + 1, upd_same, h2', sm, l0, l1, by omega⟩ (fun b o hb ho => ?_) ⟨fun b hb => ?_, fun l' n' e => ⟨.int (place + 1), ?_⟩⟩
      · rw [upd_ne hb]; exact ho
      · rw [upd_ne (fun z => by rw [z, h1] at hb; cases hb)]; exact hb
      · rw [h1] at e
        have e2 := HO.lst.inj (Option.some.inj e)
        rw [upd_same, ← (List.cons.inj e2).1]
        rfl
/-! ### letters and texts -/
theorem ok_init (T : Txt K mg) : FnOk P w K mg base CX0 1 T.a_init T.d_init ["self", "what"] (spInit K) := by
  refine T.f_init.ok sc_init (fun vs H Q E h => ?_) (fun cdv A outer s H vs Q E hr h => ?_)
  · obtain ⟨_, _, _, rfl, _⟩ := h; rfl
  · obtain ⟨a, C, v, rfl, T1, nw, ha, q⟩ := h
    refine ⟨_, pss_one (ps_ost (pv 0) (pv 1)), ?_⟩
    exact ⟨_, rfl, _, rfl, a, C, rfl, T1, nw, .inl ⟨ha, q⟩⟩
/-! ### drawn letters -/
/-- the state at p goes on; what stood stands -/
structure Dr (p : Addr) (H H' : Hp) : Prop where
  st : StAt H' p
  old : ∀ b o, b ≠ p → H b = some o → H' b = some o
  inn : SameIn p H H'
theorem Dr.trans {p : Addr} {H H1 H2 : Hp} (a : Dr p H H1) (b : Dr p H1 H2) : Dr p H H2 := ⟨b.st, fun c o hc q => b.old c o hc (a.old c o hc q), a.inn.trans b.inn⟩
theorem Dr.ex {p : Addr} {H H1 H2 : Hp} (a : Dr p H H1) (e : Ex H1 H2) : Dr p H H2 := ⟨a.st.ex e, fun c o hc q => e c o (a.old c o hc q), a.inn.ex e⟩
theorem Dr.refl {p : Addr} {H : Hp} (h : StAt H p) : Dr p H H := ⟨h, fun _ _ _ q => q, fun _ n e => ⟨n, e⟩⟩
theorem StAt.some {H : Hp} {p : Addr} (h : StAt H p) : ∃ o, H p = some o := by
  obtain ⟨l, ns, pl, h1, _⟩ := h
  exact ⟨_, h1⟩
/-- new since H0: all of H0 stands -/
theorem Dr.from {p : Addr} {H0 H H' : Hp} (e : Ex H0 H) (hp : H0 p = none) (d : Dr p H H') : Ex H0 H' := fun b o q => d.old b o (ne_of_none q hp) (e b o q)
abbrev PL : Str := "abcdefghijklmnopqrstuvwxyzABCDEFGHIJKLMNOPQRSTUVWXYZ0123456789<>=:_@#"
theorem okS_PL : okS PL := by unfold okS; decide +kernel
theorem pl_len : PL.length = 69 := by decide +kernel
theorem okS_nil : okS "" := by unfold okS; decide +kernel
theorem str_len (x y : Str) : (x ++ y).length = x.length + y.length := by
  rw [TL.len_tl, TL.len_tl, TL.len_tl, TL.tl_append, List.length_append]
theorem at_str {z : Str} {r : Int} (h0 : 0 ≤ r) (h : r < z.length) : ∃ c, atI z.cps.toList r = some c ∧ c ∈ z.cps.toList := by
  obtain ⟨n, rfl⟩ := Int.eq_ofNat_of_zero_le h0
  have hl : n < z.cps.toList.length := by
    have : z.cps.toList.length = z.length := rfl
    omega
  exact ⟨z.cps.toList[n], atI_nat (List.getElem?_eq_getElem hl), List.getElem_mem hl⟩
/-- an alphabet of at most so many letters -/
structure Alpha (z : Str) (most : Nat) : Prop where
  l0 : 0 < z.length
  l1 : z.length ≤ most
  ok : okS z
  nd : z.cps.toList.Nodup
  pl : ∀ c ∈ z.cps.toList, c ∈ PL.cps.toList
def spLetters : Sp := fun vs H Q _ => ∃ (p : Addr) (most : Nat), vs = [.ref p, .int (most : Int)] ∧ 0 < most ∧ most ≤ 100 ∧ StAt H p ∧ ∀ (z : Str) (H' : Hp), Alpha z most → Dr p H H' → Q (.str z) H'
theorem ok_letters (T : Txt K mg) : FnOk P w K mg base CX0 2 T.a_letters T.d_letters ["state", "most"] spLetters := by
  refine T.f_letters.ok sc_letters (fun vs H Q E h => ?_) (fun cdv A outer s H vs Q E hr h => ?_)
  · obtain ⟨_, _, rfl, _⟩ := h; rfl
  · obtain ⟨p, most, rfl, h0, h1, hS, q⟩ := h
    refine ⟨_, (pss_cons (ps_set (i := 2) sc_letters.nd rfl (by first | exact Or.inl rfl | exact Or.inr rfl) pe_str)
  (pss_cons (ps_set (i := 3) sc_letters.nd rfl (by first | exact Or.inl rfl | exact Or.inr rfl) pe_str)
  (pss_cons (ps_for PassesOwn.never rfl (pi_range1 (by rfl) T.nb_range (pa_cons (pe_op (kAdd K) pe_int (pe_callE (ok_next T) (hr.mono (by decide)) T.o_next (pa_cons (pv 0) (pa_cons (pv 1) pa_nil)))) pa_nil)) (pg_name (i := 4) sc_letters.nd rfl (by first | exact Or.inl rfl | exact Or.inr rfl))
    (pss_cons (ps_set (i := 5) sc_letters.nd rfl (by first | exact Or.inl rfl | exact Or.inr rfl) (pe_ix (kIx K) (pv 2) (pe_callE (ok_next T) (hr.mono (by decide)) T.o_next (pa_cons (pv 0) (pa_cons pe_int pa_nil))) (fun _ _ => rfl)))
  (pss_one (ps_if (pt_cmpR (kNotIn K) (pv 5) (pv 3) (by first | rfl | exact nomark _))
    (pss_one (ps_set (i := 3) sc_letters.nd rfl (by first | exact Or.inl rfl | exact Or.inr rfl) (pe_op (kAdd K) (pv 3) (pv 5))))
    pss_nil))))
  (pss_one (ps_ret (pv 3)))))), ?_⟩
    walk_at "rc"
    walk_at "rs"
    walk_at "rc"
    refine ⟨p, most, rfl, by omega, hS, fun r H1 r0 r1 S1 k1 i1 => ?_⟩
    walk_at "rc"
    refine ⟨1 + r, rfl, by omega, by omega, fo_range (n := (1 + r).toNat) (fun i σ H' => ∃ (z : Str) (kk ll : Option V), σ = [some (.ref p), some (.int (most : Int)), some (.str PL), some (.str z), kk, ll] ∧ (0 < i → 0 < z.length) ∧ z.length ≤ i ∧ okS z ∧ z.cps.toList.Nodup ∧ (∀ c ∈ z.cps.toList, c ∈ PL.cps.toList) ∧ Dr p H H')
      ⟨"", none, none, rfl, fun z => absurd z (Nat.lt_irrefl 0), Nat.le_refl 0, okS_nil, List.nodup_nil, (fun c hc => nomatch hc), ⟨S1, k1, i1.2⟩⟩ ?_ ?_⟩
    · rintro i σ H' hi ⟨z, kk, ll, rfl, g0, g1, g2, g3, g4, g5⟩
      walk_at "rc"
      refine ⟨p, 69, rfl, by decide, g5.st, fun r2 H2 r20 r21 S2 k2 i2 => ?_⟩
      obtain ⟨c, hc, cm⟩ := at_str (z := PL) r20 (by rw [pl_len]; exact r21)
      refine rd_ixS (by rw [pl_len]; decide) hc ?_
      walk_at "rc"
      have d2 : Dr p H H2 := g5.trans ⟨S2, k2, i2.2⟩
      refine rd_iteN (fun h3 => ?_) (fun h3 => ?_)
      · walk_at "rc"
        refine rd_addS (Nat.le_trans (show z.length + 1 ≤ 1000 by omega) (by decide)) ?_
        walk_at "rc"
        have e : (z ++ (⟨#[c]⟩ : Str)).cps.toList = z.cps.toList ++ [c] := TL.tl_append z ⟨#[c]⟩
        refine ⟨_, _, _, rfl, fun _ => by rw [str_len]; exact Nat.succ_pos _, by rw [str_len]; exact Nat.succ_le_succ g1, okS_app g2 (okS_one okS_PL cm), ?_, fun d hd => ?_, d2⟩
        · rw [e]
          exact List.nodup_append.mpr ⟨g3, List.nodup_cons.mpr ⟨List.not_mem_nil, List.nodup_nil⟩, fun a ha b hb q => by
            rw [List.mem_singleton.mp hb] at q
            rw [q] at ha
            exact h3 ha⟩
        · rw [e] at hd
          rcases List.mem_append.mp hd with y | y
          · exact g4 d y
          · rw [List.mem_singleton.mp y]; exact cm
      · walk_at "rc"
        refine ⟨_, _, _, rfl, fun _ => ?_, Nat.le_succ_of_le g1, g2, g3, g4, d2⟩
        cases e : z.cps.toList with
        | nil => rw [e] at h3; cases h3
        | cons a l =>
          have e2 : z.length = z.cps.toList.length := rfl
          rw [e2, e]
          exact Nat.succ_pos _
    · rintro σ H' ⟨z, kk, ll, rfl, g0, g1, g2, g3, g4, g5⟩
      walk_at "rc"
      exact q z H' ⟨g0 (by omega), by omega, g2, g3, g4⟩ g5
/-! ### drawing, with data -/
/-- a list that was not there may change -/
theorem Dr.put {p r : Addr} {H H' : Hp} {o : HO} (hS : StAt H p) (d : Dr p H H') (hr : H r = none) : Dr p H (upd H' r o) := by
  obtain ⟨l, ns, pl, h1, h2, _⟩ := hS
  have nS : ∀ b u, b ≠ r → H' b = some u → upd H' r o b = some u := fun b u hb z => by rw [upd_ne hb]; exact z
  have rp : p ≠ r := ne_of_none h1 hr
  obtain ⟨n1, e1⟩ := d.inn l _ h1
  refine ⟨?_, fun b u hb z => nS _ _ (ne_of_none z hr) (d.old b u hb z), fun l2 n2 e2 => ?_⟩
  · obtain ⟨l3, ns3, pl3, g1, g2, g3⟩ := d.st
    rw [e1] at g1
    have e4 := (List.cons.inj (HO.lst.inj (Option.some.inj g1))).1
    have e5 : l = l3 := by cases e4; rfl
    subst e5
    refine ⟨l, ns3, pl3, nS _ _ rp ?_, nS _ _ (ne_of_none h2 hr) g2, g3⟩
    rw [e1, g1]
  · obtain ⟨n3, e3⟩ := d.inn l2 n2 e2
    exact ⟨n3, nS _ _ rp e3⟩
theorem Dr.back {p r : Addr} {H H' : Hp} (hS : StAt H p) (d : Dr p H H') (h : H' r = none) : H r = none := by
  cases q : H r with
  | none => rfl
  | some o =>
    by_cases e : r = p
    · subst e
      obtain ⟨o2, h2⟩ := d.st.some
      rw [h] at h2; cases h2
    · rw [d.old r o e q] at h; cases h
theorem Dr.kp {p : Addr} {S : List Addr} {H H' : Hp} (d : Dr p H H') (hp : p ∈ S) : Kp S H H' := fun b o hb q => d.old b o (fun z => hb (z ▸ hp)) q
theorem Dr.st' {p c : Addr} {H H' : Hp} (d : Dr p H H') (h : ∃ o, H c = some o) : ∃ o, H' c = some o := by
  obtain ⟨o, h⟩ := h
  by_cases e : c = p
  · rw [e]; exact d.st.some
  · exact ⟨o, d.old c o e h⟩
theorem tr_dr {p : Addr} {S : List Addr} {H : Hp} (hS : StAt H p) (hp : p ∈ S) : Tr S H (Dr p) :=
  ⟨Dr.refl hS, fun d => Dr.refl d.st, fun d h => d.st' h, fun a b => a.trans b, fun h d => d.put hS h, fun d => d.kp hp⟩
theorem map_ofD {α : Type} {f : α → PyData} {S : α → Prop} : ∀ (vs : List PyData), (∀ (i : Nat) v, vs[i]? = some v → ∃ a, v = f a ∧ S a) → ∃ as : List α, vs = as.map f ∧ ∀ a ∈ as, S a
  | [], _ => ⟨[], rfl, fun a h => by cases h⟩
  | v :: vs, h => by
    obtain ⟨a, e, s⟩ := h 0 v rfl
    obtain ⟨as, e2, s2⟩ := map_ofD vs fun i v hv => h (i + 1) v (by simpa using hv)
    exact ⟨a :: as, by rw [e, e2]; rfl, fun b hb => by
      rcases List.mem_cons.mp hb with z | z
      · rw [z]; exact s
      · exact s2 b z⟩
theorem rng_Y {n : Nat} : ∀ (i : Nat) (H : Hp) (x : V) (H' : Hp), i < n → (H' = H ∧ x = V.int (i : Nat)) → H' = H ∧ (x = V.int (i : Nat)) := fun _ _ _ _ _ y => y
/-! ### machines -/
/-- a list or a tuple of these values stands there -/
def SqA (K : PySem.W.Frag) (H : Hp) (a : Addr) (xs : List V) : Prop := SqL K H a xs ∨ SqT K H a xs
theorem SqA.ex {H H' : Hp} {a : Addr} {xs : List V} (h : SqA K H a xs) (e : Ex H H') : SqA K H' a xs := h.elim (fun z => .inl (Evl.ex_l e z)) fun z => .inr (Evl.ex_t e z)
/-- rows of ints: where each stands -/
inductive RowsA (K : PySem.W.Frag) (H : Hp) : List Addr → List (List Int) → Prop
  | nil : RowsA K H [] []
  | cons {r : Addr} {rs : List Addr} {ns : List Int} {tab : List (List Int)} : SqA K H r (ns.map V.int) → RowsA K H rs tab → RowsA K H (r :: rs) (ns :: tab)
inductive RowsT (K : PySem.W.Frag) (H : Hp) : List Addr → List (List Int) → Prop
  | nil : RowsT K H [] []
  | cons {r : Addr} {rs : List Addr} {ns : List Int} {tab : List (List Int)} : SqT K H r (ns.map V.int) → RowsT K H rs tab → RowsT K H (r :: rs) (ns :: tab)
theorem RowsA.len {H : Hp} : ∀ {rs : List Addr} {tab : List (List Int)}, RowsA K H rs tab → rs.length = tab.length
  | _, _, .nil => rfl
  | _, _, .cons _ t => congrArg Nat.succ t.len
theorem RowsT.len {H : Hp} : ∀ {rs : List Addr} {tab : List (List Int)}, RowsT K H rs tab → rs.length = tab.length
  | _, _, .nil => rfl
  | _, _, .cons _ t => congrArg Nat.succ t.len
theorem RowsA.ex {H H' : Hp} (e : Ex H H') : ∀ {rs : List Addr} {tab : List (List Int)}, RowsA K H rs tab → RowsA K H' rs tab
  | _, _, .nil => .nil
  | _, _, .cons h t => .cons (h.ex e) (t.ex e)
theorem RowsT.ex {H H' : Hp} (e : Ex H H') : ∀ {rs : List Addr} {tab : List (List Int)}, RowsT K H rs tab → RowsT K H' rs tab
  | _, _, .nil => .nil
  | _, _, .cons h t => .cons (Evl.ex_t e h) (t.ex e)
theorem RowsA.get {H : Hp} : ∀ {rs : List Addr} {tab : List (List Int)} {i : Nat} {r : Addr}, RowsA K H rs tab → rs[i]? = some r → ∃ ns, tab[i]? = some ns ∧ SqA K H r (ns.map V.int)
  | _, _, _, _, .nil, e => by simp at e
  | _, _, 0, _, .cons h _, e => by simp at e; subst e; exact ⟨_, rfl, h⟩
  | _, _, i + 1, _, .cons _ t, e => by
    obtain ⟨ns, h1, h2⟩ := t.get (i := i) (by simpa using e)
    exact ⟨ns, by simpa using h1, h2⟩
theorem RowsT.get {H : Hp} : ∀ {rs : List Addr} {tab : List (List Int)} {i : Nat} {r : Addr}, RowsT K H rs tab → rs[i]? = some r → ∃ ns, tab[i]? = some ns ∧ SqT K H r (ns.map V.int)
  | _, _, _, _, .nil, e => by simp at e
  | _, _, 0, _, .cons h _, e => by simp at e; subst e; exact ⟨_, rfl, h⟩
  | _, _, i + 1, _, .cons _ t, e => by
    obtain ⟨ns, h1, h2⟩ := t.get (i := i) (by simpa using e)
    exact ⟨ns, by simpa using h1, h2⟩
theorem RowsT.get2 {H : Hp} : ∀ {rs : List Addr} {tab : List (List Int)} {i : Nat} {ns : List Int}, RowsT K H rs tab → tab[i]? = some ns → ∃ r, rs[i]? = some r ∧ SqT K H r (ns.map V.int)
  | _, _, _, _, .nil, e => by simp at e
  | _, _, 0, _, .cons h _, e => by simp at e; subst e; exact ⟨_, rfl, h⟩
  | _, _, i + 1, _, .cons _ t, e => by
    obtain ⟨r, h1, h2⟩ := t.get2 (i := i) (by simpa using e)
    exact ⟨r, by simpa using h1, h2⟩
/-- rows, one by one -/
theorem RowsT.of {H : Hp} : ∀ {tab : List (List Int)} {vs : List V}, vs.length = tab.length → (∀ (i : Nat) v, vs[i]? = some v → ∃ (r : Addr) (ns : List Int), v = V.ref r ∧ tab[i]? = some ns ∧ SqT K H r (ns.map V.int)) → ∃ rs, vs = rs.map V.ref ∧ RowsT K H rs tab
  | [], [], _, _ => ⟨[], rfl, .nil⟩
  | [], _ :: _, h, _ => by cases h
  | _ :: _, [], h, _ => by cases h
  | ns :: tab, v :: vs, h, g => by
    obtain ⟨r, ms, e1, e2, e3⟩ := g 0 v rfl
    have e2' : ns = ms := Option.some.inj e2
    subst e2'
    subst e1
    obtain ⟨rs, e4, e5⟩ := RowsT.of (tab := tab) (vs := vs) (Nat.succ.inj h) fun i v hv => g (i + 1) v (by simpa using hv)
    exact ⟨r :: rs, by rw [e4]; rfl, .cons e3 e5⟩
def mFields (ls : Str) (ta tt : Addr) : List (Str × V) := [("letters", .str ls), ("accepting", .ref ta), ("table", .ref tt)]
/-- a machine stands at m -/
def MachineAt (K : PySem.W.Frag) (C : Addr) (H : Hp) (m : Addr) (ls : Str) (acc : List Bool) (tab : List (List Int)) : Prop := ∃ (dx ta tt : Addr) (rs : List Addr), H m = some (.ins C dx (mFields ls ta tt)) ∧ SqT K H ta (acc.map V.bl) ∧ SqT K H tt (rs.map V.ref) ∧ RowsT K H rs tab
theorem MachineAt.ex {C : Addr} {H H' : Hp} {m : Addr} {ls : Str} {acc : List Bool} {tab : List (List Int)} (h : MachineAt K C H m ls acc tab) (e : Ex H H') : MachineAt K C H' m ls acc tab := by
  obtain ⟨dx, ta, tt, rs, h1, h2, h3, h4⟩ := h
  exact ⟨dx, ta, tt, rs, e _ _ h1, Evl.ex_t e h2, Evl.ex_t e h3, h4.ex e⟩
def goodM (ls : Str) (acc : List Bool) (tab : List (List Int)) : Prop := acc.length ≠ 0 ∧ tab.length = acc.length ∧ ∀ row ∈ tab, row.length = ls.length ∧ ∀ x ∈ row, 0 ≤ x ∧ x < (acc.length : Int)
/-- what stood is as it was, but at m -/
def But (m : Addr) (H H' : Hp) : Prop := ∀ b o, b ≠ m → H b = some o → H' b = some o
theorem But.ex {m : Addr} {H H' H2 : Hp} (h : But m H H') (e : Ex H' H2) : But m H H2 := fun b o hb q => e b o (h b o hb q)
theorem foldl_min_le (n : Int) : ∀ ns : List Int, (∀ x ∈ n :: ns, ns.foldl min n ≤ x) ∧ ns.foldl min n ∈ n :: ns
  | [] => ⟨fun x hx => by rw [List.mem_singleton.mp hx]; exact Int.le_refl _, List.mem_cons_self⟩
  | k :: ns => by
    have ih := foldl_min_le (min n k) ns
    rw [List.foldl_cons]
    have h0 := ih.1 _ List.mem_cons_self
    refine ⟨fun x hx => ?_, ?_⟩
    · rcases List.mem_cons.mp hx with e | hx
      · rw [e]; omega
      · rcases List.mem_cons.mp hx with e | hx
        · rw [e]; omega
        · exact ih.1 x (List.mem_cons_of_mem _ hx)
    · rcases List.mem_cons.mp ih.2 with e | e
      · rw [e]
        rcases Int.le_total n k with z | z
        · rw [Int.min_eq_left z]; exact List.mem_cons_self
        · rw [Int.min_eq_right z]; exact List.mem_cons_of_mem _ List.mem_cons_self
      · exact List.mem_cons_of_mem _ (List.mem_cons_of_mem _ e)
theorem foldl_max_ge (n : Int) : ∀ ns : List Int, (∀ x ∈ n :: ns, x ≤ ns.foldl max n) ∧ ns.foldl max n ∈ n :: ns
  | [] => ⟨fun x hx => by rw [List.mem_singleton.mp hx]; exact Int.le_refl _, List.mem_cons_self⟩
  | k :: ns => by
    have ih := foldl_max_ge (max n k) ns
    rw [List.foldl_cons]
    have h0 := ih.1 _ List.mem_cons_self
    refine ⟨fun x hx => ?_, ?_⟩
    · rcases List.mem_cons.mp hx with e | hx
      · rw [e]; omega
      · rcases List.mem_cons.mp hx with e | hx
        · rw [e]; omega
        · exact ih.1 x (List.mem_cons_of_mem _ hx)
    · rcases List.mem_cons.mp ih.2 with e | e
      · rw [e]
        rcases Int.le_total n k with z | z
        · rw [Int.max_eq_right z]; exact List.mem_cons_of_mem _ List.mem_cons_self
        · rw [Int.max_eq_left z]; exact List.mem_cons_self
      · exact List.mem_cons_of_mem _ (List.mem_cons_of_mem _ e)
section
variable (T : Txt K mg)
def spCheck : Sp := fun vs H Q E => ∃ (m : Addr) (ls : Str) (acc : List Bool) (tab : List (List Int)), vs = [.ref m] ∧ 0 < ls.length ∧ ls.length ≤ 1000000 ∧ MachineAt K T.C_Machine H m ls acc tab ∧ (goodM ls acc tab → Q .non H) ∧ (¬ goodM ls acc tab → ∀ d, H d = none → E (.ref T.C_BadMachine) (some d) (upd H d (.xd [("what", .non)])))
theorem ok_Machine_check : FnOk P w K mg base (L2.CX P w) 4 T.a_Machine_check T.d_Machine_check ["self"] (spCheck T) := by
  refine T.f_Machine_check.okX sc_Machine_check (fun vs H Q E h => ?_) (fun cdv A outer s H vs Q E hr h => ?_)
  · obtain ⟨_, _, _, _, rfl, _⟩ := h; rfl
  · obtain ⟨m, ls, acc, tab, rfl, l0, l1, ⟨dx, ta, tt, rs, hm, hA, hT, hR⟩, qy, qn⟩ := h
    have lz : ls.length ≤ sizeLine := Nat.le_trans l1 (by decide)
    have rl := hR.len
    refine ⟨_, (pss_cons (ps_set (i := 1) sc_Machine_check.nd rfl (by first | exact Or.inl rfl | exact Or.inr rfl) (pe_callB (kLen K) (by rfl) T.nb_len (by decide +kernel) (pa_cons (kFld K rfl (pe_fld (pv 0) rfl)) pa_nil)))
  (pss_cons (ps_if (PW.pt (pw_or (pt_cmpR (kEq K rfl hr.units) (pv 1) pe_int (by first | rfl | exact nomark _)) (pw_or1 (pt_cmpR (kNe K rfl hr.units) (pe_callB (kLen K) (by rfl) T.nb_len (by decide +kernel) (pa_cons (kFld K rfl (pe_fld (pv 0) rfl)) pa_nil)) (pv 1) (by first | rfl | exact nomark _)))))
    (pss_one (ps_raiseW rfl T.x_BadMachine (ok_init T) T.tI T.bI (hr.mono (by decide)) T.g_BadMachine (takes_of rfl rfl rfl rfl) (pa_cons pe_non pa_nil) (MonoA.one mono_c)))
    pss_nil)
  (pss_one (ps_for (passes_of rfl) rfl (kAny K rfl (kFld K rfl (pe_fld (pv 0) rfl))) (pg_name (i := 2) sc_Machine_check.nd rfl (by first | exact Or.inl rfl | exact Or.inr rfl))
    (pss_one (ps_if (PW.pt (pw_or (pt_cmpR (kNe K rfl hr.units) (pe_callB (kLen K) (by rfl) T.nb_len (by decide +kernel) (pa_cons (pv 2) pa_nil)) (pe_callB (kLen K) (by rfl) T.nb_len (by decide +kernel) (pa_cons (kFld K rfl (pe_fld (pv 0) rfl)) pa_nil)) (by first | rfl | exact nomark _)) (pw_or (pt_cmpR op_ltP (pe_callB (kMin K rfl hr.units) (by rfl) T.nb_min (by decide +kernel) (pa_cons (pv 2) pa_nil)) pe_int (by first | rfl | exact nomark _)) (pw_or1 (pt_cmpR op_geP (pe_callB (kMax K rfl hr.units) (by rfl) T.nb_max (by decide +kernel) (pa_cons (pv 2) pa_nil)) (pv 1) (by first | rfl | exact nomark _))))))
    (pss_one (ps_raiseW rfl T.x_BadMachine (ok_init T) T.tI T.bI (hr.mono (by decide)) T.g_BadMachine (takes_of rfl rfl rfl rfl) (pa_cons pe_non pa_nil) (MonoA.one mono_c)))
    pss_nil)))))), ?_⟩
    walk_at "rc"
    refine ⟨m, T.C_Machine, dx, _, _, rfl, hm, T.cl_Machine, T.na_Machine_accepting, rfl, ?_⟩
    walk_at "rc"
    walk_at "rs"
    walk_at "rc"
    refine rd_iteD (fun h1 => ?_) (fun h1 => ?_)
    · walk_at "rc"
      exact qn fun g => g.1 (by rw [List.length_map] at h1; omega)
    · walk_at "rc"
      refine ⟨m, T.C_Machine, dx, _, _, rfl, hm, T.cl_Machine, T.na_Machine_table, rfl, ?_⟩
      walk_at "rc"
      refine rd_iteN (fun h2 => ?_) (fun h2 => ?_)
      · walk_at "rc"
        exact qn fun g => h2 (by rw [List.length_map, List.length_map, rl, g.2.1])
      · rw [List.length_map, List.length_map, rl] at h2
        walk_at "rc"
        refine rd_anyT (a := tt) (xs := rs.map V.ref) (fun Q q => ?_) hT (fo_tup (fun i σ H' => (∃ v, σ = [some (.ref m), some (.int ((acc.map V.bl).length : Nat)), v]) ∧ H' = H ∧ ∀ row ∈ tab.take i, row.length = ls.length ∧ ∀ x ∈ row, 0 ≤ x ∧ x < (acc.length : Int)) ⟨⟨none, rfl⟩, rfl, fun row hrow => by rw [List.take_zero] at hrow; cases hrow⟩ (fun i σ H' _ p => by rw [p.2.1]; exact hT) ?_ ?_)
        · walk_at "rc"
          exact ⟨m, T.C_Machine, dx, _, _, rfl, hm, T.cl_Machine, T.na_Machine_table, rfl, q⟩
        · rintro i x σ H' hi ⟨⟨v, rfl⟩, rfl, hp⟩
          rw [List.getElem?_map] at hi
          cases hri : rs[i]? with
          | none => rw [hri] at hi; cases hi
          | some r =>
            rw [hri] at hi
            obtain rfl : V.ref r = x := Option.some.inj hi
            obtain ⟨ns, ht, hs⟩ := hR.get hri
            have hmem : ns ∈ tab := List.mem_of_getElem? ht
            walk_at "rc"
            refine ⟨m, T.C_Machine, dx, _, _, rfl, hm, T.cl_Machine, T.na_Machine_letters, rfl, ?_⟩
            walk_at "rc"
            refine rd_lenS lz ?_
            walk_at "rc"
            refine rd_iteN (fun h3 => ?_) (fun h3 => ?_)
            · walk_at "rc"
              exact qn fun g => h3 (by rw [List.length_map, (g.2.2 ns hmem).1])
            · rw [List.length_map] at h3
              walk_at "rc"
              cases ns with
              | nil => have z : (0 : Int) = ls.length := h3; omega
              | cons n0 ns =>
                have mn := foldl_min_le n0 ns
                have mx := foldl_max_ge n0 ns
                refine ⟨r, n0, ns, rfl, hs, ?_⟩
                walk_at "rc"
                refine rd_iteD (fun h4 => ?_) (fun h4 => ?_)
                · walk_at "rc"
                  exact qn fun g => by have := ((g.2.2 _ hmem).2 _ mn.2).1; omega
                · walk_at "rc"
                  refine ⟨r, n0, ns, rfl, hs, ?_⟩
                  walk_at "rc"
                  rw [List.length_map]
                  refine rd_iteD (fun h5 => ?_) (fun h5 => ?_)
                  · walk_at "rc"
                    exact qn fun g => by have := ((g.2.2 _ hmem).2 _ mx.2).2; omega
                  · walk_at "rc"
                    refine ⟨⟨_, rfl⟩, rfl, fun row hrow => ?_⟩
                    rw [List.take_succ, ht] at hrow
                    rcases List.mem_append.mp hrow with z | z
                    · exact hp row z
                    · have e : row = n0 :: ns := by simpa using z
                      rw [e]
                      exact ⟨by omega, fun x hx => ⟨by have := mn.1 x hx; omega, by have := mx.1 x hx; omega⟩⟩
        · rintro σ H' ⟨⟨v, rfl⟩, rfl, hp⟩
          rw [List.length_map, rl, List.take_length] at hp
          exact qy ⟨fun z => h1 (by rw [List.length_map, z]; rfl), by omega, hp⟩
/-- Machine(letters, accepting, table) -/
def spMInit : Sp := fun vs H Q E => ∃ (m dx pa pt : Addr) (ls : Str) (acc : List Bool) (rs : List Addr) (tab : List (List Int)), vs = [.ref m, .str ls, .ref pa, .ref pt] ∧ 0 < ls.length ∧ ls.length ≤ 1000000 ∧ H m = some (.ins T.C_Machine dx []) ∧
  SqA K H pa (acc.map V.bl) ∧ SqA K H pt (rs.map V.ref) ∧ RowsA K H rs tab ∧ tab.length < 100000 ∧
  (goodM ls acc tab → ∀ H', But m H H' → MachineAt K T.C_Machine H' m ls acc tab → Q .non H') ∧ (¬ goodM ls acc tab → ∀ d H', But m H H' → H d = none → H' d = some (.xd [("what", .non)]) → E (.ref T.C_BadMachine) (some d) H')
theorem SqA.tup {pa : Addr} {xs : List V} {H : Hp} {Q : VK} (h : SqA K H pa xs) (q : ∀ ta H', Ex H H' → SqT K H' ta xs → (∀ b, H b = none ∧ H' b ≠ none → b = ta) → Q (.ref ta) H') : cTupOf K [.ref pa] H Q := by
  rcases h with h | h
  · refine rd_tupL h fun l hl => q l _ (Evl.Ex.new hl) (Evl.st_of upd_same) fun b hb => ?_
    by_cases e : b = l
    · exact e
    · rw [upd_ne e] at hb
      exact absurd hb.1 hb.2
  · exact rd_tupT h (q pa _ (Evl.Ex.refl H) h fun b hb => absurd hb.1 hb.2)
theorem But.of_upd {m : Addr} {H : Hp} {o : HO} : But m H (upd H m o) := fun b u hb q => by rw [upd_ne hb]; exact q
theorem But.trans {m : Addr} {H H1 H2 : Hp} (a : But m H H1) (b : But m H1 H2) : But m H H2 := fun c o hc q => b c o hc (a c o hc q)
theorem Ex.but {m : Addr} {H H' : Hp} (e : Ex H H') : But m H H' := fun b o _ q => e b o q
theorem But.sqt {m a : Addr} {H H' : Hp} {xs : List V} {o : HO} (k : But m H H') (hm : H m = some o) (no : ∀ ys, o ≠ .tup ys) (nf : ∀ ob u, o ≠ .frz ob u) (h : SqT K H a xs) : SqT K H' a xs := by
  rcases h with (h | ⟨ob, h⟩) | h
  · exact .inl (.inl (k _ _ (fun z => by rw [z, hm] at h; exact no _ (Option.some.inj h)) h))
  · exact .inl (.inr ⟨ob, k _ _ (fun z => by rw [z, hm] at h; exact nf _ _ (Option.some.inj h)) h⟩)
  · exact .inr h
theorem But.sql {m a : Addr} {H H' : Hp} {xs : List V} {o : HO} (k : But m H H') (hm : H m = some o) (no : ∀ ys, o ≠ .lst ys) (nf : ∀ ob u, o ≠ .frz ob u) (h : SqL K H a xs) : SqL K H' a xs := by
  rcases h with (h | ⟨ob, h⟩) | h
  · exact .inl (.inl (k _ _ (fun z => by rw [z, hm] at h; exact no _ (Option.some.inj h)) h))
  · exact .inl (.inr ⟨ob, k _ _ (fun z => by rw [z, hm] at h; exact nf _ _ (Option.some.inj h)) h⟩)
  · exact .inr h
theorem But.sqa {m a C dx : Addr} {H H' : Hp} {xs : List V} {fs : List (Str × V)} (k : But m H H') (hm : H m = some (.ins C dx fs)) (h : SqA K H a xs) : SqA K H' a xs :=
  h.elim (fun z => .inl (k.sql hm (fun _ z => by cases z) (fun _ _ z => by cases z) z)) fun z => .inr (k.sqt hm (fun _ z => by cases z) (fun _ _ z => by cases z) z)
theorem But.rowsA {m C dx : Addr} {H H' : Hp} {fs : List (Str × V)} (k : But m H H') (hm : H m = some (.ins C dx fs)) : ∀ {rs : List Addr} {tab : List (List Int)}, RowsA K H rs tab → RowsA K H' rs tab
  | _, _, .nil => .nil
  | _, _, .cons h t => .cons (k.sqa hm h) (k.rowsA hm t)
theorem But.rowsT {m C dx : Addr} {H H' : Hp} {fs : List (Str × V)} (k : But m H H') (hm : H m = some (.ins C dx fs)) : ∀ {rs : List Addr} {tab : List (List Int)}, RowsT K H rs tab → RowsT K H' rs tab
  | _, _, .nil => .nil
  | _, _, .cons h t => .cons (k.sqt hm (fun _ z => by cases z) (fun _ _ z => by cases z) h) (k.rowsT hm t)
theorem sqt_hide {L r : Addr} {H : Hp} {xs vs : List V} (hL : H L = some (.lst vs)) (h : SqT K H r xs) : SqT K (hide L H) r xs := by
  rcases h with (h | ⟨ob, h⟩) | h
  · exact .inl (.inl (by rw [hide_ne (fun z => by rw [z, hL] at h; cases h)]; exact h))
  · exact .inl (.inr ⟨ob, by rw [hide_ne (fun z => by rw [z, hL] at h; cases h)]; exact h⟩)
  · exact .inr h
theorem RowsA.get2 {H : Hp} : ∀ {rs : List Addr} {tab : List (List Int)} {i : Nat}, RowsA K H rs tab → i < rs.length → ∃ r ns, rs[i]? = some r ∧ tab[i]? = some ns ∧ SqA K H r (ns.map V.int)
  | _, _, _, .nil, e => by cases e
  | _, _, 0, .cons h _, _ => ⟨_, _, rfl, rfl, h⟩
  | _, _, i + 1, .cons _ t, e => by
    obtain ⟨r, ns, h1, h2, h3⟩ := t.get2 (i := i) (Nat.lt_of_succ_lt_succ e)
    exact ⟨r, ns, by simpa using h1, by simpa using h2, h3⟩
/-- [tuple(row) for row in table] -/
theorem lc_rows {j : Nat} {σ : L2.St} {H : Hp} {Q : VK} {pt : Addr} {rs : List Addr} {tab : List (List Int)} {te : TE} (he : ∀ Q : VK, Q (.ref pt) H → te σ H Q) (hj : ∀ v : V, ((wipe σ [j]).set j (some v))[j]? = some (some v)) (hn : tab.length < 100000) (hT : SqA K H pt (rs.map V.ref)) (hR : RowsA K H rs tab)
    (h : ∀ L rs2 Hc, H L = none → Ex H Hc → Hc L = some (.lst (rs2.map V.ref)) → RowsT K (hide L Hc) rs2 tab → Q (.ref L) Hc) : iAny K te σ H (lcB (gName j) tYes (tCB (cTupOf K) (tCons (tVar j) tNil)) [j] σ Q) := by
  have rl := hR.len
  have xl : (rs.map V.ref).length = rs.length := List.length_map ..
  have el : ∀ L i Hc, i < (rs.map V.ref).length → H L = none → (∃ vs, Hc L = some (.lst vs)) → Ex H Hc → ∀ N : VK, (∀ v H2, Ex Hc H2 → (∃ (r : Addr) (ns : List Int), v = V.ref r ∧ tab[i]? = some ns ∧ SqT K (hide L H2) r (ns.map V.int)) → N v H2) →
      tCB (cTupOf K) (tCons (tVar j) tNil) ((wipe σ [j]).set j (some ((rs.map V.ref).getD i .non))) Hc N := by
    intro L i Hc hi hL ⟨vs, hv⟩ e N hN
    rw [xl] at hi
    obtain ⟨r, ns, h1, h2, h3⟩ := hR.get2 hi
    have ex : (rs.map V.ref).getD i .non = .ref r := by rw [List.getD_eq_getElem?_getD, List.getElem?_map, h1]; rfl
    rw [ex]
    refine ⟨_, hj _, ?_⟩
    rcases h3.ex e with h3 | h3
    · refine rd_tupL h3 fun l hl => hN _ _ (Evl.Ex.new hl) ⟨l, ns, rfl, h2, ?_⟩
      refine .inl (.inl ?_)
      rw [hide_ne (Ne.symm (ne_of_none hv hl)), upd_same]
    · exact rd_tupT h3 (hN _ _ (Evl.Ex.refl _) ⟨r, ns, rfl, h2, sqt_hide hv h3⟩)
  have fin : ∀ L vs Hc, H L = none → Ex H Hc → Hc L = some (.lst vs) → vs.length = (rs.map V.ref).length → (∀ (i : Nat) v, vs[i]? = some v → ∃ (r : Addr) (ns : List Int), v = V.ref r ∧ tab[i]? = some ns ∧ SqT K (hide L Hc) r (ns.map V.int)) → Q (.ref L) Hc := by
    intro L vs Hc hL e hv hl g
    obtain ⟨rs2, rfl, h2⟩ := RowsT.of (tab := tab) (by rw [hl, xl, rl]) g
    exact h L rs2 Hc hL e hv h2
  have yl : ∀ (i : Nat) (H : Hp) (x : V) (H' : Hp), i < (rs.map V.ref).length → YAt (rs.map V.ref) i H x H' → H' = H ∧ x = (rs.map V.ref).getD i .non := fun i H x H' _ y => ⟨y.1, by rw [List.getD_eq_getElem?_getD, y.2]; rfl⟩
  have mR : ∀ (i : Nat) (v : V) (H1 H2 : Hp), Ex H1 H2 → (∃ (r : Addr) (ns : List Int), v = V.ref r ∧ tab[i]? = some ns ∧ SqT K H1 r (ns.map V.int)) → ∃ (r : Addr) (ns : List Int), v = V.ref r ∧ tab[i]? = some ns ∧ SqT K H2 r (ns.map V.int) := fun i v H1 H2 e ⟨r, ns, a, b, c⟩ => ⟨r, ns, a, b, Evl.ex_t e c⟩
  rcases hT with hT | hT
  · exact rd_anyL he hT (lc_new (fun i v H => ∃ (r : Addr) (ns : List Int), v = V.ref r ∧ tab[i]? = some ns ∧ SqT K H r (ns.map V.int)) walk_list yl (by rw [xl, rl]; exact hn) (fun Hc e => Evl.ex_l e hT) mR el fin)
  · exact rd_anyT he hT (lc_new (fun i v H => ∃ (r : Addr) (ns : List Int), v = V.ref r ∧ tab[i]? = some ns ∧ SqT K H r (ns.map V.int)) walk_tup yl (by rw [xl, rl]; exact hn) (fun Hc e => Evl.ex_t e hT) mR el fin)
theorem ok_Machine_init : FnOk P w K mg base (L2.CX P w) 5 T.a_Machine_init T.d_Machine_init ["self", "letters", "accepting", "table"] (spMInit T) := by
  refine T.f_Machine_init.okX sc_Machine_init (fun vs H Q E h => ?_) (fun cdv A outer s H vs Q E hr h => ?_)
  · obtain ⟨_, _, _, _, _, _, _, _, rfl, _⟩ := h; rfl
  · obtain ⟨m, dx, pa, pt, ls, acc, rs, tab, rfl, l0, l1, hm, hA, hT, hR, hn, qy, qn⟩ := h
    refine ⟨_, (pss_cons (kSf K rfl (ps_fld (pv 0) (pv 1) rfl))
  (pss_cons (kSf K rfl (ps_fld (pv 0) (pe_callTy (kTupOf K) (by rfl) T.nb_tuple (by decide +kernel) (pa_cons (pv 2) pa_nil)) rfl))
  (pss_cons (kSf K rfl (ps_fld (pv 0) (pe_callTy (kTupOf K) (by rfl) T.nb_tuple (by decide +kernel) (pa_cons (pe_lc (own := [("row", 4)]) (g := gName 4) (tt := tYes) (by rfl) sc_Machine_init.nd (kAny K rfl (pv 3)) (blkOk_by (own := [("row", 4)]) (N := ["self", "letters", "accepting", "table", "row"]) (sc := defScope s_Machine_init) (by decide +kernel)) (fun _ _ _ _ _ => (pg_name (i := 4) sc_Machine_init.nd rfl (by first | exact Or.inl rfl | exact Or.inr rfl))) (fun _ _ _ _ _ => pts_nil) (fun _ _ _ _ _ => (pe_callTy (kTupOf K) (by rfl) T.nb_tuple (by decide +kernel) (pa_cons (pv 4) pa_nil)))) pa_nil)) rfl))
  (pss_one (ps_expr (pe_methR0 T.m_Machine_check T.cl_Machine (pv 0) (ok_Machine_check T) (hr.mono (by decide)) T.b_Machine_check (takes_of rfl rfl rfl rfl))))))), ?_⟩
    walk_at "rs"
    walk_at "rc"
    refine ⟨m, T.C_Machine, dx, [], rfl, hm, T.cl_Machine, T.na_Machine_letters, by show 0 < 1000; decide, ?_⟩
    have k1 : But m H (upd H m (.ins T.C_Machine dx (putF "letters" (.str ls) []))) := But.of_upd
    generalize hH1 : upd H m (.ins T.C_Machine dx (putF "letters" (.str ls) [])) = H1 at k1
    have m1 : H1 m = some (.ins T.C_Machine dx [("letters", .str ls)]) := by rw [← hH1]; exact upd_same
    walk_at "rs"
    walk_at "rc"
    refine (k1.sqa hm hA).tup fun ta H2 e2 hta _ => ?_
    have m2 := e2 _ _ m1
    walk_at "rc"
    refine ⟨m, T.C_Machine, dx, _, rfl, m2, T.cl_Machine, T.na_Machine_accepting, by show 1 < 1000; decide, ?_⟩
    have k3 : But m H2 (upd H2 m (.ins T.C_Machine dx (putF "accepting" (.ref ta) [("letters", .str ls)]))) := But.of_upd
    generalize hH3 : upd H2 m (.ins T.C_Machine dx (putF "accepting" (.ref ta) [("letters", .str ls)])) = H3 at k3
    have m3 : H3 m = some (.ins T.C_Machine dx [("letters", .str ls), ("accepting", .ref ta)]) := by rw [← hH3]; exact upd_same
    have ka : But m H H3 := (k1.ex e2).trans k3
    have hta3 : SqT K H3 ta (acc.map V.bl) := k3.sqt m2 (fun _ z => by cases z) (fun _ _ z => by cases z) hta
    walk_at "rs"
    walk_at "rc"
    refine lc_rows (fun Q q => ⟨_, rfl, q⟩) (fun v => rfl) hn (ka.sqa hm hT) (ka.rowsA hm hR) fun L rs2 Hc hL ec hLc hRc => ?_
    walk_at "rc"
    refine rd_tupL (SqL.of hLc) fun tt htt => ?_
    have e5 : Ex Hc (upd Hc tt (.tup (rs2.map V.ref))) := Evl.Ex.new htt
    have hRT := (hRc.ex hide_ex).ex e5
    generalize hH5 : upd Hc tt (.tup (rs2.map V.ref)) = H5 at e5 hRT
    have htt5 : SqT K H5 tt (rs2.map V.ref) := by rw [← hH5]; exact Evl.st_of upd_same
    have m5 := e5 _ _ (ec _ _ m3)
    walk_at "rc"
    refine ⟨m, T.C_Machine, dx, _, rfl, m5, T.cl_Machine, T.na_Machine_table, by show 2 < 1000; decide, ?_⟩
    have k6 : But m H5 (upd H5 m (.ins T.C_Machine dx (putF "table" (.ref tt) [("letters", .str ls), ("accepting", .ref ta)]))) := But.of_upd
    generalize hH6 : upd H5 m (.ins T.C_Machine dx (putF "table" (.ref tt) [("letters", .str ls), ("accepting", .ref ta)])) = H6 at k6
    have m6 : H6 m = some (.ins T.C_Machine dx (mFields ls ta tt)) := by rw [← hH6]; exact upd_same
    have kz : But m H H6 := ((ka.ex ec).ex e5).trans k6
    have ma : MachineAt K T.C_Machine H6 m ls acc tab := ⟨dx, ta, tt, rs2, m6, k6.sqt m5 (fun _ z => by cases z) (fun _ _ z => by cases z) (Evl.ex_t (ec.trans e5) hta3), k6.sqt m5 (fun _ z => by cases z) (fun _ _ z => by cases z) htt5, k6.rowsT m5 hRT⟩
    walk_at "rc"
    refine ⟨m, dx, _, rfl, m6, rfl, ?_⟩
    walk_at "rc"
    refine ⟨m, ls, acc, tab, rfl, l0, l1, ma, fun g => ?_, fun g d hd => ?_⟩
    · exact qy g H6 kz ma
    · refine qn g d _ (kz.ex (Evl.Ex.new hd)) ?_ upd_same
      cases q0 : H d with
      | none => rfl
      | some o =>
        by_cases hdm : d = m
        · rw [hdm, m6] at hd; cases hd
        · rw [kz d o hdm q0] at hd; cases hd
end
/-- rows in lists of their own, in the hidden part -/
structure RowsM (K : PySem.W.Frag) (S : List Addr) (H : Hp) (rs : List Addr) (ts : List (List PyData)) : Prop where
  nd : rs.Nodup
  len : rs.length = ts.length
  sub : ∀ r ∈ rs, r ∈ S
  at' : ∀ (i : Nat) (r : Addr) (es : List PyData), rs[i]? = some r → ts[i]? = some es → ∃ ws, H r = some (.lst ws) ∧ DpAll K (hid S H) ws es
theorem RowsM.mono {S : List Addr} {H H' : Hp} {rs : List Addr} {ts : List (List PyData)} (h : RowsM K S H rs ts) (k : Kp S H H') (kr : ∀ r ∈ rs, ∀ o, H r = some o → H' r = some o) : RowsM K S H' rs ts :=
  ⟨h.nd, h.len, h.sub, fun i r es h1 h2 => by
    obtain ⟨ws, a, b⟩ := h.at' i r es h1 h2
    exact ⟨ws, kr r (List.mem_of_getElem? h1) _ a, b.ex k.ex⟩⟩
theorem RowsM.set {S : List Addr} {H : Hp} {rs : List Addr} {ts : List (List PyData)} {i : Nat} {r : Addr} {ws : List V} {es : List PyData} (h : RowsM K S H rs ts) (hr : rs[i]? = some r) (hd : DpAll K (hid S H) ws es) : RowsM K S (upd H r (.lst ws)) rs (ts.set i es) := by
  have rm : r ∈ S := h.sub r (List.mem_of_getElem? hr)
  have k : Kp S H (upd H r (.lst ws)) := Kp.put rm
  refine ⟨h.nd, by rw [List.length_set]; exact h.len, h.sub, fun i' q es' h1 h2 => ?_⟩
  have hl : i < rs.length := (List.getElem?_eq_some_iff.mp hr).1
  by_cases e : i' = i
  · subst e
    rw [hr] at h1
    obtain rfl := Option.some.inj h1
    rw [List.getElem?_set_self (by rw [← h.len]; exact hl)] at h2
    obtain rfl := Option.some.inj h2
    exact ⟨ws, upd_same, hd.ex k.ex⟩
  · rw [List.getElem?_set_ne (fun z => e z.symm)] at h2
    have hne : q ≠ r := fun z => by
      subst z
      have hil : i' < rs.length := (List.getElem?_eq_some_iff.mp h1).1
      exact e ((List.getElem?_inj hil h.nd).mp (h1.trans hr.symm))
    obtain ⟨ws', a, b⟩ := h.at' i' q es' h1 h2
    exact ⟨ws', by rw [upd_ne hne]; exact a, b.ex k.ex⟩
theorem RowsM.dp {S : List Addr} {H : Hp} {rs : List Addr} {ts : List (List PyData)} (h : RowsM K S H rs ts) : DpAll K H (rs.map V.ref) (ts.map PyData.list) :=
  DpAll.of (by rw [List.length_map, List.length_map, h.len]) fun i v d h1 h2 => by
    rw [List.getElem?_map] at h1 h2
    obtain ⟨r, hr, rfl⟩ := Option.map_eq_some_iff.mp h1
    obtain ⟨es, he, rfl⟩ := Option.map_eq_some_iff.mp h2
    obtain ⟨ws, a, b⟩ := h.at' i r es hr he
    exact .lst (SqL.of a) (b.ex hid_ex)
/-- [[] for row in rows] -/
theorem lc_newM {S : List Addr} {j : Nat} {σ : L2.St} {H H0 : Hp} {Q : VK} {J : It} {ds : List PyData} (hS : ∀ b ∈ S, ∃ o, H b = some o) (w : Wd K J ds H0) (e0 : Ex H0 (hid S H)) (hn : ds.length < 100000) (hw : ∀ v : V, wipe ((wipe σ [j]).set j (some v)) [j] = wipe σ [j])
    (h : ∀ L rs Hc, Ex H Hc → H L = none → L ∉ S → Hc L = some (.lst (rs.map V.ref)) → (∀ r ∈ rs, H r = none) → L ∉ rs → RowsM K (rs ++ L :: S) Hc rs (List.replicate ds.length []) → Q (.ref L) Hc) : lcB (gName j) tYes (tLst tNil) [j] σ Q J H := by
  generalize hts : List.replicate ds.length ([] : List PyData) = ts at h
  have hl : ds.length = ts.length := by rw [← hts, List.length_replicate]
  have htn : ∀ (i : Nat) es, ts[i]? = some es → es = [] := fun i es q => by
    rw [← hts, List.getElem?_replicate] at q
    split at q
    · exact (Option.some.inj q).symm
    · cases q
  intro L hL
  have nL : L ∉ S := notin_of hS hL
  refine lc_it w (fun i Hc => Ex H Hc ∧ ∃ rs : List Addr, Hc L = some (.lst (rs.map V.ref)) ∧ rs.length = i ∧ rs.Nodup ∧ (∀ r ∈ rs, H r = none) ∧ L ∉ rs ∧ ∀ (i' : Nat) (r : Addr) (es : List PyData), rs[i']? = some r → ts[i']? = some es → ∃ ws, Hc r = some (.lst ws) ∧ DpAll K (hid S H) ws es)
    ⟨Evl.Ex.new hL, [], upd_same, rfl, List.nodup_nil, (fun r hr => nomatch hr), List.not_mem_nil, fun i' r es z => by simp at z⟩ (fun i Hc _ q => e0.trans ((Ex.hid q.1).trans hid_ex)) (fun i x Hc H' hi q y => ?_) fun Hc q => ?_
  · obtain ⟨e1, rs, h1, h2, h3, h4, h5, h6⟩ := q
    obtain ⟨rfl, d, hd1, hd2⟩ := y
    refine ⟨hw x, rd_yes ?_⟩
    refine rd_iteT ?_
    have hti : i < ts.length := by rw [← hl]; exact hi
    refine rd_lst ?_
    refine rd_nil ?_
    refine ⟨by decide, fun l hl' => ?_⟩
    have nlL : l ≠ L := fun z => by rw [z, h1] at hl'; cases hl'
    have nlr : l ∉ rs := fun z => by
      obtain ⟨i', hi'⟩ := List.getElem?_of_mem z
      have hlt := (List.getElem?_eq_some_iff.mp hi').1
      obtain ⟨ws, a, _⟩ := h6 i' l _ hi' (List.getElem?_eq_getElem (show i' < ts.length by omega))
      rw [hl'] at a; cases a
    have fl : H l = none := Evl.fresh_back e1 hl'
    refine ⟨rs.map V.ref, by rw [upd_ne (Ne.symm nlL)]; exact h1, ?_, Evl.Ex.mut (ex_upd e1 hl') hL, rs ++ [l], by rw [upd_same, List.map_append]; rfl, by rw [List.length_append, h2]; rfl, ?_, fun r hr => ?_, fun z => ?_, fun i' r es g1 g2 => ?_⟩
    · rw [List.length_map, h2]
      exact Nat.lt_of_lt_of_le (Nat.lt_trans hi hn) (by decide)
    · exact List.nodup_append.mpr ⟨h3, List.nodup_cons.mpr ⟨List.not_mem_nil, List.nodup_nil⟩, fun a ha b hb q => by
        rw [List.mem_singleton.mp hb] at q
        rw [q] at ha
        exact nlr ha⟩
    · rcases List.mem_append.mp hr with y | y
      · exact h4 r y
      · rw [List.mem_singleton.mp y]; exact fl
    · rcases List.mem_append.mp z with y | y
      · exact h5 y
      · exact nlL (List.mem_singleton.mp y).symm
    · by_cases hlt : i' < rs.length
      · rw [List.getElem?_append_left hlt] at g1
        obtain ⟨ws, a, b⟩ := h6 i' r es g1 g2
        have rm := List.mem_of_getElem? g1
        refine ⟨ws, ?_, b⟩
        rw [upd_ne (show r ≠ L from fun z => h5 (by rw [← z]; exact rm)), upd_ne (show r ≠ l from fun z => nlr (by rw [← z]; exact rm))]
        exact a
      · rw [List.getElem?_append_right (by omega)] at g1
        have e0' : i' - rs.length = 0 := by
          rcases Nat.eq_zero_or_pos (i' - rs.length) with z | z
          · exact z
          · rw [List.getElem?_eq_none (by simp; omega)] at g1
            cases g1
        rw [e0'] at g1
        obtain rfl : l = r := Option.some.inj g1
        have e3 : i' = i := by omega
        subst e3
        rw [List.getElem?_eq_getElem hti] at g2
        obtain rfl := Option.some.inj g2
        have ee := htn _ _ (List.getElem?_eq_getElem hti)
        rw [ee]
        exact ⟨[], by rw [upd_ne nlL, upd_same], .nil⟩
  · obtain ⟨e1, rs, h1, h2, h3, h4, h5, h6⟩ := q
    refine h L rs Hc e1 hL nL h1 h4 h5 ⟨h3, by omega, fun r hr => List.mem_append.mpr (.inl hr), fun i' r es g1 g2 => ?_⟩
    obtain ⟨ws, a, b⟩ := h6 i' r es g1 g2
    refine ⟨ws, a, b.ex ((Kp.of_ex (S := S) e1).up fun b hb hn => ?_)⟩
    rcases List.mem_append.mp hb with z | z
    · exact h4 b z
    · rcases List.mem_cons.mp z with z | z
      · rw [z]; exact hL
      · exact absurd z hn
/-! ### states that are led to -/
def nI (n : Nat) : PyData := .int (n : Int)
/-- rows of numbers, in lists or in tuples -/
def RowsN (ds : List PyData) (tab : List (List Nat)) : Prop := ds.length = tab.length ∧ ∀ (i : Nat) d row, ds[i]? = some d → tab[i]? = some row → d = .list (row.map nI) ∨ d = .tuple (row.map nI)
structure Grf (tab : List (List Nat)) : Prop where
  n : tab.length ≤ 1000
  b : ∀ row ∈ tab, ∀ x ∈ row, x < tab.length
inductive Rch (tab : List (List Nat)) (st : List Nat) : Nat → Prop
  | st {s : Nat} : s ∈ st → Rch tab st s
  | go {s t : Nat} : Rch tab st s → t ∈ tab.getD s [] → Rch tab st t
theorem RowsN.get {K : PySem.W.Frag} {H : Hp} {ds : List PyData} {tab : List (List Nat)} {i : Nat} {d : PyData} {v : V} (h : RowsN ds tab) (hd : ds[i]? = some d) (q : Dp K H v d) : ∃ row, tab[i]? = some row ∧ tab.getD i [] = row ∧ SqD K H v (row.map nI) := by
  have hl : i < tab.length := by rw [← h.1]; exact (List.getElem?_eq_some_iff.mp hd).1
  have e : tab[i]? = some tab[i] := List.getElem?_eq_getElem hl
  refine ⟨_, e, by rw [List.getD_eq_getElem?_getD, e]; rfl, ?_⟩
  rcases h.2 i d _ hd e with z | z <;> subst z
  · exact .inl q
  · exact .inr q
theorem rd_ixSq {K : PySem.W.Frag} {H0 H : Hp} {x : V} {ds : List PyData} {i : Nat} {d : PyData} {Q : VK} (e : Ex H0 H) (h : SqD K H0 x ds) (hi : ds[i]? = some d) (q : ∀ v, Dp K H0 v d → Q v H) : rIx K x (.int (i : Int)) H Q := by
  rcases h with h | h
  · exact rd_ixDL e h hi q
  · exact rd_ixDT e h hi q
theorem sq_at {K : PySem.W.Frag} {H0 : Hp} {x : V} {ds : List PyData} {i : Nat} {d : PyData} (h : SqD K H0 x ds) (hi : ds[i]? = some d) : ∃ v, Dp K H0 v d ∧ ∀ H, Ex H0 H → ∀ Q : VK, Q v H → rIx K x (.int (i : Int)) H Q := by
  rcases h with h | h
  · obtain ⟨a, vs, rfl, h1, h2⟩ := Dp.lstv h
    obtain ⟨v, g1, g2⟩ := h2.get hi
    exact ⟨v, g2, fun H e Q q => rd_ixL (Evl.ex_l e h1) (atI_nat g1) q⟩
  · obtain ⟨a, vs, rfl, h1, h2⟩ := Dp.tupv h
    obtain ⟨v, g1, g2⟩ := h2.get hi
    exact ⟨v, g2, fun H e Q q => rd_ixT (Evl.ex_t e h1) (atI_nat g1) q⟩
theorem rd_lenSq {K : PySem.W.Frag} {H0 H : Hp} {x : V} {ds : List PyData} {Q : VK} (e : Ex H0 H) (h : SqD K H0 x ds) (q : Q (.int (ds.length : Int)) H) : cLen K [x] H Q := by
  rcases h with h | h
  · exact rd_lenDL e h q
  · exact rd_lenDT e h q
def vI (n : Nat) : V := .int (n : Int)
theorem dp_nats {K : PySem.W.Frag} {H : Hp} : ∀ {vs : List V} {ss : List Nat}, DpAll K H vs (ss.map nI) → vs = ss.map vI
  | _, [], .nil => rfl
  | _, s :: ss, .cons h t => by
    cases Dp.int_iff h
    rw [dp_nats t]
    rfl
theorem rep_bl (n : Nat) : (List.replicate n [V.bl false]).flatten = (List.replicate n false).map V.bl := by
  induction n with
  | zero => rfl
  | succ n ih =>
    rw [List.replicate_succ, List.flatten_cons, ih, List.replicate_succ]
    rfl
theorem rd_bm0 {K : PySem.W.Frag} {T : String} {r : V → List V → Hp → VK → Prop} {to : TE} {σ : L2.St} {H : Hp} {Q : VK} (h : to σ H fun x H1 => tyV K T x H1 ∧ r x [] H1 Q) : tBM0 K T r to σ H Q := h
/-- what is found, what waits -/
structure Fnd (tab : List (List Nat)) (st : List Nat) (fs : List Bool) (ws : List Nat) : Prop where
  n : fs.length = tab.length
  w : ∀ s ∈ ws, fs[s]? = some true
  r : ∀ s : Nat, fs[s]? = some true → Rch tab st s
theorem Fnd.set {tab : List (List Nat)} {st : List Nat} {fs : List Bool} {ws : List Nat} {t : Nat} (h : Fnd tab st fs ws) (hr : Rch tab st t) : Fnd tab st (fs.set t true) ws := by
  refine ⟨by rw [List.length_set]; exact h.n, fun s hs => ?_, fun s hs => ?_⟩
  · have := h.w s hs
    by_cases e : s = t
    · subst e
      rw [List.getElem?_set_self (List.getElem?_eq_some_iff.mp this).1]
    · rw [List.getElem?_set_ne (Ne.symm e)]; exact this
  · by_cases e : s = t
    · rw [e]; exact hr
    · rw [List.getElem?_set_ne (Ne.symm e)] at hs
      exact h.r s hs
theorem cnt_set : ∀ (fs : List Bool) (t : Nat), fs[t]? = some false → (fs.set t true).count false + 1 = fs.count false
  | [], _, h => by simp at h
  | b :: fs, 0, h => by
    simp at h
    subst h
    simp
  | b :: fs, t + 1, h => by
    have := cnt_set fs t (by simpa using h)
    rw [List.set_cons_succ, List.count_cons, List.count_cons]
    omega
def spReached : Sp := fun vs H Q _ => ∃ (x y : V) (st : List Nat) (tab : List (List Nat)) (ds : List PyData), vs = [x, y] ∧ SqD K H x (st.map nI) ∧ SqD K H y ds ∧ RowsN ds tab ∧ Grf tab ∧ (∀ s ∈ st, s < tab.length) ∧ st.length ≤ 1000 ∧
  ∀ (f : Addr) (fs : List Bool) (H' : Hp), Ex H H' → H f = none → H' f = some (.lst (fs.map V.bl)) → fs.length = tab.length → (∀ s : Nat, fs[s]? = some true ↔ Rch tab st s) → Q (.ref f) H'
theorem ok_reached (T : Txt K mg) : FnOk P w K mg base CX0 1 T.a_reached T.d_reached ["starts", "nexts"] (spReached (K := K)) := by
  refine T.f_reached.ok sc_reached (fun vs H Q E h => ?_) (fun cdv A outer s H vs Q E hr h => ?_)
  · obtain ⟨_, _, _, _, _, rfl, _⟩ := h; rfl
  · obtain ⟨x, y, st, tab, ds, rfl, hx, hy, hR, g, hst, sl, q⟩ := h
    have rf := Evl.Ex.refl H
    have sz : 1000000 ≤ sizeLine := by decide
    have gn := g.n
    refine ⟨_, (pss_cons (ps_set (i := 2) sc_reached.nd rfl (by first | exact Or.inl rfl | exact Or.inr rfl) (pe_op op_rep (pe_lst (pa_cons pe_bl pa_nil)) (pe_callB (kLen K) (by rfl) T.nb_len (by decide +kernel) (pa_cons (pv 1) pa_nil))))
  (pss_cons (ps_set (i := 3) sc_reached.nd rfl (by first | exact Or.inl rfl | exact Or.inr rfl) (pe_callTy (kLstOf K) (by rfl) T.nb_list (by decide +kernel) (pa_cons (pv 0) pa_nil)))
  (pss_cons (ps_for PassesOwn.never rfl (kAny K rfl (pv 0)) (pg_name (i := 4) sc_reached.nd rfl (by first | exact Or.inl rfl | exact Or.inr rfl))
    (pss_one (ps_asg pe_bl (pg_sub (pv 2) (pv 4) set_list))))
  (pss_cons (ps_while PassesOwn.never (pt_truth (pv 3) (by intro _; rfl))
    (pss_cons (ps_set (i := 4) sc_reached.nd rfl (by first | exact Or.inl rfl | exact Or.inr rfl) (kBm0 K rfl (pe_bm0 PySem.F.plainAttrs_list PySem.F.slot_list_pop PySem.F.type_list_pop mt_pop (pv 3))))
  (pss_one (ps_for PassesOwn.never rfl (kAny K rfl (pe_ix (kIx K) (pv 1) (pv 4) (fun _ _ => rfl))) (pg_name (i := 5) sc_reached.nd rfl (by first | exact Or.inl rfl | exact Or.inr rfl))
    (pss_one (ps_if (pt_not (pt_val (pe_ix (kIx K) (pv 2) (pv 5) (fun _ _ => rfl))))
    (pss_cons (ps_asg pe_bl (pg_sub (pv 2) (pv 5) set_list))
  (pss_one (ps_expr (kBm K rfl (pe_bm PySem.F.plainAttrs_list PySem.F.slot_list_append PySem.F.type_list_append mt_append (pv 3) (pa_cons (pv 5) pa_nil))))))
    pss_nil))))))
  (pss_one (ps_ret (pv 2))))))), ?_⟩
    walk_at "rc"
    refine ⟨by decide, fun p0 hp0 => ?_⟩
    walk_at "rc"
    refine rd_lenSq (Evl.Ex.new hp0) hy ?_
    rw [hR.1]
    refine ⟨p0, (tab.length : Int), [.bl false], rfl, rfl, upd_same, by omega, by omega, ?_, fun f hf => ?_⟩
    · rw [Int.toNat_natCast]
      show 1 * tab.length ≤ sizeLine
      omega
    rw [Int.toNat_natCast, rep_bl]
    have e1 : Ex H (upd (upd H p0 (.lst [.bl false])) f (.lst ((List.replicate tab.length false).map V.bl))) := ex_upd (Evl.Ex.new hp0) hf
    have hf0 : H f = none := Evl.fresh_back (Evl.Ex.new hp0) hf
    have hf1 : upd (upd H p0 (.lst [.bl false])) f (.lst ((List.replicate tab.length false).map V.bl)) f = some (.lst ((List.replicate tab.length false).map V.bl)) := upd_same
    generalize upd (upd H p0 (.lst [.bl false])) f (.lst ((List.replicate tab.length false).map V.bl)) = H1 at e1 hf1
    walk_at "rc"
    refine rd_lstSq0 e1 hx fun l vs hl hvs => ?_
    obtain rfl := dp_nats hvs
    have nfl : f ≠ l := fun z => by rw [← z, hf1] at hl; cases hl
    have hl0 : H l = none := Evl.fresh_back e1 hl
    have e2 := ex_upd (o := .lst (st.map vI)) e1 hl
    have hf2 : upd H1 l (.lst (st.map vI)) f = some (.lst ((List.replicate tab.length false).map V.bl)) := by rw [upd_ne nfl]; exact hf1
    have hl2 : upd H1 l (.lst (st.map vI)) l = some (.lst (st.map vI)) := upd_same
    generalize upd H1 l (.lst (st.map vI)) = H2 at e2 hf2 hl2
    walk_at "rc"
    walk_at "rs"
    walk_at "rc"
    refine rd_anySq (fun Q q => ⟨_, rfl, q⟩) e2 hx fun J wJ => ?_
    refine fo_D wJ (fun i σ H' => ∃ (fs : List Bool) (k4 k5 : Option V), σ = [some x, some y, some (.ref f), some (.ref l), k4, k5] ∧ Ex H H' ∧ H' f = some (.lst (fs.map V.bl)) ∧ H' l = some (.lst (st.map vI)) ∧ Fnd tab st fs (st.take i) ∧ ∀ s : Nat, fs[s]? = some true → s ∈ st)
      ⟨_, _, _, rfl, e2, hf2, hl2, ⟨List.length_replicate, fun s hs => (by rw [List.take_zero] at hs; cases hs), fun s hs => by
        rw [List.getElem?_replicate] at hs
        split at hs <;> cases hs⟩, fun s hs => by
        rw [List.getElem?_replicate] at hs
        split at hs <;> cases hs⟩ (fun i σ H' _ p => p.elim fun _ p => p.elim fun _ p => p.elim fun _ p => p.2.1) ?_ ?_
    · rintro i d v σ H3 hd hv ⟨fs, k4, k5, rfl, e3, hf3, hl3, fn, fss⟩
      rw [List.getElem?_map] at hd
      obtain ⟨s, hs, rfl⟩ := Option.map_eq_some_iff.mp hd
      cases Dp.int_iff hv
      have hsm := List.mem_of_getElem? hs
      have fnn := fn.n
      walk_at "rc"
      refine ⟨f, fs.map V.bl, (s : Int), s, rfl, rfl, hf3, ixN_nat (by rw [List.length_map, fn.n]; exact hst s hsm), ?_⟩
      walk_at "rc"
      refine ⟨fs.set s true, _, _, rfl, Evl.Ex.mut e3 hf0, by rw [upd_same, List.map_set], by rw [upd_ne (Ne.symm nfl)]; exact hl3, ?_⟩
      have f2 := fn.set (t := s) (.st hsm)
      refine ⟨⟨f2.n, fun t ht => ?_, f2.r⟩, fun t ht => ?_⟩
      case refine_2 =>
        by_cases e : t = s
        · rw [e]; exact hsm
        · rw [List.getElem?_set_ne (Ne.symm e)] at ht
          exact fss t ht
      rw [List.take_succ, hs] at ht
      rcases List.mem_append.mp ht with z | z
      · exact f2.w t z
      · have : t = s := by simpa using z
        rw [this, List.getElem?_set_self (by rw [fn.n]; exact hst s hsm)]
    · rintro σ H3 ⟨fs, k4, k5, rfl, e3, hf3, hl3, fn, fss⟩
      rw [List.length_map, List.take_length] at fn
      walk_at "rc"
      walk_at "rs"
      have fb := List.count_le_length (a := false) (l := fs)
      have fnn := fn.n
      refine rd_wh (fun m σ H' => ∃ (fs : List Bool) (ws : List Nat) (k4 k5 : Option V), σ = [some x, some y, some (.ref f), some (.ref l), k4, k5] ∧ Ex H H' ∧ H' f = some (.lst (fs.map V.bl)) ∧ H' l = some (.lst (ws.map vI)) ∧ Fnd tab st fs ws ∧ (∀ s ∈ st, fs[s]? = some true) ∧ (∀ s : Nat, fs[s]? = some true → s ∈ ws ∨ ∀ t ∈ tab.getD s [], fs[t]? = some true) ∧ m = ws.length + fs.count false ∧ m ≤ 2000)
        _ ⟨fs, st, k4, k5, rfl, e3, hf3, hl3, fn, fn.w, fun s hs => .inl (fss s hs), rfl, by omega⟩ ?_
      rintro m σ H4 ⟨fs, ws, k4, k5, rfl, e4, hf4, hl4, fn, fst, fcl, rfl, mb⟩
      walk_at "rc"
      refine ⟨!(ws.map vI).isEmpty, .inl ⟨_, SqL.of hl4, rfl⟩, ?_⟩
      rcases List.eq_nil_or_concat ws with rfl | ⟨ws, s, rfl⟩
      · refine rd_iteF ?_
        walk_at "rc"
        refine q f fs H4 e4 hf0 hf4 fn.n fun s => ⟨fn.r s, fun hs => ?_⟩
        induction hs with
        | st h => exact fst _ h
        | go h1 h2 ih => exact (fcl _ ih).resolve_left (fun z => nomatch z) _ h2
      · have hs := fn.w s (by simp)
        have hsl : s < tab.length := by rw [← fn.n]; exact (List.getElem?_eq_some_iff.mp hs).1
        have hb : (!((ws.concat s).map vI).isEmpty) = true := by simp
        rw [hb]
        refine rd_iteT ?_
        rw [List.concat_eq_append] at hl4 fn fcl
        rw [List.concat_eq_append, List.length_append, List.length_singleton]
        rw [List.concat_eq_append, List.length_append, List.length_singleton] at mb
        refine ⟨_, fun σ2 H2 z => z, ?_⟩
        walk_at "rc"
        refine rd_bm0 ?_
        walk_at "rc"
        refine ⟨.inl ⟨rfl, _, SqL.of hl4⟩, ?_⟩
        refine ⟨l, (ws ++ [s]).map vI, vI s, rfl, rfl, hl4, by simp, ?_⟩
        have e5 : Ex H (upd H4 l (.lst (ws.map vI))) := Evl.Ex.mut e4 hl0
        have hf5 : upd H4 l (.lst (ws.map vI)) f = some (.lst (fs.map V.bl)) := by rw [upd_ne nfl]; exact hf4
        have hl5 : upd H4 l (.lst (ws.map vI)) l = some (.lst (ws.map vI)) := upd_same
        have edl : ((ws ++ [s]).map vI).dropLast = ws.map vI := by simp
        rw [edl]
        generalize upd H4 l (.lst (ws.map vI)) = H5 at e5 hf5 hl5
        walk_at "rc"
        have hds : s < ds.length := by rw [hR.1]; exact hsl
        obtain ⟨rv, hrv, hrx⟩ := sq_at hy (List.getElem?_eq_getElem hds)
        obtain ⟨row, hrow, erow, hrd⟩ := hR.get (List.getElem?_eq_getElem hds) hrv
        have hrm := List.mem_of_getElem? hrow
        have rb := g.b row hrm
        refine rd_anySq (x := rv) (fun Q q => ?_) e5 hrd fun J2 wJ2 => ?_
        · walk_at "rc"
          exact hrx _ e5 _ q
        have hrs := fn.r s hs
        refine fo_D wJ2 (fun i σ H' => ∃ (fs2 : List Bool) (ws2 : List Nat) (k5 : Option V), σ = [some x, some y, some (.ref f), some (.ref l), some (vI s), k5] ∧ Ex H H' ∧ H' f = some (.lst (fs2.map V.bl)) ∧ H' l = some (.lst (ws2.map vI)) ∧ Fnd tab st fs2 ws2 ∧ (∀ t : Nat, fs[t]? = some true → fs2[t]? = some true) ∧ (∀ t : Nat, fs2[t]? = some true → fs[t]? = some true ∨ t ∈ ws2) ∧ (∀ t ∈ ws, t ∈ ws2) ∧ (∀ t ∈ row.take i, fs2[t]? = some true) ∧ ws2.length + fs2.count false = ws.length + fs.count false)
          ⟨fs, ws, k5, rfl, e5, hf5, hl5, ⟨fn.n, fun t ht => fn.w t (List.mem_append.mpr (.inl ht)), fn.r⟩, fun _ h => h, fun _ h => .inl h, fun _ h => h, fun t ht => (by rw [List.take_zero] at ht; cases ht), rfl⟩ (fun i σ H' _ p => p.elim fun _ p => p.elim fun _ p => p.elim fun _ p => p.2.1) ?_ ?_
        · rintro i d v σ H6 hd hv ⟨fs2, ws2, k5, rfl, e6, hf6, hl6, fn2, sub, sub2, wsub, tk, ml⟩
          rw [List.getElem?_map] at hd
          obtain ⟨t, ht, rfl⟩ := Option.map_eq_some_iff.mp hd
          cases Dp.int_iff hv
          have htm := List.mem_of_getElem? ht
          have htl : t < fs2.length := by rw [fn2.n]; exact rb t htm
          walk_at "rc"
          refine rd_ixL (v := V.bl fs2[t]) (SqL.of hf6) (atI_nat (j := t) (by rw [List.getElem?_map, List.getElem?_eq_getElem htl]; rfl)) ?_
          walk_at "rc"
          cases hb2 : fs2[t] with
          | true =>
            refine rd_iteF ?_
            walk_at "rc"
            refine ⟨fs2, ws2, _, rfl, e6, hf6, hl6, fn2, sub, sub2, wsub, fun u hu => ?_, ml⟩
            rw [List.take_succ, ht] at hu
            rcases List.mem_append.mp hu with z | z
            · exact tk u z
            · have : u = t := by simpa using z
              rw [this, List.getElem?_eq_getElem htl, hb2]
          | false =>
            refine rd_iteT ?_
            walk_at "rc"
            refine ⟨f, fs2.map V.bl, (t : Int), t, rfl, rfl, hf6, ixN_nat (by rw [List.length_map]; exact htl), ?_⟩
            have e7 : Ex H (upd H6 f (.lst ((fs2.map V.bl).set t (V.bl true)))) := Evl.Ex.mut e6 hf0
            have hf7 : upd H6 f (.lst ((fs2.map V.bl).set t (V.bl true))) f = some (.lst ((fs2.set t true).map V.bl)) := by rw [upd_same, List.map_set]
            have hl7 : upd H6 f (.lst ((fs2.map V.bl).set t (V.bl true))) l = some (.lst (ws2.map vI)) := by rw [upd_ne (Ne.symm nfl)]; exact hl6
            generalize upd H6 f (.lst ((fs2.map V.bl).set t (V.bl true))) = H7 at e7 hf7 hl7
            walk_at "rc"
            refine ⟨.inl ⟨rfl, _, SqL.of hl7⟩, ?_⟩
            walk_at "rc"
            have cs := cnt_set fs2 t (by rw [List.getElem?_eq_getElem htl, hb2])
            have f3 := fn2.set (t := t) (.go hrs (by rw [erow]; exact htm))
            refine ⟨l, ws2.map vI, _, rfl, rfl, hl7, by rw [List.length_map]; omega, ?_⟩
            refine ⟨fs2.set t true, ws2 ++ [t], _, rfl, Evl.Ex.mut e7 hl0, by rw [upd_ne nfl]; exact hf7, by rw [upd_same, List.map_append]; rfl, ⟨f3.n, fun u hu => ?_, f3.r⟩, fun u hu => ?_, fun u hu => ?_, fun u hu => List.mem_append.mpr (.inl (wsub u hu)), fun u hu => ?_, by rw [List.length_append, List.length_singleton]; omega⟩
            · rcases List.mem_append.mp hu with z | z
              · exact f3.w u z
              · rw [List.mem_singleton.mp z, List.getElem?_set_self htl]
            · by_cases e : u = t
              · rw [e, List.getElem?_set_self htl]
              · rw [List.getElem?_set_ne (Ne.symm e)]; exact sub u hu
            · by_cases e : u = t
              · rw [e]; exact .inr (List.mem_append.mpr (.inr List.mem_cons_self))
              · rw [List.getElem?_set_ne (Ne.symm e)] at hu
                exact (sub2 u hu).imp id fun z => List.mem_append.mpr (.inl z)
            · rw [List.take_succ, ht] at hu
              by_cases e : u = t
              · rw [e, List.getElem?_set_self htl]
              · rw [List.getElem?_set_ne (Ne.symm e)]
                rcases List.mem_append.mp hu with z | z
                · exact tk u z
                · exact absurd (by simpa using z) e
        · rintro σ H6 ⟨fs2, ws2, k5, rfl, e6, hf6, hl6, fn2, sub, sub2, wsub, tk, ml⟩
          rw [List.length_map, List.take_length] at tk
          have ml2 := List.count_le_length (a := false) (l := fs2)
          refine ⟨ws.length + fs.count false, by omega, fs2, ws2, _, _, rfl, e6, hf6, hl6, fn2, fun t ht => sub t (fst t ht), fun t ht => ?_, ml.symm, by omega⟩
          rcases sub2 t ht with z | z
          · rcases fcl t z with z | z
            · rcases List.mem_append.mp z with z | z
              · exact .inl (wsub t z)
              · rw [List.mem_singleton.mp z, erow]
                exact .inr tk
            · exact .inr fun u hu => sub u (z u hu)
          · exact .inl z
def nT (tab : List (List Nat)) : PyData := .tuple (tab.map fun row => .tuple (row.map nI))
def nL (tab : List (List Nat)) : PyData := .list (tab.map fun row => .list (row.map nI))
theorem rowsN_T (tab : List (List Nat)) : RowsN (tab.map fun row => .tuple (row.map nI)) tab := ⟨List.length_map .., fun i d row h1 h2 => by
  rw [List.getElem?_map, h2] at h1
  exact .inr (Option.some.inj h1).symm⟩
theorem rowsN_L (tab : List (List Nat)) : RowsN (tab.map fun row => .list (row.map nI)) tab := ⟨List.length_map .., fun i d row h1 h2 => by
  rw [List.getElem?_map, h2] at h1
  exact .inl (Option.some.inj h1).symm⟩
theorem getD_set {bk : List (List Nat)} {t : Nat} {r : List Nat} (h : t < bk.length) (u : Nat) : (bk.set t r).getD u [] = if u = t then r else bk.getD u [] := by
  rw [List.getD_eq_getElem?_getD, List.getD_eq_getElem?_getD]
  by_cases e : u = t
  · rw [if_pos e, e, List.getElem?_set_self h]; rfl
  · rw [if_neg e, List.getElem?_set_ne (Ne.symm e)]
/-- the ways back, up to the j-th of the i-th row -/
structure Bk (tab : List (List Nat)) (i j : Nat) (bk : List (List Nat)) : Prop where
  n : bk.length = tab.length
  l : ∀ row ∈ bk, row.length ≤ i * 100 + j
  m : ∀ t s : Nat, s ∈ bk.getD t [] ↔ (s < i ∧ t ∈ tab.getD s []) ∨ (s = i ∧ t ∈ (tab.getD i []).take j)
theorem Bk.put {tab : List (List Nat)} {i j t : Nat} {bk : List (List Nat)} (h : Bk tab i j bk) (ht : (tab.getD i [])[j]? = some t) (tl : t < tab.length) : Bk tab i (j + 1) (bk.set t (bk.getD t [] ++ [i])) := by
  have tl' : t < bk.length := by rw [h.n]; exact tl
  refine ⟨by rw [List.length_set]; exact h.n, fun row hr => ?_, fun u s => ?_⟩
  · rcases List.mem_or_eq_of_mem_set hr with z | z
    · have := h.l row z; omega
    · rw [z, List.length_append, List.length_singleton]
      have : bk.getD t [] ∈ bk := by
        rw [List.getD_eq_getElem?_getD, List.getElem?_eq_getElem tl']
        exact List.getElem_mem tl'
      have := h.l _ this
      omega
  · rw [getD_set tl', List.take_succ, ht]
    by_cases e : u = t
    · rw [if_pos e, e, List.mem_append, h.m]
      simp only [List.mem_singleton, List.mem_append, Option.toList_some]
      constructor
      · rintro (z | z)
        · exact z.imp id fun z => ⟨z.1, .inl z.2⟩
        · exact .inr ⟨z, .inr True.intro⟩
      · rintro (z | ⟨z, y | _⟩)
        · exact .inl (.inl z)
        · exact .inl (.inr ⟨z, y⟩)
        · exact .inr z
    · rw [if_neg e, h.m]
      simp only [List.mem_append, Option.toList_some, List.mem_singleton]
      constructor
      · exact fun z => z.imp id fun z => ⟨z.1, .inl z.2⟩
      · exact fun z => z.imp id fun z => ⟨z.1, z.2.resolve_right e⟩
theorem Bk.next {tab : List (List Nat)} {i : Nat} {bk : List (List Nat)} (h : Bk tab i (tab.getD i []).length bk) (hw : (tab.getD i []).length ≤ 100) : Bk tab (i + 1) 0 bk := by
  refine ⟨h.n, fun row hr => ?_, fun t s => ?_⟩
  · have := h.l row hr; omega
  · rw [h.m, List.take_length]
    simp only [List.take_zero, List.not_mem_nil, and_false, or_false]
    constructor
    · rintro (⟨a, b⟩ | ⟨a, b⟩)
      · exact ⟨by omega, b⟩
      · rw [a]; exact ⟨by omega, b⟩
    · rintro ⟨a, b⟩
      by_cases e : s = i
      · rw [e] at b; exact .inr ⟨e, b⟩
      · exact .inl ⟨by omega, b⟩
def spWays : Sp := fun vs H Q _ => ∃ (y : V) (tab : List (List Nat)), vs = [y] ∧ Dp K H y (nT tab) ∧ Grf tab ∧ (∀ row ∈ tab, row.length ≤ 100) ∧
  ∀ (f : Addr) (bk : List (List Nat)) (H' : Hp), Ex H H' → Dp K H' (.ref f) (nL bk) → bk.length = tab.length → (∀ t s : Nat, s ∈ bk.getD t [] ↔ t ∈ tab.getD s []) → Q (.ref f) H'
theorem ok_ways_back (T : Txt K mg) : FnOk P w K mg base CX0 1 T.a_ways_back T.d_ways_back ["nexts"] (spWays (K := K)) := by
  refine T.f_ways_back.ok sc_ways_back (fun vs H Q E h => ?_) (fun cdv A outer s H vs Q E hr h => ?_)
  · obtain ⟨_, _, rfl, _⟩ := h; rfl
  · obtain ⟨y, tab, rfl, hy, g, hw, q⟩ := h
    have gn := g.n
    have hsl : 1000000 ≤ sizeLine := by decide
    refine ⟨_, (pss_cons (ps_setLc (i := 1) (own := [("_", 2)]) (g := gName 2) (tt := tYes) (by rfl) sc_ways_back.nd rfl rfl (sw_true rfl rfl rfl (by decide +kernel)) (kAny K rfl (pv 0)) (blkOk_by (own := [("_", 2)]) (N := ["nexts", "found", "_", "state", "afters", "after"]) (sc := defScope s_ways_back) (by decide +kernel)) (fun _ _ _ _ _ => (pg_name (i := 2) sc_ways_back.nd rfl (by first | exact Or.inl rfl | exact Or.inr rfl))) (fun _ _ _ _ _ => pts_nil) (fun _ _ _ _ _ => (pe_lst pa_nil)))
  (pss_cons (ps_for PassesOwn.never rfl (kEn K rfl (pi_enumA (by rfl) T.nb_enumerate (pa_cons (pv 0) pa_nil))) (kGt K rfl (pg_tup (n := 2) (by rfl) (pgs_cons (pg_name (i := 3) sc_ways_back.nd rfl (by first | exact Or.inl rfl | exact Or.inr rfl)) (pgs_cons (pg_name (i := 4) sc_ways_back.nd rfl (by first | exact Or.inl rfl | exact Or.inr rfl)) pgs_nil))))
    (pss_one (ps_for PassesOwn.never rfl (kAny K rfl (pv 4)) (pg_name (i := 5) sc_ways_back.nd rfl (by first | exact Or.inl rfl | exact Or.inr rfl))
    (pss_one (ps_expr (kBm K rfl (pe_bm PySem.F.plainAttrs_list PySem.F.slot_list_append PySem.F.type_list_append mt_append (pe_ix (kIx K) (pv 1) (pv 5) (fun _ _ => rfl)) (pa_cons (pv 3) pa_nil))))))))
  (pss_one (ps_ret (pv 1))))), ?_⟩
    walk_at "rc"
    refine rd_anySq (fun Q q => ⟨_, rfl, q⟩) (Evl.Ex.refl H) (.inr hy) fun J wJ => ?_
    refine lc_newM (K := K) (S := []) (fun b hb => nomatch hb) wJ (by rw [hid_nil]; exact Evl.Ex.refl H) (by rw [List.length_map]; omega) (fun v => rfl) fun L rs H1 e1 hL _ hL1 frs nLr rm => ?_
    rw [List.length_map] at rm
    have rm0 : RowsM K (rs ++ [L]) H1 rs ((List.replicate tab.length ([] : List Nat)).map fun row => row.map nI) := by
      have e : (List.replicate tab.length ([] : List Nat)).map (fun row => row.map nI) = List.replicate tab.length [] := by rw [List.map_replicate]; rfl
      rw [e]; exact rm
    walk_at "rc"
    walk_at "rs"
    walk_at "rc"
    obtain ⟨qa, ys, rfl, hq, hys⟩ := Dp.tupv hy
    refine .inr ⟨_, rfl, qa, ys, rfl, Evl.ex_t e1 hq, ?_⟩
    have yl : ys.length = tab.length := by rw [hys.len, List.length_map]
    refine fo_it walk_enumT (fun i σ H' => ∃ (bk : List (List Nat)) (k2 k3 k4 k5 : Option V), σ = [some (.ref qa), some (.ref L), k2, k3, k4, k5] ∧ Ex H H' ∧ H' L = some (.lst (rs.map V.ref)) ∧ RowsM K (rs ++ [L]) H' rs (bk.map fun row => row.map nI) ∧ Bk tab i 0 bk)
      ⟨_, _, _, _, _, rfl, e1, hL1, rm0, ⟨List.length_replicate, fun row hr => ?_, fun t s => ?_⟩⟩ (fun i σ H' _ p => p.elim fun _ p => p.elim fun _ p => p.elim fun _ p => p.elim fun _ p => p.elim fun _ p => Evl.ex_t p.2.1 hq) ?_ ?_
    · rw [(List.mem_replicate.mp hr).2]; exact Nat.zero_le _
    · have e : (List.replicate tab.length ([] : List Nat)).getD t [] = [] := by
        rw [List.getD_eq_getElem?_getD, List.getElem?_replicate]
        split <;> rfl
      rw [e, List.take_zero]
      simp
    · rintro i x σ H2 H3 hi ⟨bk, k2, k3, k4, k5, rfl, e2, hL2, rm2, hb⟩ ⟨A, u, v, rfl, hA, rfl, hu, hv⟩
      cases hu
      rw [yl] at hi
      obtain ⟨d, hd, hvd⟩ := hys.got hv
      rw [List.getElem?_map] at hd
      obtain ⟨row, hrow, rfl⟩ := Option.map_eq_some_iff.mp hd
      have hrm := List.mem_of_getElem? hrow
      have rb := g.b row hrm
      have rw' := hw row hrm
      have erow : tab.getD i [] = row := by rw [List.getD_eq_getElem?_getD, hrow]; rfl
      have e3 : Ex H (upd H2 A (.tup [.int (i : Nat), v])) := ex_upd e2 hA
      have nAL : L ≠ A := fun z => by rw [← z, hL2] at hA; cases hA
      have hL3 : upd H2 A (.tup [.int (i : Nat), v]) L = some (.lst (rs.map V.ref)) := by rw [upd_ne nAL]; exact hL2
      have rm3 : RowsM K (rs ++ [L]) (upd H2 A (.tup [.int (i : Nat), v])) rs (bk.map fun row => row.map nI) := rm2.mono (Kp.new hA) fun r _ o z => Evl.Ex.new hA r o z
      have hA3 : SqT K (upd H2 A (.tup [.int (i : Nat), v])) A [.int (i : Nat), v] := Evl.st_of upd_same
      generalize upd H2 A (.tup [.int (i : Nat), v]) = H3 at e3 hL3 rm3 hA3
      refine ⟨A, _, rfl, hA3, rfl, ?_⟩
      walk_at "rc"
      refine rd_anySq (fun Q q => ⟨_, rfl, q⟩) e3 (.inr hvd) fun J2 wJ2 => ?_
      refine fo_D wJ2 (fun j σ H' => ∃ (bk : List (List Nat)) (k5 : Option V), σ = [some (.ref qa), some (.ref L), k2, some (.int (i : Nat)), some v, k5] ∧ Ex H H' ∧ H' L = some (.lst (rs.map V.ref)) ∧ RowsM K (rs ++ [L]) H' rs (bk.map fun row => row.map nI) ∧ Bk tab i j bk)
        ⟨bk, _, rfl, e3, hL3, rm3, hb⟩ (fun i σ H' _ p => p.elim fun _ p => p.elim fun _ p => p.2.1) ?_ ?_
      · rintro j d w σ H4 hd hv4 ⟨bk, k5, rfl, e4, hL4, rm4, hb4⟩
        rw [List.getElem?_map] at hd
        obtain ⟨t, ht, rfl⟩ := Option.map_eq_some_iff.mp hd
        cases Dp.int_iff hv4
        have htm := List.mem_of_getElem? ht
        have htl : t < tab.length := rb t htm
        have rsl : rs.length = tab.length := by rw [rm4.len, List.length_map, hb4.n]
        have hrs : rs[t]? = some rs[t] := List.getElem?_eq_getElem (by omega)
        have hbt : bk[t]? = some (bk.getD t []) := by
          rw [List.getD_eq_getElem?_getD, List.getElem?_eq_getElem (by rw [hb4.n]; exact htl)]; rfl
        obtain ⟨ws, hws, hwd⟩ := rm4.at' t _ ((bk.getD t []).map nI) hrs (by rw [List.getElem?_map, hbt]; rfl)
        have bl := hb4.l _ (List.mem_of_getElem? hbt)
        have wl := hwd.len
        rw [List.length_map] at wl
        have jl := (List.getElem?_eq_some_iff.mp ht).1
        walk_at "rc"
        refine rd_ixL (v := V.ref rs[t]) (SqL.of hL4) (atI_nat (j := t) (by rw [List.getElem?_map, hrs]; rfl)) ?_
        walk_at "rc"
        refine ⟨.inl ⟨rfl, _, SqL.of hws⟩, ?_⟩
        walk_at "rc"
        have hrm4 : rs[t] ∈ rs := List.mem_of_getElem? hrs
        refine ⟨rs[t], ws, _, rfl, rfl, hws, by omega, ?_⟩
        have nLt : L ≠ rs[t] := fun z => nLr (by rw [z]; exact hrm4)
        have st := rm4.set (ws := ws ++ [.int (i : Nat)]) hrs (hwd.snoc (d := nI i) (.int _))
        refine ⟨bk.set t (bk.getD t [] ++ [i]), _, rfl, Evl.Ex.mut e4 (frs _ hrm4), by rw [upd_ne nLt]; exact hL4, ?_, hb4.put (by rw [erow]; exact ht) htl⟩
        rw [List.map_set, List.map_append]
        exact st
      · rintro σ H4 ⟨bk, k5, rfl, e4, hL4, rm4, hb4⟩
        rw [List.length_map, ← erow] at hb4
        exact ⟨bk, _, _, _, _, rfl, e4, hL4, rm4, hb4.next (by rw [erow]; exact rw')⟩
    · rintro σ H2 ⟨bk, k2, k3, k4, k5, rfl, e2, hL2, rm2, hb⟩
      rw [yl] at hb
      walk_at "rc"
      refine q L bk H2 e2 (.lst (SqL.of hL2) ?_) hb.n fun t s => ?_
      · have := rm2.dp
        rw [List.map_map] at this
        exact this
      · rw [hb.m, List.take_zero]
        constructor
        · rintro (⟨_, z⟩ | ⟨_, z⟩)
          · exact z
          · cases z
        · intro z
          refine .inl ⟨?_, z⟩
          rcases Nat.lt_or_ge s tab.length with h | h
          · exact h
          · rw [List.getD_eq_getElem?_getD, List.getElem?_eq_none h] at z
            cases z
/-! ### useful states -/
def MachD (K : PySem.W.Frag) (C : Addr) (H : Hp) (m : Addr) (ls : Str) (acc : List Bool) (tab : List (List Nat)) : Prop := ∃ dx ta tt, H m = some (.ins C dx (mFields ls ta tt)) ∧ Dp K H (.ref ta) (.tuple (acc.map PyData.bool)) ∧ Dp K H (.ref tt) (nT tab)
theorem MachD.ex {C : Addr} {H H' : Hp} {m : Addr} {ls : Str} {acc : List Bool} {tab : List (List Nat)} (h : MachD K C H m ls acc tab) (e : Ex H H') : MachD K C H' m ls acc tab := by
  obtain ⟨dx, ta, tt, h1, h2, h3⟩ := h
  exact ⟨dx, ta, tt, e _ _ h1, h2.ex e, h3.ex e⟩
inductive Lv (acc : List Bool) (tab : List (List Nat)) : Nat → Prop
  | st {s : Nat} : acc[s]? = some true → Lv acc tab s
  | go {s t : Nat} : t ∈ tab.getD s [] → Lv acc tab t → Lv acc tab s
structure GM (acc : List Bool) (tab : List (List Nat)) : Prop where
  p : 0 < acc.length
  e : tab.length = acc.length
  g : Grf tab
  w : ∀ row ∈ tab, row.length ≤ 100
def Usf (acc : List Bool) (tab : List (List Nat)) (s : Nat) : Prop := Rch tab [0] s ∧ Lv acc tab s
theorem Grf.at' {tab : List (List Nat)} (g : Grf tab) {s t : Nat} (h : t ∈ tab.getD s []) : s < tab.length ∧ t < tab.length := by
  rcases Nat.lt_or_ge s tab.length with hs | hs
  · have e : tab.getD s [] = tab[s] := by rw [List.getD_eq_getElem?_getD, List.getElem?_eq_getElem hs]; rfl
    rw [e] at h
    exact ⟨hs, g.b _ (List.getElem_mem hs) t h⟩
  · rw [List.getD_eq_getElem?_getD, List.getElem?_eq_none hs] at h
    cases h
theorem Rch.lt {tab : List (List Nat)} {st : List Nat} (g : Grf tab) (hst : ∀ s ∈ st, s < tab.length) {s : Nat} (h : Rch tab st s) : s < tab.length := by
  cases h with
  | st h => exact hst _ h
  | go _ h => exact (g.at' h).2
theorem Lv.lt {acc : List Bool} {tab : List (List Nat)} (m : GM acc tab) {s : Nat} (h : Lv acc tab s) : s < acc.length := by
  cases h with
  | st h => exact (List.getElem?_eq_some_iff.mp h).1
  | go h _ => rw [← m.e]; exact (m.g.at' h).1
/-- the ways back lead to what leads on -/
theorem back_lv {acc : List Bool} {tab bk : List (List Nat)} (hb : ∀ t s : Nat, s ∈ bk.getD t [] ↔ t ∈ tab.getD s []) {st : List Nat} (hst : ∀ s, s ∈ st ↔ acc[s]? = some true) (s : Nat) : Rch bk st s ↔ Lv acc tab s := by
  constructor
  · intro h
    induction h with
    | st h => exact .st ((hst _).mp h)
    | go _ h ih => exact .go ((hb _ _).mp h) ih
  · intro h
    induction h with
    | st h => exact .st ((hst _).mpr h)
    | go h _ ih => exact .go ih ((hb _ _).mpr h)
theorem back_grf {tab bk : List (List Nat)} (g : Grf tab) (hl : bk.length = tab.length) (hb : ∀ t s : Nat, s ∈ bk.getD t [] ↔ t ∈ tab.getD s []) : Grf bk := by
  refine ⟨by rw [hl]; exact g.n, fun row hr x hx => ?_⟩
  obtain ⟨t, ht, rfl⟩ := List.getElem_of_mem hr
  have : x ∈ bk.getD t [] := by rw [List.getD_eq_getElem?_getD, List.getElem?_eq_getElem ht]; exact hx
  rw [hl]
  exact (g.at' ((hb _ _).mp this)).1
theorem rd_enT {K : PySem.W.Frag} {ta : TA} {σ : L2.St} {H : Hp} {R : It → Hp → Prop} (h : ta σ H fun vs H1 => ∃ q xs, vs = [.ref q] ∧ SqT K H1 q xs ∧ R (ItEt K q) H1) : iEnumA K ta σ H R := .inr h
def endsOf (acc : List Bool) (i : Nat) : List Nat := (List.range i).filter fun s => acc.getD s false
theorem endsOf_succ (acc : List Bool) (i : Nat) : endsOf acc (i + 1) = if acc.getD i false = true then endsOf acc i ++ [i] else endsOf acc i := by
  unfold endsOf
  rw [List.range_succ, List.filter_append]
  by_cases h : acc.getD i false = true
  · rw [if_pos h, List.filter_cons, if_pos h]; rfl
  · rw [if_neg h, List.filter_cons, if_neg h]; simp
theorem endsOf_len (acc : List Bool) (i : Nat) : (endsOf acc i).length ≤ i := by
  have := List.length_filter_le (fun s => acc.getD s false) (List.range i)
  rw [List.length_range] at this
  exact this
theorem mem_ends {acc : List Bool} {s : Nat} : s ∈ endsOf acc acc.length ↔ acc[s]? = some true := by
  unfold endsOf
  rw [List.mem_filter, List.mem_range, List.getD_eq_getElem?_getD]
  constructor
  · rintro ⟨h, e⟩
    rw [List.getElem?_eq_getElem h] at e ⊢
    exact congrArg some e
  · intro h
    exact ⟨(List.getElem?_eq_some_iff.mp h).1, by rw [h]; rfl⟩
variable (T : Txt K mg)
def spUseful : Sp := fun vs H Q _ => ∃ (m : Addr) (ls : Str) (acc : List Bool) (tab : List (List Nat)), vs = [.ref m] ∧ MachD K T.C_Machine H m ls acc tab ∧ GM acc tab ∧
  ∀ (l : Addr) (us : List Nat) (H' : Hp), Ex H H' → Dp K H' (.ref l) (.list (us.map nI)) → us.Nodup → (∀ s : Nat, s ∈ us ↔ Usf acc tab s) → Q (.ref l) H'
theorem ok_useful : FnOk P w K mg base CX0 2 T.a_useful T.d_useful ["machine"] (spUseful T) := by
  refine T.f_useful.ok sc_useful (fun vs H Q E h => ?_) (fun cdv A outer s H vs Q E hr h => ?_)
  · obtain ⟨_, _, _, _, rfl, _⟩ := h; rfl
  · obtain ⟨m, ls, acc, tab, rfl, ⟨dx, ta, tt, hm, hA, hT⟩, gm, q⟩ := h
    have hsl : 1000000 ≤ sizeLine := by decide
    have gn := gm.g.n
    have ge := gm.e
    have gp := gm.p
    refine ⟨_, (pss_cons (ps_setLc (i := 1) (own := [("state", 2), ("accepting", 3)]) (g := _)  (by rfl) sc_useful.nd rfl rfl (sw_true rfl rfl rfl (by decide +kernel)) (kEn K rfl (pi_enumA (by rfl) T.nb_enumerate (pa_cons (kFld K rfl (pe_fld (pv 0) rfl)) pa_nil))) (blkOk_by (own := [("state", 2), ("accepting", 3)]) (N := ["machine", "ends", "state", "accepting", "led_to", "leads_on"]) (sc := defScope s_useful) (by decide +kernel)) (fun _ _ _ _ _ => (kGt K rfl (pg_tup (n := 2) (by rfl) (pgs_cons (pg_name (i := 2) sc_useful.nd rfl (by first | exact Or.inl rfl | exact Or.inr rfl)) (pgs_cons (pg_name (i := 3) sc_useful.nd rfl (by first | exact Or.inl rfl | exact Or.inr rfl)) pgs_nil))))) (fun _ _ _ _ _ => (pts_one (pt_val (pv 3)))) (fun _ _ _ _ _ => (pv 2)))
  (pss_cons (ps_set (i := 4) sc_useful.nd rfl (by first | exact Or.inl rfl | exact Or.inr rfl) (pe_callE (ok_reached T) (hr.mono (by decide)) T.o_reached (pa_cons (pe_lst (pa_cons pe_int pa_nil)) (pa_cons (kFld K rfl (pe_fld (pv 0) rfl)) pa_nil))))
  (pss_cons (ps_set (i := 5) sc_useful.nd rfl (by first | exact Or.inl rfl | exact Or.inr rfl) (pe_callE (ok_reached T) (hr.mono (by decide)) T.o_reached (pa_cons (pv 1) (pa_cons (pe_callE (ok_ways_back T) (hr.mono (by decide)) T.o_ways_back (pa_cons (kFld K rfl (pe_fld (pv 0) rfl)) pa_nil)) pa_nil))))
  (pss_one (ps_ret (pe_lc (own := [("state", 2)]) (g := gName 2)  (by rfl) sc_useful.nd (pi_range1 (by rfl) T.nb_range (pa_cons (pe_callB (kLen K) (by rfl) T.nb_len (by decide +kernel) (pa_cons (kFld K rfl (pe_fld (pv 0) rfl)) pa_nil)) pa_nil)) (blkOk_by (own := [("state", 2)]) (N := ["machine", "ends", "state", "accepting", "led_to", "leads_on"]) (sc := defScope s_useful) (by decide +kernel)) (fun _ _ _ _ _ => (pg_name (i := 2) sc_useful.nd rfl (by first | exact Or.inl rfl | exact Or.inr rfl))) (fun _ _ _ _ _ => (pts_one (PW.pt (pw_and (pt_val (pe_ix (kIx K) (pv 4) (pv 2) (fun _ _ => rfl))) (pw_and1 (pt_val (pe_ix (kIx K) (pv 5) (pv 2) (fun _ _ => rfl)))))))) (fun _ _ _ _ _ => (pv 2)))))))), ?_⟩
    walk_at "rc"
    refine rd_enT ?_
    walk_at "rc"
    refine ⟨m, _, dx, _, _, rfl, hm, T.cl_Machine, T.na_Machine_accepting, rfl, ?_⟩
    walk_at "rc"
    obtain ⟨qa, ys, e0, hq, hys⟩ := Dp.tupv hA
    cases e0
    obtain rfl := dp_bls hys
    refine ⟨_, _, rfl, hq, ?_⟩
    intro L hL
    refine lc_it walk_enumT (fun i Hc => Ex H Hc ∧ Hc L = some (.lst ((endsOf acc i).map vI))) ⟨Evl.Ex.new hL, upd_same⟩ (fun i Hc _ p => Evl.ex_t p.1 hq) (fun i x Hc H' hi p y => ?_) fun H1 p => ?_
    · obtain ⟨A, u, v, rfl, hA', rfl, hu, hv⟩ := y
      cases hu
      obtain ⟨e1, h1⟩ := p
      rw [List.length_map] at hi
      have hv' : (acc.map V.bl)[i]? = some v := hv
      rw [List.getElem?_map, List.getElem?_eq_getElem hi] at hv'
      cases hv'
      refine ⟨A, _, rfl, Evl.st_of upd_same, rfl, ?_⟩
      walk_at "rc"
      refine ⟨rfl, ?_⟩
      walk_at "rc"
      have nAL : L ≠ A := fun z => by rw [← z, h1] at hA'; cases hA'
      have h2 : upd Hc A (.tup [.int (i : Nat), .bl acc[i]]) L = some (.lst ((endsOf acc i).map vI)) := by rw [upd_ne nAL]; exact h1
      have eD : acc.getD i false = acc[i] := by rw [List.getD_eq_getElem?_getD, List.getElem?_eq_getElem hi]; rfl
      have es := endsOf_succ acc i
      rw [eD] at es
      have el := endsOf_len acc i
      cases hb : acc[i] with
      | true =>
        rw [if_pos hb] at es
        rw [hb] at h2
        refine rd_iteT ?_
        walk_at "rc"
        refine ⟨_, h2, by rw [List.length_map]; omega, Evl.Ex.mut (ex_upd e1 hA') hL, ?_⟩
        rw [es, List.map_append]
        exact upd_same
      | false =>
        rw [if_neg (by rw [hb]; decide)] at es
        rw [hb] at h2
        refine rd_iteF ?_
        refine ⟨ex_upd e1 hA', ?_⟩
        rw [es]
        exact h2
    · obtain ⟨e1, h1⟩ := p
      rw [List.length_map] at h1
      walk_at "rc"
      refine ⟨by decide, fun p0 hp0 => ?_⟩
      have e2 : Ex H1 (upd H1 p0 (.lst [V.int 0])) := Evl.Ex.new hp0
      have d0 : Dp K (upd H1 p0 (.lst [V.int 0])) (.ref p0) (.list (([0] : List Nat).map nI)) := .lst (SqL.of upd_same) (.cons (.int 0) .nil)
      generalize upd H1 p0 (.lst [V.int 0]) = H2 at e2 d0
      have e02 := e1.trans e2
      walk_at "rc"
      refine ⟨m, _, dx, _, _, rfl, e02 _ _ hm, T.cl_Machine, T.na_Machine_table, rfl, ?_⟩
      walk_at "rc"
      refine ⟨_, _, [0], tab, _, rfl, .inl d0, .inr (hT.ex e02), rowsN_T tab, gm.g, fun s hs => by rw [List.mem_singleton.mp hs]; omega, by decide, fun f1 fs1 H3 e3 _ hf3 fl1 fr1 => ?_⟩
      have e03 := e02.trans e3
      have h3 := (e2.trans e3) _ _ h1
      walk_at "rc"
      refine ⟨m, _, dx, _, _, rfl, e03 _ _ hm, T.cl_Machine, T.na_Machine_table, rfl, ?_⟩
      walk_at "rc"
      refine ⟨_, tab, rfl, hT.ex e03, gm.g, gm.w, fun fb bk H4 e4 hb4 bl4 bm4 => ?_⟩
      have e04 := e03.trans e4
      have dL : Dp K H4 (.ref L) (.list ((endsOf acc acc.length).map nI)) := .lst (SqL.of (e4 _ _ h3)) (DpAll.mapV _ _ _ fun x _ => .int _)
      have el := endsOf_len acc acc.length
      refine ⟨_, _, endsOf acc acc.length, bk, _, rfl, .inl dL, .inl hb4, rowsN_L bk, back_grf gm.g bl4 bm4, fun s hs => ?_, by omega, fun f2 fs2 H5 e5 _ hf5 fl2 fr2 => ?_⟩
      · have := (List.getElem?_eq_some_iff.mp (mem_ends.mp hs)).1
        omega
      have e05 := e04.trans e5
      have g1 := (e4.trans e5) _ _ hf3
      walk_at "rc"
      refine ⟨m, _, dx, _, _, rfl, e05 _ _ hm, T.cl_Machine, T.na_Machine_table, rfl, ?_⟩
      walk_at "rc"
      refine rd_lenDT e05 hT ?_
      rw [List.length_map]
      walk_at "rc"
      refine ⟨_, rfl, by omega, by omega, ?_⟩
      rw [Int.toNat_natCast]
      have g2 := hf5
      refine lc_F (K := K) (S := []) (P := fun i x => x = V.int (i : Nat)) tr_ex (fun b hb => nomatch hb) walk_range0 rng_Y (by omega) (fun _ _ => True.intro) (fun i => fs1.getD i false && fs2.getD i false) nI (hg_name fun v => rfl) (fun L i σ2 Hc hi p2 hL nL t1 hs1 up N hN => ?_) (fun L i σ2 Hc hi p2 hp2 hL nL t1 hs1 up N hN => ?_) fun Lu us H6 e6 hLu nLu hus hds => ?_
      · obtain ⟨v, rfl, rfl⟩ := p2
        have b1 : (fs1.map V.bl)[i]? = some (.bl (fs1.getD i false)) := by
          rw [List.getElem?_map, List.getD_eq_getElem?_getD, List.getElem?_eq_getElem (by omega)]; rfl
        have b2 : (fs2.map V.bl)[i]? = some (.bl (fs2.getD i false)) := by
          rw [List.getElem?_map, List.getD_eq_getElem?_getD, List.getElem?_eq_getElem (by omega)]; rfl
        have t0 := hN Hc (Evl.Ex.refl Hc)
        walk_at "rc"
        refine rd_ixL (v := .bl (fs1.getD i false)) (SqL.of (t1 _ _ g1)) (atI_nat b1) ?_
        walk_at "rc"
        cases q1 : fs1.getD i false with
        | false =>
          rw [q1] at t0
          refine rd_iteF ?_
          exact t0
        | true =>
          rw [q1, Bool.true_and] at t0
          refine rd_iteT ?_
          walk_at "rc"
          refine rd_ixL (v := .bl (fs2.getD i false)) (SqL.of (t1 _ _ g2)) (atI_nat b2) ?_
          walk_at "rc"
          exact t0
      · obtain ⟨v, rfl, rfl⟩ := p2
        walk_at "rc"
        exact hN _ Hc (Evl.Ex.refl Hc) (.int _)
      · refine q Lu _ H6 (e05.trans e6) (.lst (SqL.of hus) (hds.ex hid_ex)) (List.nodup_range.sublist List.filter_sublist) fun s => ?_
        rw [List.mem_filter, List.mem_range, Bool.and_eq_true]
        have a1 : fs1.getD s false = true ↔ Rch tab [0] s := by
          rw [← fr1, List.getD_eq_getElem?_getD]
          cases fs1[s]? with
          | none => exact ⟨fun z => (nomatch z), fun z => (nomatch z)⟩
          | some b => exact ⟨fun z => congrArg some z, fun z => Option.some.inj z⟩
        have a2 : fs2.getD s false = true ↔ Lv acc tab s := by
          rw [← back_lv bm4 (fun s => mem_ends), ← fr2, List.getD_eq_getElem?_getD]
          cases fs2[s]? with
          | none => exact ⟨fun z => (nomatch z), fun z => (nomatch z)⟩
          | some b => exact ⟨fun z => congrArg some z, fun z => Option.some.inj z⟩
        rw [a1, a2]
        exact ⟨fun z => z.2, fun z => ⟨by rw [← ge] at gp; exact z.1.lt gm.g fun s hs => by rw [List.mem_singleton.mp hs]; exact gp, z⟩⟩
/-! ### paths, and rings of states -/
theorem nodup_leN : ∀ (l m : List Nat), l.Nodup → (∀ c ∈ l, c ∈ m) → l.length ≤ m.length
  | [], _, _, _ => Nat.zero_le _
  | a :: l, m, nd, h => by
    obtain ⟨na, nd'⟩ := List.nodup_cons.mp nd
    have ha := h a List.mem_cons_self
    have ih := nodup_leN l (m.erase a) nd' fun c hc => (List.mem_erase_of_ne (fun z => na (by rw [← z]; exact hc))).mpr (h c (List.mem_cons_of_mem _ hc))
    rw [List.length_erase_of_mem ha] at ih
    have : 0 < m.length := List.length_pos_of_mem ha
    rw [List.length_cons]
    omega
def Pth (tab : List (List Nat)) : Nat → Nat → Nat → Prop
  | 0, s, t => s = t
  | k + 1, s, t => ∃ u, u ∈ tab.getD s [] ∧ Pth tab k u t
theorem Pth.app {tab : List (List Nat)} : ∀ {a b s u t : Nat}, Pth tab a s u → Pth tab b u t → Pth tab (a + b) s t
  | 0, b, s, u, t, h, g => by
    have h' : s = u := h
    subst h'
    rw [Nat.zero_add]; exact g
  | a + 1, b, s, u, t, ⟨v, h1, h2⟩, g => by
    rw [Nat.succ_add]
    exact ⟨v, h1, h2.app g⟩
theorem Pth.one {tab : List (List Nat)} {s t : Nat} (h : t ∈ tab.getD s []) : Pth tab 1 s t := ⟨t, h, rfl⟩
def AccP (acc : List Bool) (tab : List (List Nat)) (k : Nat) : Prop := ∃ t, Pth tab k 0 t ∧ acc[t]? = some true
def Long (acc : List Bool) (tab : List (List Nat)) : Prop := ∃ k, acc.length ≤ k ∧ k < 2 * acc.length ∧ AccP acc tab k
theorem Pth.rch {tab : List (List Nat)} {st : List Nat} : ∀ {k s t : Nat}, Pth tab k s t → Rch tab st s → Rch tab st t
  | 0, s, t, h, g => by
    have h' : s = t := h
    rw [← h']; exact g
  | k + 1, s, t, ⟨u, h1, h2⟩, g => h2.rch (.go g h1)
theorem Rch.pth {tab : List (List Nat)} {s : Nat} (h : Rch tab [0] s) : ∃ k, Pth tab k 0 s := by
  induction h with
  | st h => rw [List.mem_singleton.mp h]; exact ⟨0, rfl⟩
  | go _ h ih =>
    obtain ⟨k, g⟩ := ih
    exact ⟨k + 1, g.app (.one h)⟩
theorem Lv.pth {acc : List Bool} {tab : List (List Nat)} {s : Nat} (h : Lv acc tab s) : ∃ k t, Pth tab k s t ∧ acc[t]? = some true := by
  induction h with
  | st h => exact ⟨0, _, rfl, h⟩
  | go h _ ih =>
    obtain ⟨k, t, g, e⟩ := ih
    exact ⟨k + 1, t, ⟨_, h, g⟩, e⟩
theorem Pth.lv {acc : List Bool} {tab : List (List Nat)} {t : Nat} (e : acc[t]? = some true) : ∀ {k s : Nat}, Pth tab k s t → Lv acc tab s
  | 0, s, h => by
    have h' : s = t := h
    rw [h']; exact .st e
  | k + 1, s, ⟨u, h1, h2⟩ => .go h1 (h2.lv e)
theorem Pth.fn {tab : List (List Nat)} : ∀ {k s t : Nat}, Pth tab k s t → ∃ f : Nat → Nat, f 0 = s ∧ f k = t ∧ ∀ i, i < k → f (i + 1) ∈ tab.getD (f i) []
  | 0, s, t, h => ⟨fun _ => s, rfl, h, fun i hi => nomatch hi⟩
  | k + 1, s, t, ⟨u, h1, h2⟩ => by
    obtain ⟨f, a, b, c⟩ := h2.fn
    refine ⟨fun i => match i with | 0 => s | i + 1 => f i, rfl, b, fun i hi => ?_⟩
    cases i with
    | zero =>
      show f 0 ∈ tab.getD s []
      rw [a]; exact h1
    | succ i => exact c i (by omega)
theorem fn_pth {tab : List (List Nat)} {k : Nat} {f : Nat → Nat} (h : ∀ i, i < k → f (i + 1) ∈ tab.getD (f i) []) : ∀ d a : Nat, a + d ≤ k → Pth tab d (f a) (f (a + d))
  | 0, a, _ => rfl
  | d + 1, a, hd => ⟨f (a + 1), h a (by omega), by
    have := fn_pth h d (a + 1) (by omega)
    rw [show a + (d + 1) = a + 1 + d by omega]
    exact this⟩
theorem pigeon {f : Nat → Nat} {n : Nat} (h : ∀ i, i ≤ n → f i < n) : ∃ i j, i < j ∧ j ≤ n ∧ f i = f j := by
  apply Classical.byContradiction
  intro no
  have nd : ((List.range (n + 1)).map f).Nodup := by
    unfold List.Nodup
    rw [List.pairwise_map]
    refine List.Pairwise.imp_of_mem (fun {a b} ha hb hab e => no ⟨a, b, hab, ?_, e⟩) List.pairwise_lt_range
    have := List.mem_range.mp hb
    omega
  have := nodup_leN _ (List.range n) nd fun c hc => by
    obtain ⟨i, hi, rfl⟩ := List.mem_map.mp hc
    have := List.mem_range.mp hi
    exact List.mem_range.mpr (h i (by omega))
  rw [List.length_map, List.length_range, List.length_range] at this
  omega
theorem fn_lt {acc : List Bool} {tab : List (List Nat)} (m : GM acc tab) {k : Nat} {f : Nat → Nat} (h0 : f 0 = 0) (h : ∀ i, i < k → f (i + 1) ∈ tab.getD (f i) []) : ∀ i, i ≤ k → f i < acc.length
  | 0, _ => by rw [h0]; exact m.p
  | i + 1, hi => by rw [← m.e]; exact (m.g.at' (h i (by omega))).2
theorem pump {acc : List Bool} {tab : List (List Nat)} (m : GM acc tab) : ∀ k : Nat, acc.length ≤ k → AccP acc tab k → Long acc tab := by
  intro k
  induction k using Nat.strongRecOn with
  | ind k ih =>
    intro hk ha
    rcases Nat.lt_or_ge k (2 * acc.length) with hlt | hge
    · exact ⟨k, hk, hlt, ha⟩
    · obtain ⟨t, hp, ht⟩ := ha
      obtain ⟨f, f0, fk, fs⟩ := hp.fn
      obtain ⟨i, j, hij, hj, e⟩ := pigeon (f := f) (n := acc.length) fun i hi => fn_lt m f0 fs i (by omega)
      have p1 := fn_pth fs i 0 (by omega)
      have p2 := fn_pth fs (k - j) j (by omega)
      rw [f0, Nat.zero_add] at p1
      rw [← e, show j + (k - j) = k by omega, fk] at p2
      exact ih (i + (k - j)) (by omega) (by omega) ⟨t, p1.app p2, ht⟩
theorem idx_take {l : List Nat} {x p : Nat} (h : x ∈ l.take p) : l.idxOf x < p := by
  have e : l.idxOf x = (l.take p).idxOf x := by
    have e0 : (l.take p ++ l.drop p).idxOf x = (l.take p).idxOf x := by
      rw [List.idxOf_append, if_pos h]
    rw [List.take_append_drop] at e0
    exact e0
  rw [e]
  have h1 := List.idxOf_lt_length_iff.mpr h
  have h2 := List.length_take_le p l
  omega
theorem fin_yes {acc : List Bool} {tab : List (List Nat)} (m : GM acc tab) {us od : List Nat} (hu : ∀ s, s ∈ us ↔ Usf acc tab s) (nd : od.Nodup) (all : ∀ s ∈ us, s ∈ od) (sub : ∀ s ∈ od, s ∈ us)
    (ord : ∀ (i s : Nat), od[i]? = some s → ∀ q ∈ us, s ∈ tab.getD q [] → q ∈ od.take i) : ¬ Long acc tab := by
  rintro ⟨k, k0, _, t, hp, ht⟩
  obtain ⟨f, f0, fk, fs⟩ := hp.fn
  have inU : ∀ i, i ≤ k → f i ∈ us := fun i hi => by
    refine (hu _).mpr ⟨?_, ?_⟩
    · have p1 := fn_pth fs i 0 (by omega)
      rw [f0, Nat.zero_add] at p1
      exact p1.rch (.st List.mem_cons_self)
    · have p2 := fn_pth fs (k - i) i (by omega)
      rw [show i + (k - i) = k by omega, fk] at p2
      exact p2.lv ht
  have key : ∀ i, i ≤ k → i ≤ od.idxOf (f i) := by
    intro i
    induction i with
    | zero => exact fun _ => Nat.zero_le _
    | succ i ih =>
      intro hi
      have a := ih (by omega)
      have hl := List.idxOf_lt_length_iff.mpr (all _ (inU (i + 1) hi))
      have b := ord (od.idxOf (f (i + 1))) (f (i + 1)) (by rw [List.getElem?_eq_getElem hl, List.getElem_idxOf]) (f i) (inU i (by omega)) (fs i (by omega))
      have := idx_take b
      omega
  have h1 := key k (Nat.le_refl k)
  have h2 := List.idxOf_lt_length_iff.mpr (all _ (inU k (Nat.le_refl k)))
  have h3 := nodup_leN od (List.range acc.length) nd fun s hs => List.mem_range.mpr (((hu s).mp (sub s hs)).2.lt m)
  rw [List.length_range] at h3
  omega
theorem fin_no {acc : List Bool} {tab : List (List Nat)} (m : GM acc tab) {us re : List Nat} (hu : ∀ s, s ∈ us ↔ Usf acc tab s) (sub : ∀ s ∈ re, s ∈ us) (ne : re ≠ []) (pred : ∀ s ∈ re, ∃ q ∈ re, s ∈ tab.getD q []) : Long acc tab := by
  have back : ∀ k, ∀ s ∈ re, ∃ q ∈ re, Pth tab k q s := by
    intro k
    induction k with
    | zero => exact fun s hs => ⟨s, hs, rfl⟩
    | succ k ih =>
      intro s hs
      obtain ⟨q, hq, hqs⟩ := pred s hs
      obtain ⟨q2, hq2, hp⟩ := ih q hq
      exact ⟨q2, hq2, hp.app (.one hqs)⟩
  obtain ⟨s, hs⟩ := List.exists_mem_of_ne_nil re ne
  obtain ⟨q, hq, hp⟩ := back acc.length s hs
  obtain ⟨a, ha⟩ := ((hu q).mp (sub q hq)).1.pth
  obtain ⟨b, t, hb, ht⟩ := ((hu s).mp (sub s hs)).2.pth
  exact pump m (a + acc.length + b) (by omega) ⟨t, (ha.app hp).app hb, ht⟩
/-- how many ways lead from these states to s -/
def dg (tab : List (List Nat)) : List Nat → Nat → Nat
  | [], _ => 0
  | q :: l, s => (tab.getD q []).count s + dg tab l s
theorem dg_app {tab : List (List Nat)} {s : Nat} : ∀ (l m : List Nat), dg tab (l ++ m) s = dg tab l s + dg tab m s
  | [], m => (Nat.zero_add _).symm
  | q :: l, m => by
    show _ + dg tab (l ++ m) s = _ + dg tab l s + _
    rw [dg_app l m, Nat.add_assoc]
theorem dg_pos {tab : List (List Nat)} {s : Nat} : ∀ {l : List Nat}, dg tab l s ≠ 0 → ∃ q ∈ l, s ∈ tab.getD q []
  | [], h => absurd rfl h
  | q :: l, h => by
    by_cases hc : (tab.getD q []).count s = 0
    · have h' : (tab.getD q []).count s + dg tab l s ≠ 0 := h
      obtain ⟨p, hp, e⟩ := dg_pos (tab := tab) (s := s) (l := l) (by omega)
      exact ⟨p, List.mem_cons_of_mem _ hp, e⟩
    · exact ⟨q, List.mem_cons_self, List.count_pos_iff.mp (Nat.pos_of_ne_zero hc)⟩
theorem dg_zero {tab : List (List Nat)} {s : Nat} : ∀ {l : List Nat}, dg tab l s = 0 → ∀ q ∈ l, s ∉ tab.getD q []
  | p :: l, h, q, hq, hs => by
    have h' : (tab.getD p []).count s + dg tab l s = 0 := h
    rcases List.mem_cons.mp hq with e | hq
    · rw [e] at hs
      have := List.count_pos_iff.mpr hs
      omega
    · exact dg_zero (l := l) (by omega) q hq hs
theorem dg_erase {tab : List (List Nat)} {s q : Nat} : ∀ {l : List Nat}, q ∈ l → dg tab l s = (tab.getD q []).count s + dg tab (l.erase q) s
  | p :: l, h => by
    by_cases e : p = q
    · rw [e, List.erase_cons_head]; rfl
    · have hq : q ∈ l := (List.mem_cons.mp h).resolve_left (Ne.symm e)
      rw [List.erase_cons_tail (by simpa using e)]
      show _ + dg tab l s = _ + (_ + dg tab (l.erase q) s)
      rw [dg_erase hq]
      omega
/-- what is taken, what is left, what is free, and the ways that are left -/
structure Kh (tab : List (List Nat)) (us od re fr : List Nat) (c : Nat → Int) : Prop where
  pm : od.length + re.length = us.length
  rn : re.Nodup
  on : od.Nodup
  mem : ∀ s, s ∈ us ↔ s ∈ od ∨ s ∈ re
  dis : ∀ s ∈ od, s ∉ re
  fn : fr.Nodup
  fs : ∀ s ∈ fr, s ∈ re
  ck : ∀ s ∈ us, c s = (dg tab re s : Nat)
  z : ∀ s ∈ re, s ∈ fr ↔ c s = 0
  o : ∀ (i s : Nat), od[i]? = some s → ∀ q ∈ us, s ∈ tab.getD q [] → q ∈ od.take i
structure KI (tab : List (List Nat)) (us re : List Nat) (p j : Nat) (fr : List Nat) (c : Nat → Int) : Prop where
  fn : fr.Nodup
  fs : ∀ s ∈ fr, s ∈ re.erase p
  ck : ∀ s ∈ us, c s = (dg tab (re.erase p) s + ((tab.getD p []).drop j).count s : Nat)
  z : ∀ s ∈ re.erase p, s ∈ fr ↔ c s = 0
theorem Kh.pop {tab : List (List Nat)} {us od re fr : List Nat} {c : Nat → Int} {p : Nat} (h : Kh tab us od re (fr ++ [p]) c) : KI tab us re p 0 fr c := by
  have hp : p ∈ re := h.fs p (List.mem_append.mpr (.inr List.mem_cons_self))
  have nd := List.nodup_append.mp h.fn
  refine ⟨nd.1, fun s hs => ?_, fun s hs => ?_, fun s hs => ?_⟩
  · have : s ≠ p := fun e => nd.2.2 s hs p List.mem_cons_self e
    exact (List.mem_erase_of_ne this).mpr (h.fs s (List.mem_append.mpr (.inl hs)))
  · rw [h.ck s hs, dg_erase hp, List.drop_zero]
    omega
  · have hs' := (h.rn.mem_erase_iff).mp hs
    rw [← h.z s hs'.2, List.mem_append, List.mem_singleton]
    exact ⟨.inl, fun z => z.resolve_right hs'.1⟩
theorem Kh.push {tab : List (List Nat)} {us od re fr fr2 : List Nat} {c c2 : Nat → Int} {p : Nat} (h : Kh tab us od re (fr ++ [p]) c) (g : KI tab us re p (tab.getD p []).length fr2 c2) : Kh tab us (od ++ [p]) (re.erase p) fr2 c2 := by
  have hp : p ∈ re := h.fs p (List.mem_append.mpr (.inr List.mem_cons_self))
  have hpo : p ∉ od := fun z => h.dis p z hp
  have lp := List.length_pos_of_mem hp
  have pm := h.pm
  have hpu : p ∈ us := (h.mem p).mpr (.inr hp)
  refine ⟨?_, h.rn.erase p, ?_, fun s => ?_, fun s hs hs2 => ?_, g.fn, g.fs, fun s hs => ?_, g.z, fun i s hi q hq hs => ?_⟩
  · rw [List.length_append, List.length_singleton, List.length_erase_of_mem hp]
    omega
  · exact List.nodup_append.mpr ⟨h.on, List.nodup_cons.mpr ⟨List.not_mem_nil, List.nodup_nil⟩, fun a ha b hb e => hpo (by rw [List.mem_singleton.mp hb] at e; rw [← e]; exact ha)⟩
  · rw [h.mem, List.mem_append, List.mem_singleton, h.rn.mem_erase_iff]
    by_cases e : s = p
    · rw [e]; exact ⟨fun _ => .inl (.inr rfl), fun _ => .inr hp⟩
    · exact ⟨fun z => z.elim (fun z => .inl (.inl z)) fun z => .inr ⟨e, z⟩, fun z => z.elim (fun z => .inl (z.resolve_right e)) fun z => .inr z.2⟩
  · have h2 := (h.rn.mem_erase_iff).mp hs2
    rcases List.mem_append.mp hs with z | z
    · exact h.dis s z h2.2
    · exact h2.1 (List.mem_singleton.mp z)
  · rw [g.ck s hs, List.drop_length]
    simp
  · by_cases hl : i < od.length
    · rw [List.getElem?_append_left hl] at hi
      rw [List.take_append_of_le_length (by omega)]
      exact h.o i s hi q hq hs
    · have hi2 : i < (od ++ [p]).length := (List.getElem?_eq_some_iff.mp hi).1
      rw [List.length_append, List.length_singleton] at hi2
      have e : i = od.length := by omega
      subst e
      rw [List.getElem?_append_right (Nat.le_refl _), Nat.sub_self] at hi
      obtain rfl : p = s := Option.some.inj hi
      rw [List.take_append_of_le_length (Nat.le_refl _), List.take_length]
      have c0 : c p = 0 := (h.z p hp).mp (List.mem_append.mpr (.inr List.mem_cons_self))
      rw [h.ck p hpu] at c0
      exact ((h.mem q).mp hq).resolve_right fun z => dg_zero (l := re) (by omega) q z hs
theorem Kh.not {tab : List (List Nat)} {us od re fr : List Nat} {c : Nat → Int} {p t : Nat} (h : Kh tab us od re (fr ++ [p]) c) (ht : t ∈ us) (e : t ∈ tab.getD p []) : t ∈ re.erase p := by
  have hp : p ∈ re := h.fs p (List.mem_append.mpr (.inr List.mem_cons_self))
  have hpu : p ∈ us := (h.mem p).mpr (.inr hp)
  rcases (h.mem t).mp ht with z | z
  · obtain ⟨i, hi, rfl⟩ := List.getElem_of_mem z
    have := List.mem_of_mem_take (h.o i _ (List.getElem?_eq_getElem hi) p hpu e)
    exact absurd hp (h.dis p this)
  · refine (h.rn.mem_erase_iff).mpr ⟨fun q => ?_, z⟩
    rw [q] at e
    have c0 : c p = 0 := (h.z p hp).mp (List.mem_append.mpr (.inr List.mem_cons_self))
    rw [h.ck p hpu] at c0
    exact dg_zero (l := re) (by omega) p hp e
def updF (c : Nat → Int) (t : Nat) (v : Int) : Nat → Int := fun s => if s = t then v else c s
theorem drop_at {l : List Nat} {j t : Nat} (h : l[j]? = some t) : l.drop j = t :: l.drop (j + 1) := by
  obtain ⟨hl, e⟩ := List.getElem?_eq_some_iff.mp h
  rw [List.drop_eq_getElem_cons hl, e]
theorem KI.skip {tab : List (List Nat)} {us re : List Nat} {p j t : Nat} {fr : List Nat} {c : Nat → Int} (g : KI tab us re p j fr c) (hj : (tab.getD p [])[j]? = some t) (ht : t ∉ us) : KI tab us re p (j + 1) fr c := by
  refine ⟨g.fn, g.fs, fun s hs => ?_, g.z⟩
  have : t ≠ s := fun e => ht (by rw [e]; exact hs)
  rw [g.ck s hs, drop_at hj, List.count_cons_of_ne this]
theorem KI.dec {tab : List (List Nat)} {us re : List Nat} {p j t : Nat} {fr : List Nat} {c : Nat → Int} (g : KI tab us re p j fr c) (hj : (tab.getD p [])[j]? = some t) (ht : t ∈ us) (hr : t ∈ re.erase p) :
    (c t - 1 = 0 → KI tab us re p (j + 1) (fr ++ [t]) (updF c t (c t - 1))) ∧ (c t - 1 ≠ 0 → KI tab us re p (j + 1) fr (updF c t (c t - 1))) := by
  have ct := g.ck t ht
  rw [drop_at hj, List.count_cons_self] at ct
  have cc : ∀ s ∈ us, updF c t (c t - 1) s = (dg tab (re.erase p) s + ((tab.getD p []).drop (j + 1)).count s : Nat) := fun s hs => by
    unfold updF
    by_cases e : s = t
    · rw [if_pos e, e]; omega
    · rw [if_neg e, g.ck s hs, drop_at hj, List.count_cons_of_ne (Ne.symm e)]
  have nf : t ∉ fr := fun z => by
    have := (g.z t hr).mp z
    omega
  refine ⟨fun h0 => ⟨?_, fun s hs => ?_, cc, fun s hs => ?_⟩, fun h0 => ⟨g.fn, g.fs, cc, fun s hs => ?_⟩⟩
  · exact List.nodup_append.mpr ⟨g.fn, List.nodup_cons.mpr ⟨List.not_mem_nil, List.nodup_nil⟩, fun a ha b hb e => nf (by rw [List.mem_singleton.mp hb] at e; rw [← e]; exact ha)⟩
  · rcases List.mem_append.mp hs with z | z
    · exact g.fs s z
    · rw [List.mem_singleton.mp z]; exact hr
  · unfold updF
    by_cases e : s = t
    · rw [if_pos e, e]
      exact ⟨fun _ => h0, fun _ => List.mem_append.mpr (.inr List.mem_cons_self)⟩
    · rw [if_neg e, ← g.z s hs, List.mem_append, List.mem_singleton]
      exact ⟨fun z => z.resolve_right e, .inl⟩
  · unfold updF
    by_cases e : s = t
    · rw [if_pos e, e]
      exact ⟨fun z => absurd z nf, fun z => absurd z h0⟩
    · rw [if_neg e]; exact g.z s hs
/-! ### dicts with numbers for keys -/
abbrev kI (n : Nat) : L2.Key := .inl (n : Int)
theorem kI_inj {s t : Nat} : kI s = kI t ↔ s = t := ⟨fun h => by
  have := Sum.inl.inj h
  omega, fun h => by rw [h]⟩
structure DN (us : List Nat) (c : Nat → V) (kvs : List (L2.Key × V)) : Prop where
  l : kvs.length ≤ us.length
  y : ∀ s ∈ us, valV kvs (kI s) = some (c s)
  n : ∀ s, s ∉ us → valV kvs (kI s) = none
theorem putK_old {kvs : List (L2.Key × V)} {k : L2.Key} {x v : V} (h : valV kvs k = some x) : (putK kvs k v).length = kvs.length := by
  unfold putK
  rw [if_pos (by rw [valV_any, h]; rfl), List.length_map]
theorem DN.put {us : List Nat} {c : Nat → V} {kvs : List (L2.Key × V)} {t : Nat} {v : V} (h : DN us c kvs) (ht : t ∈ us) : DN us (fun s => if s = t then v else c s) (putK kvs (kI t) v) := by
  refine ⟨by rw [putK_old (h.y t ht)]; exact h.l, fun s hs => ?_, fun s hs => ?_⟩
  · rw [valV_put]
    by_cases e : s = t
    · rw [if_pos (kI_inj.mpr e), if_pos e]
    · rw [if_neg (fun z => e (kI_inj.mp z)), if_neg e, h.y s hs]
  · rw [valV_put, if_neg (fun z => hs (by rw [kI_inj.mp z]; exact ht)), h.n s hs]
theorem DN.snoc {l : List Nat} {kvs : List (L2.Key × V)} {s : Nat} {v : V} (h : DN l (fun _ => v) kvs) : DN (l ++ [s]) (fun _ => v) (putK kvs (kI s) v) := by
  refine ⟨?_, fun t ht => ?_, fun t ht => ?_⟩
  · have := length_putK kvs (kI s) v
    have := h.l
    rw [List.length_append, List.length_singleton]
    omega
  · rw [valV_put]
    by_cases e : t = s
    · rw [if_pos (kI_inj.mpr e)]
    · rw [if_neg (fun z => e (kI_inj.mp z))]
      exact h.y t ((List.mem_append.mp ht).resolve_right fun z => e (List.mem_singleton.mp z))
  · have h1 : t ∉ l := fun z => ht (List.mem_append.mpr (.inl z))
    have h2 : t ≠ s := fun z => ht (List.mem_append.mpr (.inr (by rw [z]; exact List.mem_cons_self)))
    rw [valV_put, if_neg (fun z => h2 (kI_inj.mp z)), h.n t h1]
theorem DN.putI {us : List Nat} {c : Nat → Int} {kvs : List (L2.Key × V)} {t : Nat} {v : Int} (h : DN us (fun s => .int (c s)) kvs) (ht : t ∈ us) : DN us (fun s => .int (updF c t v s)) (putK kvs (kI t) (.int v)) := by
  have e : (fun s => if s = t then V.int v else V.int (c s)) = fun s => V.int (updF c t v s) := by
    funext s
    unfold updF
    split <;> rfl
  rw [← e]
  exact h.put ht
theorem take_cnt {row : List Nat} {j t : Nat} (ht : row[j]? = some t) (u : Nat) : (row.take (j + 1)).count u = (row.take j).count u + if u = t then 1 else 0 := by
  rw [List.take_succ, ht, List.count_append]
  congr 1
  by_cases e : u = t
  · rw [if_pos e, e]; simp
  · rw [if_neg e]
    exact List.count_eq_zero.mpr fun z => e (by simpa using z)
def dcB (g : TG) (tt : TT) (tk tv : TE) (vs : List Nat) (σ : L2.St) (Q : VK) (J : It) (H : Hp) : Prop := tDc (fun _ H R => R J H) g tt tk tv vs σ H Q
theorem rd_dc {wi : TI} {g : TG} {tt : TT} {tk tv : TE} {vs : List Nat} {σ : L2.St} {H : Hp} {Q : VK} (h : wi σ H (dcB g tt tk tv vs σ Q)) : tDc wi g tt tk tv vs σ H Q := h
theorem rd_daug {td ty tv : TE} {rd : V → V → Hp → VK → Prop} {D : Ends} {σ : L2.St} {H : Hp} (h : td σ H fun x H1 => ty σ H1 fun y H2 => ∃ a v, x = .ref a ∧ DGet H2 a y (some v) ∧
  tv σ H2 fun y2 H3 => rd v y2 H3 fun z H4 => ∃ H5, DPut H4 a y z H5 ∧ D.nx σ H5) : sDAug td ty tv rd D σ H := h
/-- {state: v for state in states} -/
theorem dc_N {K : PySem.W.Frag} {j : Nat} {σ : L2.St} {H H0 : Hp} {Q : VK} {J : It} {us : List Nat} {v : V} (w : Wd K J (us.map nI) H0) (e0 : Ex H0 H) (hn : us.length < 100000) (hw : ∀ v : V, wipe ((wipe σ [j]).set j (some v)) [j] = wipe σ [j]) (hj : ∀ v : V, ((wipe σ [j]).set j (some v))[j]? = some (some v))
    (h : ∀ D kvs Hc, Ex H Hc → H D = none → Hc D = some (.dK kvs) → DN us (fun _ => v) kvs → Q (.ref D) Hc) : dcB (gName j) tYes (tVar j) (tC v) [j] σ Q J H := by
  intro D hD
  have hz : 100000 ≤ sizeLine := by decide
  refine ⟨fun i m Hc => m = us.length - i ∧ i ≤ us.length ∧ Ex H Hc ∧ ∃ kvs, Hc D = some (.dK kvs) ∧ DN (us.take i) (fun _ => v) kvs, ⟨us.length, by simp, Nat.zero_le _, Evl.Ex.new hD, [], upd_same, ⟨Nat.zero_le _, fun s hs => (by rw [List.take_zero] at hs; cases hs), fun s _ => rfl⟩⟩, ?_⟩
  rintro i m Hc ⟨rfl, hi, e, kvs, hk, dn⟩
  have hl : (us.map nI).length = us.length := List.length_map ..
  by_cases hlt : i < us.length
  · refine .inr ⟨w.goes i Hc (by rw [hl]; exact hlt) (e0.trans e), fun H' => i + 1 ≤ us.length ∧ Ex H H' ∧ ∃ kvs, H' D = some (.dK kvs) ∧ DN (us.take (i + 1)) (fun _ => v) kvs, fun H' p => ⟨us.length - (i + 1), by omega, rfl, p⟩, fun x H' y => ?_⟩
    obtain ⟨rfl, d, hd, hx⟩ := w.yields i Hc x H' (by rw [hl]; exact hlt) (e0.trans e) y
    rw [List.getElem?_map] at hd
    obtain ⟨s, hs, rfl⟩ := Option.map_eq_some_iff.mp hd
    cases Dp.int_iff hx
    refine ⟨hw _, rd_yes ?_⟩
    refine rd_iteT ?_
    refine rd_var (hj _) ?_
    refine rd_c ?_
    have l2 := dn.l
    rw [List.length_take] at l2
    refine ⟨kvs, kI s, rfl, hk, by omega, hlt, Evl.Ex.mut e hD, _, upd_same, ?_⟩
    rw [List.take_succ, hs]
    exact dn.snoc
  · have ei : i = us.length := by omega
    subst ei
    rw [List.take_length] at dn
    have st := w.stops Hc (e0.trans e)
    rw [hl] at st
    exact .inl ⟨st, h D kvs Hc e hD hk dn⟩
def spFinite : Sp := fun vs H Q _ => ∃ (m : Addr) (ls : Str) (acc : List Bool) (tab : List (List Nat)), vs = [.ref m] ∧ MachD K T.C_Machine H m ls acc tab ∧ GM acc tab ∧
  ∀ (b : Bool) (H' : Hp), Ex H H' → (b = true ↔ ¬ Long acc tab) → Q (.bl b) H'
theorem ok_is_finite : FnOk P w K mg base CX0 3 T.a_is_finite T.d_is_finite ["machine"] (spFinite T) := by
  refine T.f_is_finite.ok sc_is_finite (fun vs H Q E h => ?_) (fun cdv A outer s H vs Q E hr h => ?_)
  · obtain ⟨_, _, _, _, rfl, _⟩ := h; rfl
  · obtain ⟨m, ls, acc, tab, rfl, ⟨dx, ta, tt, hm, hA, hT⟩, gm, q⟩ := h
    have hsl : 1000000 ≤ sizeLine := by decide
    have gn := gm.g.n
    have ge := gm.e
    have gp := gm.p
    refine ⟨_, (pss_cons (ps_set (i := 1) sc_is_finite.nd rfl (by first | exact Or.inl rfl | exact Or.inr rfl) (pe_callE (ok_useful T) (hr.mono (by decide)) T.o_useful (pa_cons (pv 0) pa_nil)))
  (pss_cons (ps_setDc (i := 2) (own := [("state", 3)]) (g := gName 3) (tt := tYes) (by rfl) sc_is_finite.nd rfl rfl (sw_trueD rfl rfl rfl (by decide +kernel)) (kAny K rfl (pv 1)) (blkOk_by (own := [("state", 3)]) (N := ["machine", "states", "kept", "state", "befores", "after", "free", "taken"]) (sc := defScope s_is_finite) (by decide +kernel)) (fun _ _ _ _ _ => (pg_name (i := 3) sc_is_finite.nd rfl (by first | exact Or.inl rfl | exact Or.inr rfl))) (fun _ _ _ _ _ => pts_nil) (fun _ _ _ _ _ => (pv 3)) (fun _ _ _ _ _ => pe_bl))
  (pss_cons (ps_set (i := 4) sc_is_finite.nd rfl (by first | exact Or.inl rfl | exact Or.inr rfl) (pe_dc (own := [("state", 3)]) (g := gName 3) (tt := tYes) (by rfl) sc_is_finite.nd (kAny K rfl (pv 1)) (blkOk_by (own := [("state", 3)]) (N := ["machine", "states", "kept", "state", "befores", "after", "free", "taken"]) (sc := defScope s_is_finite) (by decide +kernel)) (fun _ _ _ _ _ => (pg_name (i := 3) sc_is_finite.nd rfl (by first | exact Or.inl rfl | exact Or.inr rfl))) (fun _ _ _ _ _ => pts_nil) (fun _ _ _ _ _ => (pv 3)) (fun _ _ _ _ _ => pe_int)))
  (pss_cons (ps_for PassesOwn.never rfl (kAny K rfl (pv 1)) (pg_name (i := 3) sc_is_finite.nd rfl (by first | exact Or.inl rfl | exact Or.inr rfl))
    (pss_one (ps_for PassesOwn.never rfl (kAny K rfl (pe_ix (kIx K) (kFld K rfl (pe_fld (pv 0) rfl)) (pv 3) (fun _ _ => rfl))) (pg_name (i := 5) sc_is_finite.nd rfl (by first | exact Or.inl rfl | exact Or.inr rfl))
    (pss_one (ps_if (pt_cmp (pc_din (hu_of hr) (pv 5) (pv 2)))
    (pss_one (ps_daug (hu_of hr) (pv 4) (pv 5) pe_int in_add (fun _ _ _ => rfl)))
    pss_nil)))))
  (pss_cons (ps_setLc (i := 6) (own := [("state", 3)]) (g := gName 3)  (by rfl) sc_is_finite.nd rfl rfl (sw_true rfl rfl rfl (by decide +kernel)) (kAny K rfl (pv 1)) (blkOk_by (own := [("state", 3)]) (N := ["machine", "states", "kept", "state", "befores", "after", "free", "taken"]) (sc := defScope s_is_finite) (by decide +kernel)) (fun _ _ _ _ _ => (pg_name (i := 3) sc_is_finite.nd rfl (by first | exact Or.inl rfl | exact Or.inr rfl))) (fun _ _ _ _ _ => (pts_one (pt_cmpR (kEq K rfl hr.units) (pe_dget (hu_of hr) (pv 4) (pv 3) (fun _ _ => rfl)) pe_int (by first | rfl | exact nomark _)))) (fun _ _ _ _ _ => (pv 3)))
  (pss_cons (ps_set (i := 7) sc_is_finite.nd rfl (by first | exact Or.inl rfl | exact Or.inr rfl) pe_int)
  (pss_cons (ps_while PassesOwn.never (pt_truth (pv 6) (by intro _; rfl))
    (pss_cons (ps_set (i := 3) sc_is_finite.nd rfl (by first | exact Or.inl rfl | exact Or.inr rfl) (kBm0 K rfl (pe_bm0 PySem.F.plainAttrs_list PySem.F.slot_list_pop PySem.F.type_list_pop mt_pop (pv 6))))
  (pss_cons (ps_aug (i := 7) sc_is_finite.nd rfl (by first | exact Or.inl rfl | exact Or.inr rfl) pe_int ip_add)
  (pss_one (ps_for PassesOwn.never rfl (kAny K rfl (pe_ix (kIx K) (kFld K rfl (pe_fld (pv 0) rfl)) (pv 3) (fun _ _ => rfl))) (pg_name (i := 5) sc_is_finite.nd rfl (by first | exact Or.inl rfl | exact Or.inr rfl))
    (pss_one (ps_if (pt_cmp (pc_din (hu_of hr) (pv 5) (pv 2)))
    (pss_cons (ps_daug (hu_of hr) (pv 4) (pv 5) pe_int in_sub (fun _ _ _ => rfl))
  (pss_one (ps_if (pt_cmpR (kEq K rfl hr.units) (pe_dget (hu_of hr) (pv 4) (pv 5) (fun _ _ => rfl)) pe_int (by first | rfl | exact nomark _))
    (pss_one (ps_expr (kBm K rfl (pe_bm PySem.F.plainAttrs_list PySem.F.slot_list_append PySem.F.type_list_append mt_append (pv 6) (pa_cons (pv 5) pa_nil)))))
    pss_nil)))
    pss_nil)))))))
  (pss_one (ps_ret (pe_cmpR (kEq K rfl hr.units) (pv 7) (pe_callB (kLen K) (by rfl) T.nb_len (by decide +kernel) (pa_cons (pv 1) pa_nil)) (by first | rfl | exact nomark _))))))))))), ?_⟩
    walk_at "rc"
    refine ⟨m, ls, acc, tab, rfl, ⟨dx, ta, tt, hm, hA, hT⟩, gm, fun l us H1 e1 hl und umem => ?_⟩
    have ul : us.length ≤ acc.length := by
      have := nodup_leN us (List.range acc.length) und fun s hs => List.mem_range.mpr (((umem s).mp hs).2.lt gm)
      rw [List.length_range] at this
      exact this
    walk_at "rc"
    refine rd_dc ?_
    refine rd_anySq (fun Q q => ⟨_, rfl, q⟩) (Evl.Ex.refl H1) (.inl hl) fun J1 w1 => ?_
    refine dc_N (K := K) w1 (Evl.Ex.refl H1) (by omega) (fun v => rfl) (fun v => rfl) fun D1 k1 H2 e2 hD1 hk1 dn1 => ?_
    walk_at "rc"
    refine rd_dc ?_
    refine rd_anySq (fun Q q => ⟨_, rfl, q⟩) e2 (.inl hl) fun J2 w2 => ?_
    refine dc_N (K := K) w2 e2 (by omega) (fun v => rfl) (fun v => rfl) fun D2 k2 H3 e3 hD2 hk2 dn2 => ?_
    have nD : D1 ≠ D2 := fun z => by rw [← z, hk1] at hD2; cases hD2
    have hD2' : H1 D2 = none := Evl.fresh_back e2 hD2
    have hk13 := e3 _ _ hk1
    walk_at "rc"
    walk_at "rs"
    walk_at "rc"
    refine rd_anySq (fun Q q => ⟨_, rfl, q⟩) (e2.trans e3) (.inl hl) fun J3 w3 => ?_
    refine fo_D w3 (fun i σ H' => ∃ (c : Nat → Int) (k2 : List (L2.Key × V)) (k3 k5 k6 k7 : Option V), σ = [some (.ref m), some (.ref l), some (.ref D1), k3, some (.ref D2), k5, k6, k7] ∧ Ex H1 H' ∧ H' D1 = some (.dK k1) ∧ H' D2 = some (.dK k2) ∧ DN us (fun s => .int (c s)) k2 ∧ ∀ s ∈ us, c s = (dg tab (us.take i) s : Nat))
      ⟨fun _ => 0, k2, _, _, _, _, rfl, e2.trans e3, hk13, hk2, dn2, fun s _ => by rw [List.take_zero]; rfl⟩ (fun i σ H' _ ⟨_, _, _, _, _, _, p⟩ => p.2.1) ?_ ?_
    · rintro i d v σ H4 hd hv ⟨c, k2, k3, k5, k6, k7, rfl, e4, hk14, hk24, dn24, hc⟩
      rw [List.getElem?_map] at hd
      obtain ⟨s, hs, rfl⟩ := Option.map_eq_some_iff.mp hd
      cases Dp.int_iff hv
      have hsu := List.mem_of_getElem? hs
      have hsl' : s < tab.length := by rw [ge]; exact ((umem s).mp hsu).2.lt gm
      have e04 := e1.trans e4
      obtain ⟨rv, hrv, hrx⟩ := sq_at (K := K) (i := s) (.inr hT) (List.getElem?_eq_getElem (by rw [List.length_map]; exact hsl'))
      obtain ⟨row, hrow, erow, hrd⟩ := (rowsN_T tab).get (List.getElem?_eq_getElem (by rw [List.length_map]; exact hsl')) hrv
      walk_at "rc"
      refine rd_anySq (x := rv) (fun Q q => ?_) e04 hrd fun J4 w4 => ?_
      · walk_at "rc"
        refine ⟨m, _, dx, _, _, rfl, e04 _ _ hm, T.cl_Machine, T.na_Machine_table, rfl, ?_⟩
        walk_at "rc"
        exact hrx _ e04 _ q
      refine fo_D w4 (fun j σ H' => ∃ (c : Nat → Int) (k2 : List (L2.Key × V)) (k5 : Option V), σ = [some (.ref m), some (.ref l), some (.ref D1), some (vI s), some (.ref D2), k5, k6, k7] ∧ Ex H1 H' ∧ H' D1 = some (.dK k1) ∧ H' D2 = some (.dK k2) ∧ DN us (fun s => .int (c s)) k2 ∧ ∀ u ∈ us, c u = (dg tab (us.take i) u + (row.take j).count u : Nat))
        ⟨c, k2, _, rfl, e4, hk14, hk24, dn24, fun u hu => by rw [List.take_zero]; exact hc u hu⟩ (fun i σ H' _ ⟨_, _, _, p⟩ => e1.trans p.2.1) ?_ ?_
      · rintro j d v σ H5 hd hv ⟨c, k2, k5, rfl, e5, hk15, hk25, dn25, hc⟩
        rw [List.getElem?_map] at hd
        obtain ⟨t, ht, rfl⟩ := Option.map_eq_some_iff.mp hd
        cases Dp.int_iff hv
        walk_at "rc"
        refine ⟨D1, _, rfl, DGet.k (k := kI t) hk15, ?_⟩
        by_cases htu : t ∈ us
        · rw [dn1.y t htu]
          walk_at "rc"
          refine rd_itet rfl ?_
          refine rd_daug ?_
          walk_at "rc"
          have gd := DGet.k (k := kI t) hk25
          rw [dn25.y t htu] at gd
          refine ⟨D2, _, rfl, gd, ?_⟩
          walk_at "rc"
          have kl := dn25.l
          refine ⟨c t, 1, rfl, rfl, _, DPut.k (k := kI t) hk25 (by omega), ?_⟩
          walk_at "rc"
          refine ⟨updF c t (c t + 1), _, _, rfl, Evl.Ex.mut e5 hD2', by rw [upd_ne nD]; exact hk15, upd_same, dn25.putI htu, fun u hu => ?_⟩
          rw [take_cnt ht]
          have cu := hc u hu
          unfold updF
          by_cases e : u = t
          · rw [if_pos e, if_pos e, ← e]; omega
          · rw [if_neg e, if_neg e]; omega
        · rw [dn1.n t htu]
          walk_at "rc"
          refine rd_itef rfl ?_
          walk_at "rc"
          refine ⟨c, k2, _, rfl, e5, hk15, hk25, dn25, fun u hu => ?_⟩
          rw [take_cnt ht, if_neg (fun z => htu (by rw [← z]; exact hu)), Nat.add_zero]
          exact hc u hu
      · rintro σ H5 ⟨c, k2, k5, rfl, e5, hk15, hk25, dn25, hc⟩
        rw [List.length_map, List.take_length] at hc
        refine ⟨c, k2, _, _, _, _, rfl, e5, hk15, hk25, dn25, fun u hu => ?_⟩
        rw [List.take_succ, hs, dg_app, hc u hu]
        show _ = ((dg tab (us.take i) u + ((tab.getD s []).count u + 0) : Nat) : Int)
        rw [erow]
        omega
    · rintro σ H4 ⟨c, k2, k3, k5, k6, k7, rfl, e4, hk14, hk24, dn24, hc⟩
      rw [List.length_map, List.take_length] at hc
      walk_at "rc"
      refine rd_anySq (fun Q q => ⟨_, rfl, q⟩) e4 (.inl hl) fun J5 w5 => ?_
      refine lc_F (K := K) (S := []) (P := fun i x => ∃ d, (us.map nI)[i]? = some d ∧ Dp K H1 x d) tr_ex (fun b hb => nomatch hb) w5 wd_Y (by rw [List.length_map]; omega) (fun Hc e => e4.trans e) (fun i => decide (c (us.getD i 0) = 0)) (fun i => nI (us.getD i 0)) (hg_name fun v => rfl) (fun L i σ2 Hc hi p2 hL nL t1 hs1 up N hN => ?_) (fun L i σ2 Hc hi p2 hp2 hL nL t1 hs1 up N hN => ?_) fun L fv H5 e5 hL nL hfv hfd => ?_
      · obtain ⟨v, ⟨d, h1, h2⟩, rfl⟩ := p2
        rw [List.getElem?_map] at h1
        obtain ⟨s, hs, rfl⟩ := Option.map_eq_some_iff.mp h1
        cases Dp.int_iff h2
        have es : us.getD i 0 = s := by rw [List.getD_eq_getElem?_getD, hs]; rfl
        have t0 := hN Hc (Evl.Ex.refl Hc)
        rw [es] at t0
        walk_at "rc"
        have gd := DGet.k (k := kI s) (t1 _ _ hk24)
        rw [dn24.y s (List.mem_of_getElem? hs)] at gd
        refine ⟨D2, _, rfl, gd, ?_⟩
        walk_at "rc"
        exact t0
      · obtain ⟨v, ⟨d, h1, h2⟩, rfl⟩ := p2
        rw [List.getElem?_map] at h1
        obtain ⟨s, hs, rfl⟩ := Option.map_eq_some_iff.mp h1
        have es : us.getD i 0 = s := by rw [List.getD_eq_getElem?_getD, hs]; rfl
        cases Dp.int_iff h2
        walk_at "rc"
        exact hN _ Hc (Evl.Ex.refl Hc) (by rw [es]; exact .int _)
      rw [List.length_map, getD_range us 0 (fun s => decide (c s = 0)) nI] at hfd
      obtain rfl := dp_nats hfd
      have e15 : Ex H1 H5 := e4.trans e5
      have hL1 : H1 L = none := Evl.fresh_back e4 hL
      have nDL : D1 ≠ L := fun z => by rw [← z, hk14] at hL; cases hL
      have nD2L : D2 ≠ L := fun z => by rw [← z, hk24] at hL; cases hL
      have kh : Kh tab us [] us (us.filter fun s => decide (c s = 0)) c := by
        refine ⟨Nat.zero_add _, und, List.nodup_nil, fun s => ⟨.inr, fun z => z.resolve_left (fun z => nomatch z)⟩, (fun s hs => nomatch hs), und.sublist List.filter_sublist, fun s hs => (List.mem_filter.mp hs).1, hc, fun s hs => ?_, fun i s hi => (by simp at hi)⟩
        rw [List.mem_filter]
        exact ⟨fun z => of_decide_eq_true z.2, fun z => ⟨hs, decide_eq_true z⟩⟩
      walk_at "rc"
      walk_at "rs"
      refine rd_wh (fun mm σ H' => ∃ (od re fr : List Nat) (c : Nat → Int) (k2 : List (L2.Key × V)) (k3 k5 : Option V), σ = [some (.ref m), some (.ref l), some (.ref D1), k3, some (.ref D2), k5, some (.ref L), some (.int (od.length : Nat))] ∧ Ex H1 H' ∧ H' D1 = some (.dK k1) ∧ H' D2 = some (.dK k2) ∧ DN us (fun s => .int (c s)) k2 ∧ H' L = some (.lst (fr.map vI)) ∧ Kh tab us od re fr c ∧ mm = re.length)
        _ ⟨[], us, _, c, k2, _, _, rfl, e15, e5 _ _ hk14, e5 _ _ hk24, dn24, hfv, kh, rfl⟩ ?_
      rintro mm σ H6 ⟨od, re, fr, c, k2, k3, k5, rfl, e6, hk16, hk26, dn26, hf6, kh, rfl⟩
      have pm := kh.pm
      walk_at "rc"
      refine ⟨!(fr.map vI).isEmpty, .inl ⟨_, SqL.of hf6, rfl⟩, ?_⟩
      rcases List.eq_nil_or_concat fr with rfl | ⟨fr, p, rfl⟩
      · refine rd_iteF ?_
        walk_at "rc"
        refine rd_lenDL e6 hl ?_
        rw [List.length_map]
        walk_at "rc"
        refine q _ H6 (e1.trans e6) ?_
        rw [decide_eq_true_iff]
        constructor
        · intro z
          have r0 : re = [] := List.eq_nil_of_length_eq_zero (by omega)
          subst r0
          exact fin_yes gm umem kh.on (fun s hs => ((kh.mem s).mp hs).resolve_right (fun z => nomatch z)) (fun s hs => (kh.mem s).mpr (.inl hs)) kh.o
        · intro nl
          apply Classical.byContradiction
          intro z
          refine nl (fin_no gm (re := re) umem (fun s hs => (kh.mem s).mpr (.inr hs)) (fun e => ?_) fun s hs => ?_)
          · rw [e] at pm
            have : ([] : List Nat).length = 0 := rfl
            omega
          · refine dg_pos fun e => ?_
            have cs := kh.ck s ((kh.mem s).mpr (.inr hs))
            have := (kh.z s hs).mpr (by rw [cs, e]; rfl)
            cases this
      · have hb : (!((fr.concat p).map vI).isEmpty) = true := by simp
        rw [hb]
        refine rd_iteT ?_
        rw [List.concat_eq_append] at hf6 kh
        have hp : p ∈ re := kh.fs p (List.mem_append.mpr (.inr List.mem_cons_self))
        have hpu : p ∈ us := (kh.mem p).mpr (.inr hp)
        have lp := List.length_pos_of_mem hp
        have hsl' : p < tab.length := by rw [ge]; exact ((umem p).mp hpu).2.lt gm
        refine ⟨_, fun σ2 H2 z => z, ?_⟩
        walk_at "rc"
        refine rd_bm0 ?_
        walk_at "rc"
        refine ⟨.inl ⟨rfl, _, SqL.of hf6⟩, ?_⟩
        refine ⟨L, (fr ++ [p]).map vI, vI p, rfl, rfl, hf6, by simp, ?_⟩
        have edl : ((fr ++ [p]).map vI).dropLast = fr.map vI := by simp
        rw [edl]
        have e7 : Ex H1 (upd H6 L (.lst (fr.map vI))) := Evl.Ex.mut e6 hL1
        have hk17 : upd H6 L (.lst (fr.map vI)) D1 = some (.dK k1) := by rw [upd_ne nDL]; exact hk16
        have hk27 : upd H6 L (.lst (fr.map vI)) D2 = some (.dK k2) := by rw [upd_ne nD2L]; exact hk26
        have hf7 : upd H6 L (.lst (fr.map vI)) L = some (.lst (fr.map vI)) := upd_same
        generalize upd H6 L (.lst (fr.map vI)) = H7 at e7 hk17 hk27 hf7
        walk_at "rc"
        walk_at "rs"
        refine ⟨.int (od.length : Nat), rfl, ?_⟩
        refine rd_c ?_
        refine ⟨_, _, rfl, rfl, ?_⟩
        walk_at "rc"
        have e07 := e1.trans e7
        obtain ⟨rv, hrv, hrx⟩ := sq_at (K := K) (i := p) (.inr hT) (List.getElem?_eq_getElem (by rw [List.length_map]; exact hsl'))
        obtain ⟨row, hrow, erow, hrd⟩ := (rowsN_T tab).get (List.getElem?_eq_getElem (by rw [List.length_map]; exact hsl')) hrv
        refine rd_anySq (x := rv) (fun Q q => ?_) e07 hrd fun J6 w6 => ?_
        · walk_at "rc"
          refine ⟨m, _, dx, _, _, rfl, e07 _ _ hm, T.cl_Machine, T.na_Machine_table, rfl, ?_⟩
          walk_at "rc"
          exact hrx _ e07 _ q
        refine fo_D w6 (fun j σ H' => ∃ (fr2 : List Nat) (c : Nat → Int) (k2 : List (L2.Key × V)) (k5 : Option V), σ = [some (.ref m), some (.ref l), some (.ref D1), some (vI p), some (.ref D2), k5, some (.ref L), some (.int ((od.length : Int) + 1))] ∧ Ex H1 H' ∧ H' D1 = some (.dK k1) ∧ H' D2 = some (.dK k2) ∧ DN us (fun s => .int (c s)) k2 ∧ H' L = some (.lst (fr2.map vI)) ∧ KI tab us re p j fr2 c)
          ⟨fr, c, k2, _, rfl, e7, hk17, hk27, dn26, hf7, kh.pop⟩ (fun i σ H' _ ⟨_, _, _, _, p⟩ => e1.trans p.2.1) ?_ ?_
        · rintro j d v σ H8 hd hv ⟨fr2, c, k2, k5, rfl, e8, hk18, hk28, dn28, hf8, ki⟩
          rw [List.getElem?_map] at hd
          obtain ⟨t, ht, rfl⟩ := Option.map_eq_some_iff.mp hd
          cases Dp.int_iff hv
          have htr : (tab.getD p [])[j]? = some t := by rw [erow]; exact ht
          walk_at "rc"
          refine ⟨D1, _, rfl, DGet.k (k := kI t) hk18, ?_⟩
          by_cases htu : t ∈ us
          · rw [dn1.y t htu]
            obtain ⟨dz, dp⟩ := ki.dec htr htu (kh.not htu (List.mem_of_getElem? htr))
            walk_at "rc"
            refine rd_itet rfl ?_
            walk_at "rs"
            refine rd_daug ?_
            walk_at "rc"
            have gd := DGet.k (k := kI t) hk28
            rw [dn28.y t htu] at gd
            refine ⟨D2, _, rfl, gd, ?_⟩
            walk_at "rc"
            have kl := dn28.l
            refine ⟨c t, 1, rfl, rfl, _, DPut.k (k := kI t) hk28 (by omega), ?_⟩
            have dn9 := dn28.putI (v := c t - 1) htu
            have e9 : Ex H1 (upd H8 D2 (.dK (putK k2 (kI t) (.int (c t - 1))))) := Evl.Ex.mut e8 hD2'
            have hk19 : upd H8 D2 (.dK (putK k2 (kI t) (.int (c t - 1)))) D1 = some (.dK k1) := by rw [upd_ne nD]; exact hk18
            have hk29 : upd H8 D2 (.dK (putK k2 (kI t) (.int (c t - 1)))) D2 = some (.dK (putK k2 (kI t) (.int (c t - 1)))) := upd_same
            have hf9 : upd H8 D2 (.dK (putK k2 (kI t) (.int (c t - 1)))) L = some (.lst (fr2.map vI)) := by rw [upd_ne (Ne.symm nD2L)]; exact hf8
            generalize upd H8 D2 (.dK (putK k2 (kI t) (.int (c t - 1)))) = H9 at e9 hk19 hk29 hf9
            walk_at "rc"
            have gd2 := DGet.k (k := kI t) hk29
            rw [dn9.y t htu] at gd2
            refine ⟨D2, _, rfl, gd2, ?_⟩
            have ec : updF c t (c t - 1) t = c t - 1 := if_pos rfl
            rw [ec]
            walk_at "rc"
            refine rd_iteD (fun h0 => ?_) (fun h0 => ?_)
            · walk_at "rc"
              refine ⟨.inl ⟨rfl, _, SqL.of hf9⟩, ?_⟩
              walk_at "rc"
              have fl : fr2.length ≤ re.length := by
                have := nodup_leN fr2 re ki.fn fun s hs => List.mem_of_mem_erase (ki.fs s hs)
                exact this
              refine ⟨L, fr2.map vI, _, rfl, rfl, hf9, by rw [List.length_map]; omega, ?_⟩
              exact ⟨fr2 ++ [t], _, _, _, rfl, Evl.Ex.mut e9 hL1, by rw [upd_ne nDL]; exact hk19, by rw [upd_ne nD2L]; exact hk29, dn9, by rw [upd_same, List.map_append]; rfl, dz h0⟩
            · walk_at "rc"
              exact ⟨fr2, _, _, _, rfl, e9, hk19, hk29, dn9, hf9, dp h0⟩
          · rw [dn1.n t htu]
            walk_at "rc"
            refine rd_itef rfl ?_
            walk_at "rc"
            exact ⟨fr2, c, k2, _, rfl, e8, hk18, hk28, dn28, hf8, ki.skip htr htu⟩
        · rintro σ H8 ⟨fr2, c, k2, k5, rfl, e8, hk18, hk28, dn28, hf8, ki⟩
          rw [List.length_map, ← erow] at ki
          have eo : ((od ++ [p]).length : Int) = (od.length : Int) + 1 := by rw [List.length_append]; rfl
          exact ⟨(re.erase p).length, by rw [List.length_erase_of_mem hp]; omega, od ++ [p], re.erase p, fr2, c, k2, some (vI p), k5, by rw [eo], e8, hk18, hk28, dn28, hf8, kh.push ki, rfl⟩
/-! ### the law's own search -/
theorem Pth.last {tab : List (List Nat)} : ∀ {k s t : Nat}, Pth tab (k + 1) s t → ∃ u, Pth tab k s u ∧ t ∈ tab.getD u []
  | 0, s, t, ⟨u, h1, h2⟩ => by
    have h2' : u = t := h2
    exact ⟨s, rfl, by rw [← h2']; exact h1⟩
  | k + 1, s, t, ⟨u, h1, h2⟩ => by
    obtain ⟨v, h3, h4⟩ := h2.last
    exact ⟨v, ⟨u, h1, h3⟩, h4⟩
theorem pth_succ {tab : List (List Nat)} {k s t : Nat} : Pth tab (k + 1) s t ↔ ∃ u, Pth tab k s u ∧ t ∈ tab.getD u [] := ⟨Pth.last, fun ⟨_, h1, h2⟩ => h1.app (.one h2)⟩
/-- a list with few different ones -/
structure Few (w n : Nat) (l : List Nat) : Prop where
  k : ∃ ks : List Nat, ks.Nodup ∧ (∀ s ∈ ks, s ∈ l) ∧ l.length ≤ w * ks.length
  b : ∀ s ∈ l, s < n
theorem Few.len {w n : Nat} {l : List Nat} (h : Few w n l) : l.length ≤ w * n := by
  obtain ⟨ks, h1, h2, h3⟩ := h.k
  have := nodup_leN ks (List.range n) h1 fun s hs => List.mem_range.mpr (h.b s (h2 s hs))
  rw [List.length_range] at this
  exact Nat.le_trans h3 (Nat.mul_le_mul_left w this)
theorem Few.nil {w n : Nat} : Few w n [] := ⟨⟨[], List.nodup_nil, (fun s hs => nomatch hs), Nat.zero_le _⟩, fun s hs => nomatch hs⟩
theorem Few.add {w n : Nat} {l : List Nat} (h : Few w n l) (row : List Nat) (hw : row.length ≤ w) (hb : ∀ s ∈ row, s < n) : Few w n (l ++ row.filter fun s => !decide (s ∈ l)) := by
  refine ⟨?_, fun s hs => ?_⟩
  · obtain ⟨ks, h1, h2, h3⟩ := h.k
    cases hf : row.filter (fun s => !decide (s ∈ l)) with
    | nil => exact ⟨ks, h1, fun s hs => by rw [List.append_nil]; exact h2 s hs, by rw [List.append_nil]; exact h3⟩
    | cons x more =>
      have hx : x ∈ row.filter (fun s => !decide (s ∈ l)) := by rw [hf]; exact List.mem_cons_self
      have hx2 : x ∉ l := by simpa using (List.mem_filter.mp hx).2
      have hl := List.length_filter_le (fun s => !decide (s ∈ l)) row
      rw [hf] at hl
      refine ⟨x :: ks, List.nodup_cons.mpr ⟨fun z => hx2 (h2 x z), h1⟩, fun s hs => ?_, ?_⟩
      · rcases List.mem_cons.mp hs with z | z
        · rw [z]; exact List.mem_append.mpr (.inr List.mem_cons_self)
        · exact List.mem_append.mpr (.inl (h2 s z))
      · rw [List.length_append, List.length_cons (a := x) (as := ks), Nat.mul_succ]
        omega
  · rcases List.mem_append.mp hs with z | z
    · exact h.b s z
    · exact hb s (List.mem_filter.mp z).1
theorem inV_nat {x : Nat} : ∀ l : List Nat, inV (vI x) (l.map vI) = decide (x ∈ l)
  | [] => rfl
  | y :: l => by
    have ih := inV_nat (x := x) l
    unfold inV at ih ⊢
    rw [List.map_cons, List.any_cons, ih]
    show ((y : Int) == (x : Int) || decide (x ∈ l)) = decide (x ∈ y :: l)
    rw [Bool.eq_iff_iff, Bool.or_eq_true, beq_iff_eq, decide_eq_true_iff, decide_eq_true_iff, List.mem_cons]
    constructor
    · rintro (z | z)
      · exact .inl (by omega)
      · exact .inr z
    · rintro (z | z)
      · exact .inl (by rw [z])
      · exact .inr z
theorem flat_nat (l : List Nat) : (l.map vI).all flatV = true := by
  rw [List.all_eq_true]
  intro v hv
  obtain ⟨x, _, rfl⟩ := List.mem_map.mp hv
  rfl
def fB (acc : List Bool) : PyData → PyData
  | .int i => .bool (acc.getD i.toNat false)
  | _ => .none
def qN (l : List Nat) : PyData → Bool
  | .int i => !decide (i.toNat ∈ l)
  | _ => false
def spLong : Sp := fun vs H Q _ => ∃ (xa xt : V) (acc : List Bool) (tab : List (List Nat)), vs = [xa, xt] ∧ Dp K H xa (.list (acc.map PyData.bool)) ∧ Dp K H xt (nL tab) ∧ GM acc tab ∧ acc.length ≤ 10 ∧ (∀ row ∈ tab, row.length ≤ 10) ∧
  ∀ (b : Bool) (H' : Hp), Ex H H' → (b = true ↔ Long acc tab) → Q (.bl b) H'
theorem ok_long : FnOk P w K mg base CX0 1 T.a_long T.d_long ["accepting", "table"] (spLong (K := K)) := by
  refine T.f_long.ok sc_long (fun vs H Q E h => ?_) (fun cdv A outer s H vs Q E hr h => ?_)
  · obtain ⟨_, _, _, _, rfl, _⟩ := h; rfl
  · obtain ⟨xa, xt, acc, tab, rfl, ha, ht, gm, an, tw, q⟩ := h
    have hsl : 1000000 ≤ sizeLine := by decide
    have ge := gm.e
    have gp := gm.p
    refine ⟨_, (pss_cons (ps_set (i := 2) sc_long.nd rfl (by first | exact Or.inl rfl | exact Or.inr rfl) (pe_callB (kLen K) (by rfl) T.nb_len (by decide +kernel) (pa_cons (pv 1) pa_nil)))
  (pss_cons (ps_set (i := 3) sc_long.nd rfl (by first | exact Or.inl rfl | exact Or.inr rfl) (pe_lst (pa_cons pe_int pa_nil)))
  (pss_cons (ps_for PassesOwn.never rfl (pi_range1 (by rfl) T.nb_range (pa_cons (pe_op op_mulPP pe_int (pv 2)) pa_nil)) (pg_name (i := 4) sc_long.nd rfl (by first | exact Or.inl rfl | exact Or.inr rfl))
    (pss_cons (ps_if (PW.pt (pw_and (pt_cmpR op_geP (pv 4) (pv 2) (by first | rfl | exact nomark _)) (pw_and1 (pt_val (pe_callB (kAnyOf K) (by rfl) T.nb_any (by decide +kernel) (pa_cons (pe_lc (own := [("at", 5)]) (g := gName 5) (tt := tYes) (by rfl) sc_long.nd (kAny K rfl (pv 3)) (blkOk_by (own := [("at", 5)]) (N := ["accepting", "table", "many", "ends", "length", "at", "after", "following"]) (sc := defScope s_long) (by decide +kernel)) (fun _ _ _ _ _ => (pg_name (i := 5) sc_long.nd rfl (by first | exact Or.inl rfl | exact Or.inr rfl))) (fun _ _ _ _ _ => pts_nil) (fun _ _ _ _ _ => (pe_ix (kIx K) (pv 0) (pv 5) (fun _ _ => rfl)))) pa_nil))))))
    (pss_one (ps_ret pe_bl))
    pss_nil)
  (pss_cons (ps_set (i := 6) sc_long.nd rfl (by first | exact Or.inl rfl | exact Or.inr rfl) (pe_lst pa_nil))
  (pss_cons (ps_for PassesOwn.never rfl (kAny K rfl (pv 3)) (pg_name (i := 5) sc_long.nd rfl (by first | exact Or.inl rfl | exact Or.inr rfl))
    (pss_one (ps_set (i := 6) sc_long.nd rfl (by first | exact Or.inl rfl | exact Or.inr rfl) (pe_op (kAdd K) (pv 6) (pe_lc (own := [("following", 7)]) (g := gName 7)  (by rfl) sc_long.nd (kAny K rfl (pe_ix (kIx K) (pv 1) (pv 5) (fun _ _ => rfl))) (blkOk_by (own := [("following", 7)]) (N := ["accepting", "table", "many", "ends", "length", "at", "after", "following"]) (sc := defScope s_long) (by decide +kernel)) (fun _ _ _ _ _ => (pg_name (i := 7) sc_long.nd rfl (by first | exact Or.inl rfl | exact Or.inr rfl))) (fun _ _ _ _ _ => (pts_one (pt_cmpR (kNotIn K) (pv 7) (pv 6) (by first | rfl | exact nomark _)))) (fun _ _ _ _ _ => (pv 7)))))))
  (pss_one (ps_set (i := 3) sc_long.nd rfl (by first | exact Or.inl rfl | exact Or.inr rfl) (pv 6)))))))
  (pss_one (ps_ret pe_bl))))), ?_⟩
    walk_at "rc"
    refine rd_lenDL (Evl.Ex.refl H) ht ?_
    rw [List.length_map]
    walk_at "rc"
    refine ⟨by decide, fun E0 hE0 => ?_⟩
    have e0 : Ex H (upd H E0 (.lst [V.int 0])) := Evl.Ex.new hE0
    have h0 : upd H E0 (.lst [V.int 0]) E0 = some (.lst (([0] : List Nat).map vI)) := upd_same
    generalize upd H E0 (.lst [V.int 0]) = H0 at e0 h0
    walk_at "rc"
    walk_at "rs"
    walk_at "rc"
    refine rd_mulN (.inl ⟨by decide, by decide⟩) ?_
    walk_at "rc"
    refine ⟨2 * (tab.length : Int), rfl, by omega, by omega, ?_⟩
    refine fo_range (n := (2 * (tab.length : Int)).toNat) (fun i σ H' => ∃ (Ea : Addr) (en : List Nat) (k4 k5 k6 k7 : Option V), σ = [some xa, some xt, some (.int (tab.length : Nat)), some (.ref Ea), k4, k5, k6, k7] ∧ Ex H H' ∧ H' Ea = some (.lst (en.map vI)) ∧ Few 10 acc.length en ∧ (∀ t, t ∈ en ↔ Pth tab i 0 t) ∧ ∀ k, k < i → acc.length ≤ k → ¬ AccP acc tab k)
      ⟨E0, [0], _, _, _, _, rfl, e0, h0, ⟨⟨[0], by simp, fun s hs => hs, by decide⟩, fun s hs => by rw [List.mem_singleton.mp hs]; exact gp⟩, fun t => List.mem_singleton.trans ⟨fun z => z.symm, fun z => Eq.symm z⟩, fun k hk => nomatch hk⟩ ?_ ?_
    · rintro i σ H1 hi ⟨Ea, en, k4, k5, k6, k7, rfl, e1, hE, few, enp, no⟩
      have dE : Dp K H1 (.ref Ea) (.list (en.map nI)) := .lst (SqL.of hE) (DpAll.mapV _ _ _ fun x _ => .int _)
      have el := few.len
      walk_at "rc"
      refine rd_cut (fun σ H' => ∃ k5, σ = [some xa, some xt, some (.int (tab.length : Nat)), some (.ref Ea), some (.int (i : Nat)), k5, k6, k7] ∧ Ex H H' ∧ H' Ea = some (.lst (en.map vI)) ∧ ∀ k, k < i + 1 → acc.length ≤ k → ¬ AccP acc tab k) (fun N hN => ?_) ?_
      · walk_at "rc"
        refine rd_iteD (fun h1 => ?_) (fun h1 => ?_)
        · walk_at "rc"
          refine rd_anySq (fun Q q => ⟨_, rfl, q⟩) (Evl.Ex.refl H1) (.inl dE) fun J1 w1 => ?_
          refine lc_MD (K := K) (S := []) tr_ex (fun b hb => nomatch hb) w1 (by rw [hid_nil]; exact Evl.Ex.refl H1) (by rw [List.length_map]; omega) (fun v => rfl) (fB acc) (fun L d v Hc hmd hd hL nL t1 hs2 up N hN => ?_) fun L us H2 e2 hL nL hus hds => ?_
          · obtain ⟨s, hs, rfl⟩ := List.mem_map.mp hmd
            cases Dp.int_iff hd
            have sl := few.b s hs
            walk_at "rc"
            refine rd_ixDL (e1.trans t1) ha (i := s) (d := .bool (acc.getD s false)) (by rw [List.getElem?_map, List.getD_eq_getElem?_getD, List.getElem?_eq_getElem sl]; rfl) fun v hv => ?_
            refine hN v Hc (Evl.Ex.refl Hc) ?_
            cases Dp.bl_iff hv
            exact .bl _
          · have em : (en.map nI).map (fB acc) = (en.map fun s => acc.getD s false).map PyData.bool := by
              rw [List.map_map, List.map_map]
              exact List.map_congr_left fun s _ => rfl
            rw [em] at hds
            obtain rfl := dp_bls hds
            walk_at "rc"
            refine ⟨L, en.map fun s => acc.getD s false, rfl, SqL.of hus, ?_⟩
            have ean : (en.map fun s => acc.getD s false).any id = true ↔ AccP acc tab i := by
              rw [List.any_eq_true]
              constructor
              · rintro ⟨b, hb, z⟩
                obtain ⟨s, hs, rfl⟩ := List.mem_map.mp hb
                refine ⟨s, (enp s).mp hs, ?_⟩
                have z' : acc.getD s false = true := z
                rw [List.getD_eq_getElem?_getD, List.getElem?_eq_getElem (few.b s hs)] at z'
                rw [List.getElem?_eq_getElem (few.b s hs)]
                exact congrArg some z'
              · rintro ⟨s, hs, z⟩
                refine ⟨_, List.mem_map.mpr ⟨s, (enp s).mpr hs, rfl⟩, ?_⟩
                show acc.getD s false = true
                rw [List.getD_eq_getElem?_getD, z]; rfl
            walk_at "rc"
            cases hb : (en.map fun s => acc.getD s false).any id with
            | true =>
              refine rd_iteT ?_
              walk_at "rc"
              exact q true H2 (e1.trans e2) ⟨fun _ => ⟨i, by omega, by omega, ean.mp hb⟩, fun _ => rfl⟩
            | false =>
              refine rd_iteF ?_
              walk_at "rc"
              refine hN _ _ ⟨_, rfl, e1.trans e2, e2 _ _ hE, fun k hk hk0 hka => ?_⟩
              by_cases e : k = i
              · rw [e] at hka
                have := ean.mpr hka
                rw [hb] at this
                cases this
              · exact no k (by omega) hk0 hka
        · refine rd_iteF ?_
          walk_at "rc"
          exact hN _ _ ⟨_, rfl, e1, hE, fun k hk hk0 hka => by
            by_cases e : k = i
            · omega
            · exact no k (by omega) hk0 hka⟩
      · rintro σ H2 ⟨k5, rfl, e2, hE2, no2⟩
        have dE2 : Dp K H2 (.ref Ea) (.list (en.map nI)) := .lst (SqL.of hE2) (DpAll.mapV _ _ _ fun x _ => .int _)
        walk_at "rc"
        refine ⟨by decide, fun A0 hA0 => ?_⟩
        have e3 : Ex H2 (upd H2 A0 (.lst [])) := Evl.Ex.new hA0
        have hA3 : upd H2 A0 (.lst []) A0 = some (.lst (([] : List Nat).map vI)) := upd_same
        generalize upd H2 A0 (.lst []) = H3 at e3 hA3
        walk_at "rc"
        walk_at "rs"
        walk_at "rc"
        refine rd_anySq (fun Q q => ⟨_, rfl, q⟩) e3 (.inl dE2) fun J2 w2 => ?_
        refine fo_D w2 (fun j σ H' => ∃ (Aa : Addr) (af : List Nat) (k5 k7 : Option V), σ = [some xa, some xt, some (.int (tab.length : Nat)), some (.ref Ea), some (.int (i : Nat)), k5, some (.ref Aa), k7] ∧ Ex H2 H' ∧ H' Aa = some (.lst (af.map vI)) ∧ Few 10 acc.length af ∧ ∀ t, t ∈ af ↔ ∃ s ∈ en.take j, t ∈ tab.getD s [])
          ⟨A0, [], _, _, rfl, e3, hA3, .nil, fun t => ⟨fun z => (nomatch z), fun ⟨s, hs, _⟩ => (by rw [List.take_zero] at hs; cases hs)⟩⟩ (fun i σ H' _ ⟨_, _, _, _, p⟩ => p.2.1) ?_ ?_
        · rintro j d v σ H4 hd hv ⟨Aa, af, k5, k7, rfl, e4, hA4, fw4, af4⟩
          rw [List.getElem?_map] at hd
          obtain ⟨s, hs, rfl⟩ := Option.map_eq_some_iff.mp hd
          cases Dp.int_iff hv
          have sl : s < tab.length := by rw [ge]; exact few.b s (List.mem_of_getElem? hs)
          have fl := fw4.len
          obtain ⟨rv, hrv, hrx⟩ := sq_at (K := K) (i := s) (.inl ht) (List.getElem?_eq_getElem (by rw [List.length_map]; exact sl))
          obtain ⟨row, hrow, erow, hrd⟩ := (rowsN_L tab).get (List.getElem?_eq_getElem (by rw [List.length_map]; exact sl)) hrv
          have hrm := List.mem_of_getElem? hrow
          have rl := tw row hrm
          have rb := gm.g.b row hrm
          have e24 := e2.trans e4
          walk_at "rc"
          refine rd_anySq (x := rv) (fun Q q => ?_) e24 hrd fun J3 w3 => ?_
          · walk_at "rc"
            exact hrx _ e24 _ q
          refine lc_FD (K := K) (S := []) tr_ex (fun b hb => nomatch hb) w3 (by rw [hid_nil]; exact e24) (by rw [List.length_map]; omega) (fun v => rfl) (qN af) id (fun L d v Hc hmd hd2 hL nL t1 hs2 up N hN => ?_) (fun L d v Hc hmd hd2 hq hL nL t1 hs2 up N hN => ?_) fun L us H5 e5 hL nL hus hds => ?_
          · obtain ⟨t, _, rfl⟩ := List.mem_map.mp hmd
            cases Dp.int_iff hd2
            have t0 := hN Hc (Evl.Ex.refl Hc)
            walk_at "rc"
            refine .inr ⟨Aa, af.map vI, rfl, .inl (SqL.of (t1 _ _ hA4)), rfl, flat_nat af, ?_⟩
            rw [if_pos rfl]
            have ei := inV_nat (x := t) af
            have ei' : inV (V.int (t : Int)) (af.map vI) = decide (t ∈ af) := ei
            rw [ei']
            walk_at "rc"
            exact t0
          · obtain ⟨t, _, rfl⟩ := List.mem_map.mp hmd
            cases Dp.int_iff hd2
            walk_at "rc"
            exact hN _ Hc (Evl.Ex.refl Hc) (.int _)
          · have em : ((row.map nI).filter (qN af)).map id = (row.filter fun t => !decide (t ∈ af)).map nI := by
              rw [List.map_id, List.filter_map]
              rfl
            rw [em] at hds
            obtain rfl := dp_nats hds
            have fa := fw4.add row rl (by rw [← ge]; exact rb)
            have fal := fa.len
            rw [List.length_append] at fal
            walk_at "rc"
            refine .inr (.inr (.inl ⟨Aa, L, _, _, rfl, rfl, e5 _ _ hA4, hus, by rw [List.length_map, List.length_map]; omega, fun B hB => ?_⟩))
            walk_at "rc"
            refine ⟨B, af ++ row.filter (fun t => !decide (t ∈ af)), _, _, rfl, (e4.trans e5).trans (Evl.Ex.new hB), by rw [upd_same, List.map_append], fa, fun t => ?_⟩
            rw [List.take_succ, hs, List.mem_append, af4, List.mem_filter]
            constructor
            · rintro (⟨u, hu, z⟩ | ⟨z, _⟩)
              · exact ⟨u, List.mem_append.mpr (.inl hu), z⟩
              · exact ⟨s, List.mem_append.mpr (.inr List.mem_cons_self), by rw [erow]; exact z⟩
            · rintro ⟨u, hu, z⟩
              by_cases hta : t ∈ af
              · exact .inl ((af4 t).mp hta)
              · rcases List.mem_append.mp hu with y | y
                · exact .inl ⟨u, y, z⟩
                · have : u = s := by simpa using y
                  rw [this, erow] at z
                  exact .inr ⟨z, by simp [hta]⟩
        · rintro σ H4 ⟨Aa, af, k5, k7, rfl, e4, hA4, fw4, af4⟩
          rw [List.length_map, List.take_length] at af4
          walk_at "rc"
          refine ⟨Aa, af, _, _, _, _, rfl, e2.trans e4, hA4, fw4, fun t => ?_, no2⟩
          rw [af4, pth_succ]
          exact ⟨fun ⟨s, hs, z⟩ => ⟨s, (enp s).mp hs, z⟩, fun ⟨s, hs, z⟩ => ⟨s, (enp s).mpr hs, z⟩⟩
    · rintro σ H1 ⟨Ea, en, k4, k5, k6, k7, rfl, e1, hE, few, enp, no⟩
      walk_at "rc"
      refine q false H1 e1 ⟨fun z => (nomatch z), fun ⟨k, k0, k1, ka⟩ => absurd ka (no k (by omega) k0)⟩
/-! ### drawn machines -/
def partsN (acc : List Bool) (tab : List (List Nat)) : PyData := .tuple [.list (acc.map PyData.bool), nL tab]
def spParts : Sp := fun vs H Q _ => ∃ (p : Addr) (ls : Str) (most : Nat) (S : List Addr), vs = [.str ls, .ref p, .int (most : Int)] ∧ 0 < ls.length ∧ ls.length ≤ 10 ∧ 0 < most ∧ most ≤ 10 ∧ StAt H p ∧ p ∈ S ∧ (∀ b ∈ S, ∃ o, H b = some o) ∧
  ∀ (v : V) (acc : List Bool) (tab : List (List Nat)) (H' : Hp), Dp K (hid S H') v (partsN acc tab) → GM acc tab → acc.length ≤ most → (∀ row ∈ tab, row.length = ls.length) → Dr p H H' → Q v H'
theorem ok_parts : FnOk P w K mg base CX0 3 T.a_parts T.d_parts ["letters", "state", "most"] (spParts (K := K)) := by
  refine T.f_parts.ok sc_parts (fun vs H Q E h => ?_) (fun cdv A outer s H vs Q E hr h => ?_)
  · obtain ⟨_, _, _, _, rfl, _⟩ := h; rfl
  · obtain ⟨p, ls, most, S, rfl, l0, l1, m0, m1, hS, hp, hs, q⟩ := h
    refine ⟨_, (pss_cons (ps_set (i := 3) sc_parts.nd rfl (by first | exact Or.inl rfl | exact Or.inr rfl) (pe_op (kAdd K) pe_int (pe_callE (ok_next T) (hr.mono (by decide)) T.o_next (pa_cons (pv 1) (pa_cons (pv 2) pa_nil)))))
  (pss_cons (ps_setLc (i := 4) (own := [("k", 5)]) (g := gName 5) (tt := tYes) (by rfl) sc_parts.nd rfl rfl (sw_true rfl rfl rfl (by decide +kernel)) (pi_range1 (by rfl) T.nb_range (pa_cons (pv 3) pa_nil)) (blkOk_by (own := [("k", 5)]) (N := ["letters", "state", "most", "many", "accepting", "k", "table", "letter"]) (sc := defScope s_parts) (by decide +kernel)) (fun _ _ _ _ _ => (pg_name (i := 5) sc_parts.nd rfl (by first | exact Or.inl rfl | exact Or.inr rfl))) (fun _ _ _ _ _ => pts_nil) (fun _ _ _ _ _ => (pe_cmpR (kEq K rfl hr.units) (pe_callE (ok_next T) (hr.mono (by decide)) T.o_next (pa_cons (pv 1) (pa_cons pe_int pa_nil))) pe_int (by first | rfl | exact nomark _))))
  (pss_cons (ps_setLc (i := 6) (own := [("k", 5)]) (g := gName 5) (tt := tYes) (by rfl) sc_parts.nd rfl rfl (sw_true rfl rfl rfl (by decide +kernel)) (pi_range1 (by rfl) T.nb_range (pa_cons (pv 3) pa_nil)) (blkOk_by (own := [("k", 5)]) (N := ["letters", "state", "most", "many", "accepting", "k", "table", "letter"]) (sc := defScope s_parts) (by decide +kernel)) (fun _ _ _ _ _ => (pg_name (i := 5) sc_parts.nd rfl (by first | exact Or.inl rfl | exact Or.inr rfl))) (fun _ _ _ _ _ => pts_nil) (fun _ _ _ _ _ => (pe_lc (own := [("letter", 7)]) (g := gName 7) (tt := tYes) (by rfl) sc_parts.nd (kAny K rfl (pv 0)) (by exact blkOk_in (N := ["letters", "state", "most", "many", "accepting", "k", "table", "letter"]) rfl (by decide +kernel)) (fun _ _ _ _ _ => (pg_name (i := 7) sc_parts.nd rfl (by first | exact Or.inl rfl | exact Or.inr rfl))) (fun _ _ _ _ _ => pts_nil) (fun _ _ _ _ _ => (pe_callE (ok_next T) (hr.mono (by decide)) T.o_next (pa_cons (pv 1) (pa_cons (pv 3) pa_nil)))))))
  (pss_one (ps_ret (pe_tup (pa_cons (pv 4) (pa_cons (pv 6) pa_nil)))))))), ?_⟩
    walk_at "rc"
    refine ⟨p, most, rfl, by omega, hS, fun n0 H1 r0 r1 S1 o1 i1 => ?_⟩
    have d1 : Dr p H H1 := ⟨S1, o1, i1.2⟩
    obtain ⟨n1, rfl⟩ := Int.eq_ofNat_of_zero_le r0
    have en : (1 : Int) + (n1 : Int) = ((1 + n1 : Nat) : Int) := by omega
    refine rd_addI ?_
    rw [en]
    have hn : 1 + n1 ≤ 10 := by omega
    have hn0 : 1 + n1 ≤ most := by omega
    generalize hnn : 1 + n1 = n at hn hn0
    have n0 : 0 < n := by omega
    have hs1 : ∀ b ∈ S, ∃ o, H1 b = some o := fun b hb => d1.st' (hs b hb)
    walk_at "rc"
    refine ⟨(n : Int), rfl, by omega, by omega, ?_⟩
    rw [Int.toNat_natCast]
    refine lc_R (K := K) (S := S) (P := fun i x => x = V.int (i : Nat)) (tr_dr S1 hp) hs1 walk_range0 rng_Y (by omega) (fun _ _ => True.intro) (fun i d => ∃ b : Bool, d = .bool b ∧ True) (hg_name fun v => rfl) (fun L i σ2 Hc hi p2 hL nL dc hs up N hN => ?_) fun Lf uf H2 ds d2 hLf nLf huf hdf hlf hRf => ?_
    · obtain ⟨v, rfl, rfl⟩ := p2
      walk_at "rc"
      refine ⟨p, 3, rfl, by decide, dc.st, fun r H3 q0 q1 S3 o3 i3 => ?_⟩
      have d3 : Dr p Hc H3 := ⟨S3, o3, i3.2⟩
      walk_at "rc"
      exact hN _ _ _ d3 (.bl _) ⟨_, rfl, True.intro⟩
    obtain ⟨acc, rfl, _⟩ := map_ofD (f := PyData.bool) ds hRf
    rw [List.length_map] at hlf
    have dH2 := d1.trans d2
    have S2 := d2.st
    have hs2 : ∀ b ∈ S, ∃ o, H2 b = some o := fun b hb => d2.st' (hs1 b hb)
    have fF : Dp K (hid S H2) (.ref Lf) (.list (acc.map PyData.bool)) := Dp.frz huf nLf hdf
    walk_at "rc"
    refine ⟨(n : Int), rfl, by omega, by omega, ?_⟩
    rw [Int.toNat_natCast]
    refine lc_R (K := K) (S := S) (P := fun i x => x = V.int (i : Nat)) (tr_dr S2 hp) hs2 walk_range0 rng_Y (by omega) (fun _ _ => True.intro) (fun i d => ∃ row : List Nat, d = .list (row.map nI) ∧ row.length = ls.length ∧ ∀ x ∈ row, x < n) (hg_name fun v => rfl) (fun L i σ2 Hc hi p2 hL nL dc hsL up N hN => ?_) fun Lt ut H3 ds d3 hLt nLt hut hdt hlt hRt => ?_
    · obtain ⟨v, rfl, rfl⟩ := p2
      have hp1 : p ∈ L :: S := List.mem_cons_of_mem _ hp
      walk_at "rc"
      refine rd_anyS (fun Q q => ⟨_, rfl, q⟩) ?_
      refine lc_R (K := K) (S := L :: S) (P := fun i x => ∃ c, ls.cps.toList[i]? = some c ∧ x = V.str ⟨#[c]⟩) (tr_dr dc.st hp1) hsL walk_str str_Y (by show ls.length < 100000; omega) (fun _ _ => True.intro) (fun i d => ∃ x : Nat, d = nI x ∧ x < n) (hg_name fun v => rfl) (fun L2 i σ2 Hc2 hi2 p2 hL2 nL2 dc2 hsL2 up2 N2 hN2 => ?_) fun Lr ur H4 ds d4 hLr nLr hur hdr hlr hRr => ?_
      · obtain ⟨v, ⟨c, _, rfl⟩, rfl⟩ := p2
        walk_at "rc"
        refine ⟨p, (n : Int), rfl, by omega, dc2.st, fun r H5 q0 q1 S5 o5 i5 => ?_⟩
        have d5 : Dr p Hc2 H5 := ⟨S5, o5, i5.2⟩
        obtain ⟨x, rfl⟩ := Int.eq_ofNat_of_zero_le q0
        exact hN2 _ _ _ d5 (.int _) ⟨x, rfl, by omega⟩
      · obtain ⟨row, rfl, hrow⟩ := map_ofD (f := nI) ds hRr
        rw [List.length_map] at hlr
        exact hN _ _ _ d4 (Dp.frz hur nLr hdr) ⟨row, rfl, hlr, hrow⟩
    obtain ⟨tab, rfl, htab⟩ := map_ofD (f := fun row : List Nat => PyData.list (row.map nI)) ds hRt
    rw [List.length_map] at hlt
    have fT : Dp K (hid S H3) (.ref Lt) (nL tab) := Dp.frz hut nLt hdt
    have dH3 := dH2.trans d3
    walk_at "rc"
    refine ⟨by show 2 ≤ sizeLine; decide, fun qa hqa => ?_⟩
    have nq : qa ∉ S := notin_of (fun b hb => d3.st' (hs2 b hb)) hqa
    have hD : Dp K (hid S (upd H3 qa (.tup [.ref Lf, .ref Lt]))) (.ref qa) (partsN acc tab) := Dp.newT hqa nq (.cons (fF.ex (d3.kp hp).ex) (.cons fT .nil))
    refine q _ acc tab _ hD ⟨by omega, by omega, ⟨by omega, fun row hr x hx => ?_⟩, fun row hr => ?_⟩ (by omega) (fun row hr => (htab row hr).1) (dH3.put hS (dH3.back hS hqa))
    · have := (htab row hr).2 x hx
      omega
    · have := (htab row hr).1
      omega
/-! ### paths and rings of states -/
theorem pth_low {tab : List (List Nat)} {n : Nat} (h : ∀ s t : Nat, t ∈ tab.getD s [] → min (n - 1) (s + 1) ≤ t) : ∀ (k s t : Nat), Pth tab k s t → min (n - 1) (s + k) ≤ t
  | 0, s, t, e => by
    have e' : s = t := e
    omega
  | k + 1, s, t, ⟨u, h1, h2⟩ => by
    have a := h s u h1
    have b := pth_low h k u t h2
    omega
theorem no_long {acc : List Bool} {tab : List (List Nat)} (h : ∀ s t : Nat, t ∈ tab.getD s [] → min (acc.length - 1) (s + 1) ≤ t) (ha : acc[acc.length - 1]? ≠ some true) : ¬ Long acc tab := by
  rintro ⟨k, k0, _, t, hp, ht⟩
  have a := pth_low h k 0 t hp
  have b := (List.getElem?_eq_some_iff.mp ht).1
  have e : t = acc.length - 1 := by omega
  exact ha (by rw [← e]; exact ht)
theorem pth_ex {acc : List Bool} {tab : List (List Nat)} (m : GM acc tab) (h : ∀ s, s < acc.length → ∃ t, t ∈ tab.getD s []) : ∀ (k s : Nat), s < acc.length → ∃ t, t < acc.length ∧ Pth tab k s t
  | 0, s, hs => ⟨s, hs, rfl⟩
  | k + 1, s, hs => by
    obtain ⟨u, hu⟩ := h s hs
    have := (m.g.at' hu).2
    obtain ⟨t, ht, hp⟩ := pth_ex m h k u (by rw [← m.e]; exact this)
    exact ⟨t, ht, u, hu, hp⟩
theorem yes_long {acc : List Bool} {tab : List (List Nat)} (m : GM acc tab) (h : ∀ s t : Nat, t ∈ tab.getD s [] → min (acc.length - 1) (s + 1) ≤ t) (h2 : ∀ s, s < acc.length → ∃ t, t ∈ tab.getD s []) (ha : acc[acc.length - 1]? = some true) : Long acc tab := by
  have mp := m.p
  obtain ⟨t, ht, hp⟩ := pth_ex m h2 acc.length 0 m.p
  have a := pth_low h acc.length 0 t hp
  have e : t = acc.length - 1 := by omega
  exact ⟨acc.length, Nat.le_refl _, by omega, t, hp, by rw [e]; exact ha⟩
theorem ring_pth {tab : List (List Nat)} {n : Nat} (n0 : 0 < n) (h : ∀ s, s < n → (s + 1) % n ∈ tab.getD s []) : ∀ k : Nat, Pth tab k 0 (k % n)
  | 0 => by rw [Nat.zero_mod]; exact rfl
  | k + 1 => by
    refine pth_succ.mpr ⟨k % n, ring_pth n0 h k, ?_⟩
    have := h (k % n) (Nat.mod_lt _ n0)
    rw [Nat.mod_add_mod] at this
    exact this
theorem ring_long {acc : List Bool} {tab : List (List Nat)} {spot : Nat} (h : ∀ s, s < acc.length → (s + 1) % acc.length ∈ tab.getD s []) (hs : spot < acc.length) (ha : acc[spot]? = some true) : Long acc tab := by
  refine ⟨acc.length + spot, by omega, by omega, spot, ?_, ha⟩
  have := ring_pth (by omega) h (acc.length + spot)
  rw [Nat.add_mod_left, Nat.mod_eq_of_lt hs] at this
  exact this
/-- a table by a rule -/
def tabF (n w : Nat) (f : Nat → Nat → Nat) : List (List Nat) := (List.range n).map fun s => (List.range w).map (f s)
theorem tabF_mem {n w : Nat} {f : Nat → Nat → Nat} {s t : Nat} : t ∈ (tabF n w f).getD s [] ↔ s < n ∧ ∃ j, j < w ∧ f s j = t := by
  unfold tabF
  rw [List.getD_eq_getElem?_getD, List.getElem?_map]
  rcases Nat.lt_or_ge s n with h | h
  · rw [List.getElem?_range h]
    show t ∈ (List.range w).map (f s) ↔ _
    rw [List.mem_map]
    exact ⟨fun ⟨j, hj, e⟩ => ⟨h, j, List.mem_range.mp hj, e⟩, fun ⟨_, j, hj, e⟩ => ⟨j, List.mem_range.mpr hj, e⟩⟩
  · rw [List.getElem?_eq_none (by rw [List.length_range]; exact h)]
    exact ⟨fun z => (nomatch z), fun z => absurd z.1 (by omega)⟩
theorem tabF_gm {n w : Nat} {f : Nat → Nat → Nat} {acc : List Bool} (n0 : 0 < n) (n1 : n ≤ 1000) (w1 : w ≤ 100) (h : ∀ s j, s < n → j < w → f s j < n) (ha : acc.length = n) : GM acc (tabF n w f) ∧ ∀ row ∈ tabF n w f, row.length = w := by
  have hl : (tabF n w f).length = n := by unfold tabF; rw [List.length_map, List.length_range]
  have hw : ∀ row ∈ tabF n w f, row.length = w := fun row hr => by
    obtain ⟨s, _, rfl⟩ := List.mem_map.mp hr
    rw [List.length_map, List.length_range]
  refine ⟨⟨by omega, by omega, ⟨by omega, fun row hr x hx => ?_⟩, fun row hr => by rw [hw row hr]; exact w1⟩, hw⟩
  obtain ⟨s, hs, rfl⟩ := List.mem_map.mp hr
  obtain ⟨j, hj, rfl⟩ := List.mem_map.mp hx
  rw [hl]
  exact h s j (List.mem_range.mp hs) (List.mem_range.mp hj)
/-! ### machines out of data -/
def iN (row : List Nat) : List Int := row.map Int.ofNat
theorem dp_iN {H : Hp} {vs : List V} {row : List Nat} (h : DpAll K H vs (row.map nI)) : vs = (iN row).map V.int := by
  rw [dp_nats h]
  unfold iN
  rw [List.map_map]
  rfl
theorem rowsA_D {H : Hp} : ∀ {vs : List V} {tab : List (List Nat)}, DpAll K H vs (tab.map fun row => .list (row.map nI)) → ∃ rs, vs = rs.map V.ref ∧ RowsA K H rs (tab.map iN)
  | _, [], .nil => ⟨[], rfl, .nil⟩
  | _, row :: tab, .cons h t => by
    obtain ⟨rs, rfl, hr⟩ := rowsA_D t
    obtain ⟨a, vs, rfl, h1, h2⟩ := Dp.lstv h
    obtain rfl := dp_iN h2
    exact ⟨a :: rs, rfl, .cons (.inl h1) hr⟩
theorem dp_ofN {H : Hp} : ∀ (row : List Nat), DpAll K H ((iN row).map V.int) (row.map nI)
  | [] => .nil
  | _ :: row => .cons (.int _) (dp_ofN row)
theorem rowsT_D {H : Hp} : ∀ {rs : List Addr} {tab : List (List Nat)}, RowsT K H rs (tab.map iN) → DpAll K H (rs.map V.ref) (tab.map fun row => .tuple (row.map nI))
  | _, [], .nil => .nil
  | _, row :: tab, .cons h t => .cons (.tup h (dp_ofN row)) (rowsT_D t)
theorem MachineAt.D {C : Addr} {H : Hp} {m : Addr} {ls : Str} {acc : List Bool} {tab : List (List Nat)} (h : MachineAt K C H m ls acc (tab.map iN)) : MachD K C H m ls acc tab := by
  obtain ⟨dx, ta, tt, rs, h1, h2, h3, h4⟩ := h
  exact ⟨dx, ta, tt, h1, .tup h2 (dps_bl acc), .tup h3 (rowsT_D h4)⟩
theorem good_N {ls : Str} {acc : List Bool} {tab : List (List Nat)} (g : GM acc tab) (hw : ∀ row ∈ tab, row.length = ls.length) : goodM ls acc (tab.map iN) := by
  have gp := g.p
  refine ⟨by omega, by rw [List.length_map]; exact g.e, fun row hr => ?_⟩
  obtain ⟨r, hr2, rfl⟩ := List.mem_map.mp hr
  refine ⟨by unfold iN; rw [List.length_map]; exact hw r hr2, fun x hx => ?_⟩
  obtain ⟨n, hn, rfl⟩ := List.mem_map.mp hx
  have := g.g.b r hr2 n hn
  have := g.e
  have e : (Int.ofNat n) = (n : Int) := rfl
  rw [e]
  omega
theorem sqa_made {C x dx a : Addr} {H : Hp} (hx : H x = none) (hd : H dx = none) {xs : List V} (h : SqA K H a xs) : SqA K (upd (upd H dx (.own x)) x (.ins C dx [])) a xs :=
  h.ex fun b o q => by rw [upd_ne (ne_of_none q hx), upd_ne (ne_of_none q hd)]; exact q
theorem made_D {x dx : Addr} {va vt : V} {ls : Str} {acc : List Bool} {tab : List (List Nat)} {H : Hp} {Q : VK} {E : XK} (hx : H x = none) (hdx : H dx = none) (ne : dx ≠ x) (l0 : 0 < ls.length) (l1 : ls.length ≤ 1000) (hA : Dp K H va (.list (acc.map PyData.bool))) (hT : Dp K H vt (nL tab)) (g : GM acc tab) (hw : ∀ row ∈ tab, row.length = ls.length)
    (q : ∀ H', Ex H H' → MachD K T.C_Machine H' x ls acc tab → Q .non H') : spMInit T [.ref x, .str ls, va, vt] (upd (upd H dx (.own x)) x (.ins T.C_Machine dx [])) Q E := by
  obtain ⟨pa, vs, rfl, a1, a2⟩ := Dp.lstv hA
  obtain rfl := dp_bls a2
  obtain ⟨pt, ws, rfl, t1, t2⟩ := Dp.lstv hT
  obtain ⟨rs, rfl, hR⟩ := rowsA_D t2
  have e : Ex H (upd (upd H dx (.own x)) x (.ins T.C_Machine dx [])) := fun b o q => by rw [upd_ne (ne_of_none q hx), upd_ne (ne_of_none q hdx)]; exact q
  have gn := g.g.n
  refine ⟨x, dx, pa, pt, ls, acc, rs, tab.map iN, rfl, l0, by omega, upd_same, SqA.ex (.inl a1) e, SqA.ex (.inl t1) e, hR.ex e, by rw [List.length_map]; omega, fun _ H' k hm => ?_, fun z => absurd (good_N g hw) z⟩
  exact q H' (fun b o z => k b o (ne_of_none z hx) (e b o z)) hm.D
/-! ### the law -/
abbrev lvLaw := 10
def spLaw (K : PySem.W.Frag) : Sp := fun vs H Q _ => ∃ (a : Addr) (ns : List Int), vs = [.ref a] ∧ SqL K H a (ns.map V.int) ∧ ns.length ≤ 63 ∧ ∀ H', Q (.bl true) H'
theorem tabF_dp (n w : Nat) (f : Nat → Nat → Nat) : ((List.range n).filter fun _ => true).map (fun s => PyData.list (((List.range w).filter fun _ => true).map fun j => nI (f s j))) = (tabF n w f).map fun row => PyData.list (row.map nI) := by
  rw [List.filter_eq_self.mpr fun _ _ => rfl, List.filter_eq_self.mpr fun _ _ => rfl]
  unfold tabF
  rw [List.map_map]
  refine List.map_congr_left fun s _ => ?_
  show PyData.list _ = PyData.list (((List.range w).map (f s)).map nI)
  rw [List.map_map]
  rfl
theorem ok_law : FnOk P w K mg base CX0 lvLaw T.a_law T.d_law ["script"] (spLaw K) := by
  refine T.f_law.ok sc_law (fun vs H Q E h => ?_) (fun cdv A outer s H vs Q E hr h => ?_)
  · obtain ⟨_, _, rfl, _⟩ := h; rfl
  · obtain ⟨a, ns, rfl, hs, hn, q⟩ := h
    refine ⟨_, (pss_cons (ps_set (i := 1) sc_law.nd rfl (by first | exact Or.inl rfl | exact Or.inr rfl) (pe_callE (ok_state T) (hr.mono (by decide)) T.o_state (pa_cons (pv 0) (pa_cons pe_int (pa_cons pe_int pa_nil)))))
  (pss_cons (ps_set (i := 2) sc_law.nd rfl (by first | exact Or.inl rfl | exact Or.inr rfl) (pe_callE (ok_letters T) (hr.mono (by decide)) T.o_letters (pa_cons (pv 1) (pa_cons pe_int pa_nil))))
  (pss_cons (ps_for PassesOwn.never rfl (pi_range1 (by rfl) T.nb_range (pa_cons pe_int pa_nil)) (pg_name (i := 3) sc_law.nd rfl (by first | exact Or.inl rfl | exact Or.inr rfl))
    (pss_cons (ps_asg (pe_callE (ok_parts T) (hr.mono (by decide)) T.o_parts (pa_cons (pv 2) (pa_cons (pv 1) (pa_cons pe_int pa_nil)))) (kGt K rfl (pg_tup (n := 2) (by rfl) (pgs_cons (pg_name (i := 4) sc_law.nd rfl (by first | exact Or.inl rfl | exact Or.inr rfl)) (pgs_cons (pg_name (i := 5) sc_law.nd rfl (by first | exact Or.inl rfl | exact Or.inr rfl)) pgs_nil)))))
  (pss_one (ps_if (pt_cmpR (kNe K rfl hr.units) (pe_callB call_reprP (by rfl) T.nb_repr (by decide +kernel) (pa_cons (pe_callE (ok_is_finite T) (hr.mono (by decide)) T.o_is_finite (pa_cons (pe_makeR T.mk_Machine (ok_Machine_init T) (hr.mono (by decide)) T.g_Machine T.b_Machine_init takes0 (pa_cons (pv 2) (pa_cons (pv 4) (pa_cons (pv 5) pa_nil)))) pa_nil)) pa_nil)) (pe_callB call_reprP (by rfl) T.nb_repr (by decide +kernel) (pa_cons (pe_not (pe_callE (ok_long T) (hr.mono (by decide)) T.o_long (pa_cons (pv 4) (pa_cons (pv 5) pa_nil)))) pa_nil)) (by first | rfl | exact nomark _))
    (pss_one (ps_ret pe_bl))
    pss_nil))))
  (pss_cons (ps_set (i := 6) sc_law.nd rfl (by first | exact Or.inl rfl | exact Or.inr rfl) (pe_op (kAdd K) pe_int (pe_callE (ok_next T) (hr.mono (by decide)) T.o_next (pa_cons (pv 1) (pa_cons pe_int pa_nil)))))
  (pss_cons (ps_set (i := 4) sc_law.nd rfl (by first | exact Or.inl rfl | exact Or.inr rfl) (pe_op (kAdd K) (pe_lc (own := [("at", 7)]) (g := gName 7) (tt := tYes) (by rfl) sc_law.nd (pi_range1 (by rfl) T.nb_range (pa_cons (pe_op op_subP (pv 6) pe_int) pa_nil)) (blkOk_by (own := [("at", 7)]) (N := ["script", "state", "letters", "k", "accepting", "table", "many", "at", "rows", "j", "spot", "path", "letter", "ring"]) (sc := defScope s_law) (by decide +kernel)) (fun _ _ _ _ _ => (pg_name (i := 7) sc_law.nd rfl (by first | exact Or.inl rfl | exact Or.inr rfl))) (fun _ _ _ _ _ => pts_nil) (fun _ _ _ _ _ => (pe_cmpR (kEq K rfl hr.units) (pe_callE (ok_next T) (hr.mono (by decide)) T.o_next (pa_cons (pv 1) (pa_cons pe_int pa_nil))) pe_int (by first | rfl | exact nomark _)))) (pe_lst (pa_cons pe_bl pa_nil))))
  (pss_cons (ps_setLc (i := 8) (own := [("at", 7)]) (g := gName 7) (tt := tYes) (by rfl) sc_law.nd rfl rfl (sw_true rfl rfl rfl (by decide +kernel)) (pi_range1 (by rfl) T.nb_range (pa_cons (pv 6) pa_nil)) (blkOk_by (own := [("at", 7)]) (N := ["script", "state", "letters", "k", "accepting", "table", "many", "at", "rows", "j", "spot", "path", "letter", "ring"]) (sc := defScope s_law) (by decide +kernel)) (fun _ _ _ _ _ => (pg_name (i := 7) sc_law.nd rfl (by first | exact Or.inl rfl | exact Or.inr rfl))) (fun _ _ _ _ _ => pts_nil) (fun _ _ _ _ _ => (pe_lc (own := [("j", 9)]) (g := gName 9) (tt := tYes) (by rfl) sc_law.nd (pi_range1 (by rfl) T.nb_range (pa_cons (pe_callB (kLen K) (by rfl) T.nb_len (by decide +kernel) (pa_cons (pv 2) pa_nil)) pa_nil)) (by exact blkOk_in (N := ["script", "state", "letters", "k", "accepting", "table", "many", "at", "rows", "j", "spot", "path", "letter", "ring"]) rfl (by decide +kernel)) (fun _ _ _ _ _ => (pg_name (i := 9) sc_law.nd rfl (by first | exact Or.inl rfl | exact Or.inr rfl))) (fun _ _ _ _ _ => pts_nil) (fun _ _ _ _ _ => (pe_callB (call_min2 (by rfl)) (by rfl) T.nb_min (by decide +kernel) (pa_cons (pe_op op_subP (pv 6) pe_int) (pa_cons (pe_op (kAdd K) (pe_op (kAdd K) (pv 7) pe_int) (pe_op op_modP (pv 9) pe_int)) pa_nil)))))))
  (pss_cons (ps_if (pt_not (pt_val (pe_callE (ok_is_finite T) (hr.mono (by decide)) T.o_is_finite (pa_cons (pe_makeR T.mk_Machine (ok_Machine_init T) (hr.mono (by decide)) T.g_Machine T.b_Machine_init takes0 (pa_cons (pv 2) (pa_cons (pv 4) (pa_cons (pv 8) pa_nil)))) pa_nil))))
    (pss_one (ps_ret pe_bl))
    pss_nil)
  (pss_cons (ps_asg pe_bl (pg_sub (pv 4) (pe_op op_subP (pv 6) pe_int) set_list))
  (pss_cons (ps_if (pt_cmpR op_isnot_bl (pe_callE (ok_is_finite T) (hr.mono (by decide)) T.o_is_finite (pa_cons (pe_makeR T.mk_Machine (ok_Machine_init T) (hr.mono (by decide)) T.g_Machine T.b_Machine_init takes0 (pa_cons (pv 2) (pa_cons (pv 4) (pa_cons (pv 8) pa_nil)))) pa_nil)) pe_bl (by first | rfl | exact nomark _))
    (pss_one (ps_ret pe_bl))
    pss_nil)
  (pss_cons (ps_set (i := 6) sc_law.nd rfl (by first | exact Or.inl rfl | exact Or.inr rfl) (pe_op (kAdd K) pe_int (pe_callE (ok_next T) (hr.mono (by decide)) T.o_next (pa_cons (pv 1) (pa_cons pe_int pa_nil)))))
  (pss_cons (ps_set (i := 10) sc_law.nd rfl (by first | exact Or.inl rfl | exact Or.inr rfl) (pe_callE (ok_next T) (hr.mono (by decide)) T.o_next (pa_cons (pv 1) (pa_cons (pe_op op_subP (pv 6) pe_int) pa_nil))))
  (pss_cons (ps_setLc (i := 4) (own := [("at", 7)]) (g := gName 7) (tt := tYes) (by rfl) sc_law.nd rfl rfl (sw_true rfl rfl rfl (by decide +kernel)) (pi_range1 (by rfl) T.nb_range (pa_cons (pv 6) pa_nil)) (blkOk_by (own := [("at", 7)]) (N := ["script", "state", "letters", "k", "accepting", "table", "many", "at", "rows", "j", "spot", "path", "letter", "ring"]) (sc := defScope s_law) (by decide +kernel)) (fun _ _ _ _ _ => (pg_name (i := 7) sc_law.nd rfl (by first | exact Or.inl rfl | exact Or.inr rfl))) (fun _ _ _ _ _ => pts_nil) (fun _ _ _ _ _ => (pe_cmpR (kEq K rfl hr.units) (pv 7) (pv 10) (by first | rfl | exact nomark _))))
  (pss_cons (ps_setLc (i := 11) (own := [("at", 7)]) (g := gName 7) (tt := tYes) (by rfl) sc_law.nd rfl rfl (sw_true rfl rfl rfl (by decide +kernel)) (pi_range1 (by rfl) T.nb_range (pa_cons (pv 6) pa_nil)) (blkOk_by (own := [("at", 7)]) (N := ["script", "state", "letters", "k", "accepting", "table", "many", "at", "rows", "j", "spot", "path", "letter", "ring"]) (sc := defScope s_law) (by decide +kernel)) (fun _ _ _ _ _ => (pg_name (i := 7) sc_law.nd rfl (by first | exact Or.inl rfl | exact Or.inr rfl))) (fun _ _ _ _ _ => pts_nil) (fun _ _ _ _ _ => (pe_lc (own := [("letter", 12)]) (g := gName 12) (tt := tYes) (by rfl) sc_law.nd (kAny K rfl (pv 2)) (by exact blkOk_in (N := ["script", "state", "letters", "k", "accepting", "table", "many", "at", "rows", "j", "spot", "path", "letter", "ring"]) rfl (by decide +kernel)) (fun _ _ _ _ _ => (pg_name (i := 12) sc_law.nd rfl (by first | exact Or.inl rfl | exact Or.inr rfl))) (fun _ _ _ _ _ => pts_nil) (fun _ _ _ _ _ => (pe_callB (call_min2 (by rfl)) (by rfl) T.nb_min (by decide +kernel) (pa_cons (pe_op op_subP (pv 6) pe_int) (pa_cons (pe_op (kAdd K) (pv 7) pe_int) pa_nil)))))))
  (pss_cons (ps_setLc (i := 13) (own := [("at", 7)]) (g := gName 7) (tt := tYes) (by rfl) sc_law.nd rfl rfl (sw_true rfl rfl rfl (by decide +kernel)) (pi_range1 (by rfl) T.nb_range (pa_cons (pv 6) pa_nil)) (blkOk_by (own := [("at", 7)]) (N := ["script", "state", "letters", "k", "accepting", "table", "many", "at", "rows", "j", "spot", "path", "letter", "ring"]) (sc := defScope s_law) (by decide +kernel)) (fun _ _ _ _ _ => (pg_name (i := 7) sc_law.nd rfl (by first | exact Or.inl rfl | exact Or.inr rfl))) (fun _ _ _ _ _ => pts_nil) (fun _ _ _ _ _ => (pe_lc (own := [("letter", 12)]) (g := gName 12) (tt := tYes) (by rfl) sc_law.nd (kAny K rfl (pv 2)) (by exact blkOk_in (N := ["script", "state", "letters", "k", "accepting", "table", "many", "at", "rows", "j", "spot", "path", "letter", "ring"]) rfl (by decide +kernel)) (fun _ _ _ _ _ => (pg_name (i := 12) sc_law.nd rfl (by first | exact Or.inl rfl | exact Or.inr rfl))) (fun _ _ _ _ _ => pts_nil) (fun _ _ _ _ _ => (pe_op op_modP (pe_callTy call_intP (by rfl) T.nb_int (by decide +kernel) (pa_cons (pe_op (kAdd K) (pv 7) pe_int) pa_nil)) (pv 6))))))
  (pss_one (ps_ret (pe_and (pe_cmpR op_is_bl (pe_callE (ok_is_finite T) (hr.mono (by decide)) T.o_is_finite (pa_cons (pe_makeR T.mk_Machine (ok_Machine_init T) (hr.mono (by decide)) T.g_Machine T.b_Machine_init takes0 (pa_cons (pv 2) (pa_cons (pv 4) (pa_cons (pv 11) pa_nil)))) pa_nil)) pe_bl (by first | rfl | exact nomark _)) (pe_one (pe_cmpR op_is_bl (pe_callE (ok_is_finite T) (hr.mono (by decide)) T.o_is_finite (pa_cons (pe_makeR T.mk_Machine (ok_Machine_init T) (hr.mono (by decide)) T.g_Machine T.b_Machine_init takes0 (pa_cons (pv 2) (pa_cons (pv 4) (pa_cons (pv 13) pa_nil)))) pa_nil)) pe_bl (by first | rfl | exact nomark _)))))))))))))))))))), ?_⟩
    walk_at "rc"
    refine ⟨a, ns, 0, 4, rfl, hs, by decide, by decide, by decide, by decide, fun p H1 hp e1 S1 => ?_⟩
    walk_at "rc"
    refine ⟨p, 3, rfl, by decide, by decide, S1, fun ls H2 al d2 => ?_⟩
    have l0 := al.l0
    have l1 := al.l1
    walk_at "rc"
    walk_at "rs"
    walk_at "rc"
    refine ⟨4, rfl, by decide, by decide, ?_⟩
    refine fo_range (n := 4) (fun i σ H' => (∃ k3 k4 k5 k6 k7 k8 k9 k10 k11 k12 k13 : Option V, σ = [some (.ref a), some (.ref p), some (.str ls), k3, k4, k5, k6, k7, k8, k9, k10, k11, k12, k13]) ∧ StAt H' p)
      ⟨⟨_, _, _, _, _, _, _, _, _, _, _, rfl⟩, d2.st⟩ ?_ ?_
    · rintro i σ H3 hi ⟨⟨k3, k4, k5, k6, k7, k8, k9, k10, k11, k12, k13, rfl⟩, S3⟩
      walk_at "rc"
      refine ⟨p, ls, 6, [p], rfl, l0, by omega, by decide, by decide, S3, List.mem_cons_self, st1 S3.some.choose_spec, fun v acc tab H4 hv gm an hw d4 => ?_⟩
      refine rd_gtD hid_ex hv rfl fun xs hxs => ?_
      obtain ⟨va, vt, rfl, hA, hT⟩ := dp2 hxs
      have hA4 := hA.ex hid_ex
      have hT4 := hT.ex hid_ex
      walk_at "rc"
      intro x dx hx hdx ne
      refine made_D T hx hdx ne l0 (by omega) hA4 hT4 gm hw fun H5 e5 hm5 => ⟨rfl, ?_⟩
      refine ⟨x, ls, acc, tab, rfl, hm5, gm, fun b H6 e6 hb => ?_⟩
      walk_at "rc"
      refine rd_reprB ?_
      walk_at "rc"
      refine ⟨va, vt, acc, tab, rfl, hA4.ex (e5.trans e6), hT4.ex (e5.trans e6), gm, by omega, fun row hr => by rw [hw row hr]; omega, fun b2 H7 e7 hb2 => ?_⟩
      walk_at "rc"
      refine rd_reprB ?_
      walk_at "rc"
      have eb : b = !b2 := by
        cases b <;> cases b2
        · exact absurd (hb.mpr fun z => absurd (hb2.mpr z) (by decide)) (by decide)
        · rfl
        · rfl
        · exact absurd (hb2.mp rfl) (hb.mp rfl)
      subst eb
      refine rd_iteN (fun z => absurd rfl z) (fun _ => ?_)
      walk_at "rc"
      exact ⟨⟨_, _, _, _, _, _, _, _, _, _, _, rfl⟩, d4.st.ex ((e5.trans e6).trans e7)⟩
    · rintro σ H3 ⟨⟨k3, k4, k5, k6, k7, k8, k9, k10, k11, k12, k13, rfl⟩, S3⟩
      walk_at "rc"
      refine ⟨p, 30, rfl, by decide, S3, fun r H4 r0 r1 S4 o4 i4 => ?_⟩
      obtain ⟨r, rfl⟩ := Int.eq_ofNat_of_zero_le r0
      have en : (2 : Int) + (r : Int) = ((2 + r : Nat) : Int) := by omega
      refine rd_addI ?_
      rw [en]
      have n2 : 2 ≤ 2 + r := by omega
      have n3 : 2 + r ≤ 32 := by omega
      generalize 2 + r = n at n2 n3
      walk_at "rc"
      have en1 : (n : Int) - 1 = ((n - 1 : Nat) : Int) := by omega
      rw [en1]
      refine ⟨((n - 1 : Nat) : Int), rfl, by omega, by omega, ?_⟩
      rw [Int.toNat_natCast]
      refine lc_R (K := K) (S := [p]) (P := fun i x => x = V.int (i : Nat)) (tr_dr S4 List.mem_cons_self) (st1 S4.some.choose_spec) walk_range0 rng_Y (by omega) (fun _ _ => True.intro) (fun i d => ∃ b : Bool, d = .bool b ∧ True) (hg_name fun v => rfl) (fun L i σ2 Hc hi p2 hL nL dc hs up N hN => ?_) fun L0 u0 H5 ds d5 hL0 nL0 hu0 hd0 hl0 hR0 => ?_
      · obtain ⟨v, rfl, rfl⟩ := p2
        walk_at "rc"
        refine ⟨p, 2, rfl, by decide, dc.st, fun r H3 q0 q1 S3 o3 i3 => ?_⟩
        have d3 : Dr p Hc H3 := ⟨S3, o3, i3.2⟩
        walk_at "rc"
        exact hN _ _ _ d3 (.bl _) ⟨_, rfl, True.intro⟩
      obtain ⟨acc, rfl, _⟩ := map_ofD (f := PyData.bool) ds hR0
      obtain rfl := dp_bls hd0
      rw [List.length_map] at hl0
      have S5 := d5.st
      walk_at "rc"
      refine ⟨by show 1 ≤ sizeLine; decide, fun B0 hB0 => ?_⟩
      have e6 : Ex H5 (upd H5 B0 (.lst [.bl false])) := Evl.Ex.new hB0
      have hB6 : upd H5 B0 (.lst [.bl false]) B0 = some (.lst [.bl false]) := upd_same
      have hL6 := e6 _ _ hu0
      generalize upd H5 B0 (.lst [.bl false]) = H6 at e6 hB6 hL6
      have S6 := S5.ex e6
      have hsl : 1000000 ≤ sizeLine := by decide
      refine .inr (.inr (.inl ⟨L0, B0, _, _, rfl, rfl, hL6, hB6, by rw [List.length_map]; show acc.length + 1 ≤ _; omega, fun A hA => ?_⟩))
      have eap : acc.map V.bl ++ [.bl false] = (acc ++ [false]).map V.bl := by rw [List.map_append]; rfl
      rw [eap]
      have dA : Dr p H6 (upd H6 A (.lst ((acc ++ [false]).map V.bl))) := (Dr.refl S6).put S6 hA
      have hA7 : upd H6 A (.lst ((acc ++ [false]).map V.bl)) A = some (.lst ((acc ++ [false]).map V.bl)) := upd_same
      generalize upd H6 A (.lst ((acc ++ [false]).map V.bl)) = H7 at dA hA7
      walk_at "rc"
      refine ⟨(n : Int), rfl, by omega, by omega, ?_⟩
      rw [Int.toNat_natCast]
      let w := ls.length
      refine lc_F (K := K) (S := [A]) (P := fun i x => x = V.int (i : Nat)) tr_ex (st1 hA7) walk_range0 rng_Y (by omega) (fun _ _ => True.intro) (fun _ => true) (fun s => .list (((List.range ls.length).filter fun _ => true).map fun j => nI (min (n - 1) (s + 1 + j % 2)))) (hg_name fun v => rfl) (fun L i σ2 Hc hi p2 hL nL t1 hs1 up N hN => rd_yes (hN Hc (Evl.Ex.refl Hc))) (fun L i σ2 Hc hi p2 _ hL nL t1 hs1 up N hN => ?_) fun Lr ur H8 e8 hLr nLr hur hdr => ?_
      · obtain ⟨v, rfl, rfl⟩ := p2
        walk_at "rc"
        refine rd_lenS (by omega) ?_
        walk_at "rc"
        refine ⟨(ls.length : Int), rfl, by omega, by omega, ?_⟩
        rw [Int.toNat_natCast]
        refine lc_F (K := K) (S := [L, A]) (P := fun i x => x = V.int (i : Nat)) tr_ex hs1 walk_range0 rng_Y (by omega) (fun _ _ => True.intro) (fun _ => true) (fun j => nI (min (n - 1) (i + 1 + j % 2))) (hg_name fun v => rfl) (fun L i σ2 Hc hi p2 hL nL t1 hs1 up N hN => rd_yes (hN Hc (Evl.Ex.refl Hc))) (fun L2 j σ2 Hc2 hj p2 _ hL2 nL2 t2 hs2 up2 N2 hN2 => ?_) fun Li ui Hi ei hLi nLi hui hdi => ?_
        · obtain ⟨v, rfl, rfl⟩ := p2
          walk_at "rc"
          refine rd_modI (by decide) ?_
          walk_at "rc"
          refine ⟨_, _, rfl, ?_⟩
          have em : (if (i : Int) + 1 + (j : Int).fmod 2 < (n : Int) - 1 then (i : Int) + 1 + (j : Int).fmod 2 else (n : Int) - 1) = ((min (n - 1) (i + 1 + j % 2) : Nat) : Int) := by
            rw [Int.fmod_eq_emod_of_nonneg _ (by decide)]
            split <;> omega
          rw [em]
          exact hN2 _ Hc2 (Evl.Ex.refl Hc2) (.int _)
        · exact hN _ Hi ei (Dp.frz hui nLi hdi)
      rw [tabF_dp] at hdr
      have hA8 := e8 _ _ hA7
      have dT : Dp K (hid [A] H8) (.ref Lr) (nL (tabF n ls.length fun s j => min (n - 1) (s + 1 + j % 2))) := Dp.frz hur nLr hdr
      have al9 : (acc ++ [false]).length = n := by rw [List.length_append, List.length_singleton]; omega
      obtain ⟨gm, hw⟩ := tabF_gm (n := n) (w := ls.length) (f := fun s j => min (n - 1) (s + 1 + j % 2)) (acc := acc ++ [false]) (by omega) (by omega) (by omega) (fun s j hs hj => by omega) al9
      have low : ∀ s t : Nat, t ∈ (tabF n ls.length fun s j => min (n - 1) (s + 1 + j % 2)).getD s [] → min (n - 1) (s + 1) ≤ t := fun s t h => by
        obtain ⟨_, j, _, rfl⟩ := tabF_mem.mp h
        show min (n - 1) (s + 1) ≤ min (n - 1) (s + 1 + j % 2)
        omega
      have full : ∀ s, s < n → ∃ t, t ∈ (tabF n ls.length fun s j => min (n - 1) (s + 1 + j % 2)).getD s [] := fun s hs => ⟨_, tabF_mem.mpr ⟨hs, 0, l0, rfl⟩⟩
      have dA8 : Dp K H8 (.ref A) (.list ((acc ++ [false]).map PyData.bool)) := .lst (SqL.of hA8) (dps_bl _)
      have no1 : ¬ Long (acc ++ [false]) (tabF n ls.length fun s j => min (n - 1) (s + 1 + j % 2)) := by
        refine no_long (by rw [al9]; exact low) ?_
        rw [al9, List.getElem?_append_right (by omega), show n - 1 - acc.length = 0 by omega]
        simp
      generalize tabF n ls.length (fun s j => min (n - 1) (s + 1 + j % 2)) = tab at dT gm hw low full no1
      walk_at "rc"
      walk_at "rs"
      walk_at "rc"
      intro x dx hx hdx ne
      refine made_D T hx hdx ne l0 (by omega) dA8 (dT.ex hid_ex) gm hw fun H9 e9 hm9 => ⟨rfl, ?_⟩
      refine ⟨x, ls, _, tab, rfl, hm9, gm, fun b H10 e10 hb => ?_⟩
      obtain rfl : b = true := hb.mpr no1
      walk_at "rc"
      have e810 := e9.trans e10
      have hA10 := e810 _ _ hA8
      have d610 := dA.ex (e8.trans e810)
      refine ⟨A, _, ((n - 1 : Nat) : Int), n - 1, rfl, by rw [← en1], hA10, ixN_nat (by rw [List.length_map]; omega), ?_⟩
      have d11 := d610.put (o := .lst (((acc ++ [false]).map V.bl).set (n - 1) (.bl true))) S6 hA
      have dT11 := (dT.ex (Ex.hid e810)).ex (Kp.put (S := [A]) (H := H10) (o := .lst (((acc ++ [false]).map V.bl).set (n - 1) (.bl true))) List.mem_cons_self).ex
      have hA11 : upd H10 A (.lst (((acc ++ [false]).map V.bl).set (n - 1) (.bl true))) A = some (.lst (((acc ++ [false]).set (n - 1) true).map V.bl)) := by rw [upd_same, List.map_set]
      generalize upd H10 A (.lst (((acc ++ [false]).map V.bl).set (n - 1) (.bl true))) = H11 at d11 dT11 hA11
      have al11 : ((acc ++ [false]).set (n - 1) true).length = n := by rw [List.length_set]; exact al9
      have gm11 : GM ((acc ++ [false]).set (n - 1) true) tab := ⟨by omega, by rw [gm.e, List.length_set], gm.g, gm.w⟩
      have yes1 : Long ((acc ++ [false]).set (n - 1) true) tab := yes_long gm11 (by rw [al11]; exact low) (by rw [al11]; exact full) (by rw [al11, List.getElem?_set_self (by omega)])
      have dA11 : Dp K H11 (.ref A) (.list (((acc ++ [false]).set (n - 1) true).map PyData.bool)) := .lst (SqL.of hA11) (dps_bl _)
      walk_at "rc"
      walk_at "rs"
      walk_at "rc"
      intro x2 dx2 hx2 hdx2 ne2
      refine made_D T hx2 hdx2 ne2 l0 (by omega) dA11 (dT11.ex hid_ex) gm11 hw fun H12 e12 hm12 => ⟨rfl, ?_⟩
      refine ⟨x2, ls, _, tab, rfl, hm12, gm11, fun b H13 e13 hb2 => ?_⟩
      obtain rfl : b = false := by
        cases b
        · rfl
        · exact absurd yes1 (hb2.mp rfl)
      walk_at "rc"
      refine ⟨false, false, rfl, rfl, ?_⟩
      refine ⟨_, rfl, ?_⟩
      refine rd_itef (by decide) ?_
      have S13 := d11.st.ex (e12.trans e13)
      clear gm hw low full no1 dT hb dT11 gm11 yes1 dA11 d11 d610 hA11 hm12 hm9
      walk_at "rc"
      refine ⟨p, 70, rfl, by decide, S13, fun r H14 r0 r1 S14 o14 i14 => ?_⟩
      obtain ⟨r, rfl⟩ := Int.eq_ofNat_of_zero_le r0
      have en : (2 : Int) + (r : Int) = ((2 + r : Nat) : Int) := by omega
      refine rd_addI ?_
      rw [en]
      have n2 : 2 ≤ 2 + r := by omega
      have n3 : 2 + r ≤ 72 := by omega
      generalize 2 + r = n at n2 n3
      walk_at "rc"
      refine ⟨p, (n : Int) - 1, rfl, by omega, S14, fun sp H15 sp0 sp1 S15 o15 i15 => ?_⟩
      obtain ⟨sp, rfl⟩ := Int.eq_ofNat_of_zero_le sp0
      walk_at "rc"
      refine ⟨(n : Int), rfl, by omega, by omega, ?_⟩
      rw [Int.toNat_natCast]
      refine lc_F (K := K) (S := []) (P := fun i x => x = V.int (i : Nat)) tr_ex (fun b hb => nomatch hb) walk_range0 rng_Y (by omega) (fun _ _ => True.intro) (fun _ => true) (fun i => .bool (decide (i = sp))) (hg_name fun v => rfl) (fun L i σ2 Hc hi p2 hL nL t1 hs1 up N hN => rd_yes (hN Hc (Evl.Ex.refl Hc))) (fun L i σ2 Hc hi p2 _ hL nL t1 hs1 up N hN => ?_) fun La ua H16 e16 hLa nLa hua hda => ?_
      · obtain ⟨v, rfl, rfl⟩ := p2
        walk_at "rc"
        have ed : decide ((i : Int) = (sp : Int)) = decide (i = sp) := by
          rw [Bool.eq_iff_iff, decide_eq_true_iff, decide_eq_true_iff]
          omega
        rw [ed]
        exact hN _ Hc (Evl.Ex.refl Hc) (.bl _)
      have dA := (Dp.frz (K := K) hua nLa hda).ex hid_ex
      have ea : ((List.range n).filter fun _ => true).map (fun i => PyData.bool (decide (i = sp))) = ((List.range n).map fun i => decide (i = sp)).map PyData.bool := by
        rw [List.filter_eq_self.mpr fun _ _ => rfl, List.map_map]
        rfl
      rw [ea] at dA
      have aln : ((List.range n).map fun i => decide (i = sp)).length = n := by rw [List.length_map, List.length_range]
      have aat : ∀ i, i < n → ((List.range n).map fun i => decide (i = sp))[i]? = some (decide (i = sp)) := fun i hi => by rw [List.getElem?_map, List.getElem?_range hi]; rfl
      generalize (List.range n).map (fun i => decide (i = sp)) = acc3 at dA aln aat
      walk_at "rc"
      refine ⟨(n : Int), rfl, by omega, by omega, ?_⟩
      rw [Int.toNat_natCast]
      refine lc_F (K := K) (S := []) (P := fun i x => x = V.int (i : Nat)) tr_ex (fun b hb => nomatch hb) walk_range0 rng_Y (by omega) (fun _ _ => True.intro) (fun _ => true) (fun s => .list (((List.range ls.length).filter fun _ => true).map fun j => nI (min (n - 1) (s + 1)))) (hg_name fun v => rfl) (fun L i σ2 Hc hi p2 hL nL t1 hs1 up N hN => rd_yes (hN Hc (Evl.Ex.refl Hc))) (fun L i σ2 Hc hi p2 _ hL nL t1 hs1 up N hN => ?_) fun Lp upp H17 e17 hLp nLp hup hdp => ?_
      · obtain ⟨v, rfl, rfl⟩ := p2
        walk_at "rc"
        refine rd_anyS (fun Q q => ⟨_, rfl, q⟩) ?_
        refine lc_F (K := K) (S := [L]) (n := ls.cps.size) (P := fun i x => ∃ c, ls.cps.toList[i]? = some c ∧ x = V.str ⟨#[c]⟩) tr_ex hs1 walk_str str_Y (by show ls.length < 100000; omega) (fun _ _ => True.intro) (fun _ => true) (fun j => nI (min (n - 1) (i + 1))) (hg_name fun v => rfl) (fun L i σ2 Hc hi p2 hL nL t1 hs1 up N hN => rd_yes (hN Hc (Evl.Ex.refl Hc))) (fun L2 j σ2 Hc2 hj p2 _ hL2 nL2 t2 hs2 up2 N2 hN2 => ?_) fun Li ui Hi ei hLi nLi hui hdi => ?_
        · obtain ⟨v, ⟨c, _, rfl⟩, rfl⟩ := p2
          walk_at "rc"
          refine ⟨_, _, rfl, ?_⟩
          have em : (if (i : Int) + 1 < (n : Int) - 1 then (i : Int) + 1 else (n : Int) - 1) = ((min (n - 1) (i + 1) : Nat) : Int) := by
            split <;> omega
          rw [em]
          exact hN2 _ Hc2 (Evl.Ex.refl Hc2) (.int _)
        · exact hN _ Hi ei (Dp.frz hui nLi hdi)
      rw [tabF_dp] at hdp
      have dP := (Dp.frz (K := K) hup nLp hdp).ex hid_ex
      walk_at "rc"
      refine ⟨(n : Int), rfl, by omega, by omega, ?_⟩
      rw [Int.toNat_natCast]
      refine lc_F (K := K) (S := []) (P := fun i x => x = V.int (i : Nat)) tr_ex (fun b hb => nomatch hb) walk_range0 rng_Y (by omega) (fun _ _ => True.intro) (fun _ => true) (fun s => .list (((List.range ls.length).filter fun _ => true).map fun j => nI ((s + 1) % n))) (hg_name fun v => rfl) (fun L i σ2 Hc hi p2 hL nL t1 hs1 up N hN => rd_yes (hN Hc (Evl.Ex.refl Hc))) (fun L i σ2 Hc hi p2 _ hL nL t1 hs1 up N hN => ?_) fun Lq upq H18 e18 hLq nLq huq hdq => ?_
      · obtain ⟨v, rfl, rfl⟩ := p2
        walk_at "rc"
        refine rd_anyS (fun Q q => ⟨_, rfl, q⟩) ?_
        refine lc_F (K := K) (S := [L]) (n := ls.cps.size) (P := fun i x => ∃ c, ls.cps.toList[i]? = some c ∧ x = V.str ⟨#[c]⟩) tr_ex hs1 walk_str str_Y (by show ls.length < 100000; omega) (fun _ _ => True.intro) (fun _ => true) (fun j => nI ((i + 1) % n)) (hg_name fun v => rfl) (fun L i σ2 Hc hi p2 hL nL t1 hs1 up N hN => rd_yes (hN Hc (Evl.Ex.refl Hc))) (fun L2 j σ2 Hc2 hj p2 _ hL2 nL2 t2 hs2 up2 N2 hN2 => ?_) fun Li ui Hi ei hLi nLi hui hdi => ?_
        · obtain ⟨v, ⟨c, _, rfl⟩, rfl⟩ := p2
          walk_at "rc"
          refine rd_modI (by omega) ?_
          have em : ((i : Int) + 1).fmod (n : Int) = (((i + 1) % n : Nat) : Int) := by
            rw [Int.fmod_eq_emod_of_nonneg _ (by omega)]
            rfl
          rw [em]
          exact hN2 _ Hc2 (Evl.Ex.refl Hc2) (.int _)
        · exact hN _ Hi ei (Dp.frz hui nLi hdi)
      rw [tabF_dp] at hdq
      have dR := (Dp.frz (K := K) huq nLq hdq).ex hid_ex
      obtain ⟨gP, wP⟩ := tabF_gm (n := n) (w := ls.length) (f := fun s j => min (n - 1) (s + 1)) (acc := acc3) (by omega) (by omega) (by omega) (fun s j hs hj => by omega) aln
      obtain ⟨gR, wR⟩ := tabF_gm (n := n) (w := ls.length) (f := fun s j => (s + 1) % n) (acc := acc3) (by omega) (by omega) (by omega) (fun s j hs hj => Nat.mod_lt _ (by omega)) aln
      have nP : ¬ Long acc3 (tabF n ls.length fun s j => min (n - 1) (s + 1)) := by
        refine no_long (fun s t h => ?_) ?_
        · obtain ⟨_, j, _, rfl⟩ := tabF_mem.mp h
          rw [aln]
          exact Nat.le_refl _
        · rw [aln, aat (n - 1) (by omega), decide_eq_false (by omega)]
          exact fun z => nomatch z
      have yR : Long acc3 (tabF n ls.length fun s j => (s + 1) % n) := by
        refine ring_long (spot := sp) (fun s hs => ?_) (by omega) (by rw [aat sp (by omega), decide_eq_true rfl])
        rw [aln] at hs ⊢
        exact tabF_mem.mpr ⟨hs, 0, l0, rfl⟩
      walk_at "rc"
      refine rd_andV ?_
      walk_at "rc"
      intro x3 dx3 hx3 hdx3 ne3
      have e1618 := e17.trans e18
      refine made_D T hx3 hdx3 ne3 l0 (by omega) (dA.ex e1618) (dP.ex e18) gP wP fun H19 e19 hm19 => ⟨rfl, ?_⟩
      refine ⟨x3, ls, _, _, rfl, hm19, gP, fun b H20 e20 hb3 => ?_⟩
      obtain rfl : b = true := hb3.mpr nP
      walk_at "rc"
      refine ⟨true, true, rfl, rfl, ?_⟩
      refine ⟨_, rfl, ?_⟩
      refine rd_itet (by decide) ?_
      walk_at "rc"
      intro x4 dx4 hx4 hdx4 ne4
      have e1820 := e19.trans e20
      refine made_D T hx4 hdx4 ne4 l0 (by omega) (dA.ex (e1618.trans e1820)) (dR.ex e1820) gR wR fun H21 e21 hm21 => ⟨rfl, ?_⟩
      refine ⟨x4, ls, _, _, rfl, hm21, gR, fun b H22 e22 hb4 => ?_⟩
      obtain rfl : b = false := by
        cases b
        · rfl
        · exact absurd yR (hb4.mp rfl)
      walk_at "rc"
      refine ⟨false, false, rfl, rfl, ?_⟩
      exact q H22
end
theorem all_mk {l : PySem.W.OpenLaw} {w : World} {K : PySem.W.Frag} {h : Heap} {mg : Str → Option Value} {fa : Addr} (X : K.In h) (G : h.Ns mainGlobals mg) (hfa : mg "law" = some (.ref fa))
    {a__wall : Addr} {od__wall an__wall : Option Addr} {sl__wall : Array (Option Value)} {oc__wall kV__wall dc__wall pm__wall cd__wall ct__wall : Value}
    {a_ways_back : Addr} {od_ways_back an_ways_back : Option Addr} {sl_ways_back : Array (Option Value)} {oc_ways_back kV_ways_back dc_ways_back pm_ways_back cd_ways_back ct_ways_back : Value}
    {a_reached : Addr} {od_reached an_reached : Option Addr} {sl_reached : Array (Option Value)} {oc_reached kV_reached dc_reached pm_reached cd_reached ct_reached : Value}
    {a_useful : Addr} {od_useful an_useful : Option Addr} {sl_useful : Array (Option Value)} {oc_useful kV_useful dc_useful pm_useful cd_useful ct_useful : Value}
    {a_is_finite : Addr} {od_is_finite an_is_finite : Option Addr} {sl_is_finite : Array (Option Value)} {oc_is_finite kV_is_finite dc_is_finite pm_is_finite cd_is_finite ct_is_finite : Value}
    {a_cell : Addr} {od_cell an_cell : Option Addr} {sl_cell : Array (Option Value)} {oc_cell kV_cell dc_cell pm_cell cd_cell ct_cell : Value}
    {a_numbers : Addr} {od_numbers an_numbers : Option Addr} {sl_numbers : Array (Option Value)} {oc_numbers kV_numbers dc_numbers pm_numbers cd_numbers ct_numbers : Value}
    {a_state : Addr} {od_state an_state : Option Addr} {sl_state : Array (Option Value)} {oc_state kV_state dc_state pm_state cd_state ct_state : Value}
    {a_next : Addr} {od_next an_next : Option Addr} {sl_next : Array (Option Value)} {oc_next kV_next dc_next pm_next cd_next ct_next : Value}
    {a_letters : Addr} {od_letters an_letters : Option Addr} {sl_letters : Array (Option Value)} {oc_letters kV_letters dc_letters pm_letters cd_letters ct_letters : Value}
    {a_parts : Addr} {od_parts an_parts : Option Addr} {sl_parts : Array (Option Value)} {oc_parts kV_parts dc_parts pm_parts cd_parts ct_parts : Value}
    {a_long : Addr} {od_long an_long : Option Addr} {sl_long : Array (Option Value)} {oc_long kV_long dc_long pm_long cd_long ct_long : Value}
    {a_law : Addr} {od_law an_law : Option Addr} {sl_law : Array (Option Value)} {oc_law kV_law dc_law pm_law cd_law ct_law : Value}
    {C_AnytextError C_MachineError C_BadMachine : Addr}
    {a_init T_init : Addr} {od_init an_init : Option Addr} {sl_init : Array (Option Value)} {oc_init kV_init dc_init pm_init cd_init ct_init : Value} {dd_init : Option Addr} {nn_init : Nat} {sm_init : Array (Option Value)} {oc2_init : Value}
    {nm_BadMachine q_BadMachine : Str} {N_BadMachine : Addr} {bs_BadMachine : List Value} {sn_BadMachine : List Str} {sb_BadMachine : List Value} {ab_BadMachine : Bool} {col_BadMachine : Option Bool} {dd_BadMachine : Option Addr} {m0_BadMachine m1_BadMachine m2_BadMachine m3_BadMachine m5_BadMachine : Option Value}
    {C_Machine : Addr}
    {a_Machine_init : Addr} {od_Machine_init an_Machine_init : Option Addr} {sl_Machine_init : Array (Option Value)} {oc_Machine_init kV_Machine_init dc_Machine_init pm_Machine_init cd_Machine_init ct_Machine_init : Value}
    {a_Machine_check : Addr} {od_Machine_check an_Machine_check : Option Addr} {sl_Machine_check : Array (Option Value)} {oc_Machine_check kV_Machine_check dc_Machine_check pm_Machine_check cd_Machine_check ct_Machine_check : Value}
    {a_Machine_run : Addr} {od_Machine_run an_Machine_run : Option Addr} {sl_Machine_run : Array (Option Value)} {oc_Machine_run kV_Machine_run dc_Machine_run pm_Machine_run cd_Machine_run ct_Machine_run : Value}
    {a_Machine_run_from : Addr} {od_Machine_run_from an_Machine_run_from : Option Addr} {sl_Machine_run_from : Array (Option Value)} {oc_Machine_run_from kV_Machine_run_from dc_Machine_run_from pm_Machine_run_from cd_Machine_run_from ct_Machine_run_from : Value}
    {a_Machine_accepts : Addr} {od_Machine_accepts an_Machine_accepts : Option Addr} {sl_Machine_accepts : Array (Option Value)} {oc_Machine_accepts kV_Machine_accepts dc_Machine_accepts pm_Machine_accepts cd_Machine_accepts ct_Machine_accepts : Value}
    {a_Machine_picture : Addr} {od_Machine_picture an_Machine_picture : Option Addr} {sl_Machine_picture : Array (Option Value)} {oc_Machine_picture kV_Machine_picture dc_Machine_picture pm_Machine_picture cd_Machine_picture ct_Machine_picture : Value}
    (n__wall : PySem.W.nsIn K mainGlobals "_wall" = some (some (.ref a__wall)))
    (l__wall : K.lookup a__wall = some ⟨oc__wall, od__wall, .func (PySem.W.fnOf "_wall" "_wall" (defArgs s__wall) (defBody s__wall) (defScope s__wall) .none kV__wall dc__wall pm__wall an__wall cd__wall ct__wall), sl__wall⟩)
    (c__wall : PySem.W.codeIn K cd__wall "_wall" = true)
    (k__wall : PySem.W.keepIn K (.ref a__wall) = true)
    (n_ways_back : PySem.W.nsIn K mainGlobals "ways_back" = some (some (.ref a_ways_back)))
    (l_ways_back : K.lookup a_ways_back = some ⟨oc_ways_back, od_ways_back, .func (PySem.W.fnOf "ways_back" "ways_back" (defArgs s_ways_back) (defBody s_ways_back) (defScope s_ways_back) .none kV_ways_back dc_ways_back pm_ways_back an_ways_back cd_ways_back ct_ways_back), sl_ways_back⟩)
    (c_ways_back : PySem.W.codeIn K cd_ways_back "ways_back" = true)
    (k_ways_back : PySem.W.keepIn K (.ref a_ways_back) = true)
    (n_reached : PySem.W.nsIn K mainGlobals "reached" = some (some (.ref a_reached)))
    (l_reached : K.lookup a_reached = some ⟨oc_reached, od_reached, .func (PySem.W.fnOf "reached" "reached" (defArgs s_reached) (defBody s_reached) (defScope s_reached) .none kV_reached dc_reached pm_reached an_reached cd_reached ct_reached), sl_reached⟩)
    (c_reached : PySem.W.codeIn K cd_reached "reached" = true)
    (k_reached : PySem.W.keepIn K (.ref a_reached) = true)
    (n_useful : PySem.W.nsIn K mainGlobals "useful" = some (some (.ref a_useful)))
    (l_useful : K.lookup a_useful = some ⟨oc_useful, od_useful, .func (PySem.W.fnOf "useful" "useful" (defArgs s_useful) (defBody s_useful) (defScope s_useful) .none kV_useful dc_useful pm_useful an_useful cd_useful ct_useful), sl_useful⟩)
    (c_useful : PySem.W.codeIn K cd_useful "useful" = true)
    (k_useful : PySem.W.keepIn K (.ref a_useful) = true)
    (n_is_finite : PySem.W.nsIn K mainGlobals "is_finite" = some (some (.ref a_is_finite)))
    (l_is_finite : K.lookup a_is_finite = some ⟨oc_is_finite, od_is_finite, .func (PySem.W.fnOf "is_finite" "is_finite" (defArgs s_is_finite) (defBody s_is_finite) (defScope s_is_finite) .none kV_is_finite dc_is_finite pm_is_finite an_is_finite cd_is_finite ct_is_finite), sl_is_finite⟩)
    (c_is_finite : PySem.W.codeIn K cd_is_finite "is_finite" = true)
    (k_is_finite : PySem.W.keepIn K (.ref a_is_finite) = true)
    (n_cell : PySem.W.nsIn K mainGlobals "_law_cell" = some (some (.ref a_cell)))
    (l_cell : K.lookup a_cell = some ⟨oc_cell, od_cell, .func (PySem.W.fnOf "_law_cell" "_law_cell" (defArgs s_cell) (defBody s_cell) (defScope s_cell) .none kV_cell dc_cell pm_cell an_cell cd_cell ct_cell), sl_cell⟩)
    (c_cell : PySem.W.codeIn K cd_cell "_law_cell" = true)
    (k_cell : PySem.W.keepIn K (.ref a_cell) = true)
    (n_numbers : PySem.W.nsIn K mainGlobals "_law_numbers" = some (some (.ref a_numbers)))
    (l_numbers : K.lookup a_numbers = some ⟨oc_numbers, od_numbers, .func (PySem.W.fnOf "_law_numbers" "_law_numbers" (defArgs s_numbers) (defBody s_numbers) (defScope s_numbers) .none kV_numbers dc_numbers pm_numbers an_numbers cd_numbers ct_numbers), sl_numbers⟩)
    (c_numbers : PySem.W.codeIn K cd_numbers "_law_numbers" = true)
    (k_numbers : PySem.W.keepIn K (.ref a_numbers) = true)
    (n_state : PySem.W.nsIn K mainGlobals "_law_state" = some (some (.ref a_state)))
    (l_state : K.lookup a_state = some ⟨oc_state, od_state, .func (PySem.W.fnOf "_law_state" "_law_state" (defArgs s_state) (defBody s_state) (defScope s_state) .none kV_state dc_state pm_state an_state cd_state ct_state), sl_state⟩)
    (c_state : PySem.W.codeIn K cd_state "_law_state" = true)
    (k_state : PySem.W.keepIn K (.ref a_state) = true)
    (n_next : PySem.W.nsIn K mainGlobals "_law_next" = some (some (.ref a_next)))
    (l_next : K.lookup a_next = some ⟨oc_next, od_next, .func (PySem.W.fnOf "_law_next" "_law_next" (defArgs s_next) (defBody s_next) (defScope s_next) .none kV_next dc_next pm_next an_next cd_next ct_next), sl_next⟩)
    (c_next : PySem.W.codeIn K cd_next "_law_next" = true)
    (k_next : PySem.W.keepIn K (.ref a_next) = true)
    (n_letters : PySem.W.nsIn K mainGlobals "_law_letters" = some (some (.ref a_letters)))
    (l_letters : K.lookup a_letters = some ⟨oc_letters, od_letters, .func (PySem.W.fnOf "_law_letters" "_law_letters" (defArgs s_letters) (defBody s_letters) (defScope s_letters) .none kV_letters dc_letters pm_letters an_letters cd_letters ct_letters), sl_letters⟩)
    (c_letters : PySem.W.codeIn K cd_letters "_law_letters" = true)
    (k_letters : PySem.W.keepIn K (.ref a_letters) = true)
    (n_parts : PySem.W.nsIn K mainGlobals "_law_parts" = some (some (.ref a_parts)))
    (l_parts : K.lookup a_parts = some ⟨oc_parts, od_parts, .func (PySem.W.fnOf "_law_parts" "_law_parts" (defArgs s_parts) (defBody s_parts) (defScope s_parts) .none kV_parts dc_parts pm_parts an_parts cd_parts ct_parts), sl_parts⟩)
    (c_parts : PySem.W.codeIn K cd_parts "_law_parts" = true)
    (k_parts : PySem.W.keepIn K (.ref a_parts) = true)
    (n_long : PySem.W.nsIn K mainGlobals "_law_long" = some (some (.ref a_long)))
    (l_long : K.lookup a_long = some ⟨oc_long, od_long, .func (PySem.W.fnOf "_law_long" "_law_long" (defArgs s_long) (defBody s_long) (defScope s_long) .none kV_long dc_long pm_long an_long cd_long ct_long), sl_long⟩)
    (c_long : PySem.W.codeIn K cd_long "_law_long" = true)
    (k_long : PySem.W.keepIn K (.ref a_long) = true)
    (n_law : PySem.W.nsIn K mainGlobals "law" = some (some (.ref a_law)))
    (l_law : K.lookup a_law = some ⟨oc_law, od_law, .func (PySem.W.fnOf "law" "law" (defArgs s_law) (defBody s_law) (defScope s_law) .none kV_law dc_law pm_law an_law cd_law ct_law), sl_law⟩)
    (c_law : PySem.W.codeIn K cd_law "law" = true)
    (k_law : PySem.W.keepIn K (.ref a_law) = true)
    (n_AnytextError : PySem.W.nsIn K mainGlobals "AnytextError" = some (some (.ref C_AnytextError)))
    (n_MachineError : PySem.W.nsIn K mainGlobals "MachineError" = some (some (.ref C_MachineError)))
    (n_BadMachine : PySem.W.nsIn K mainGlobals "BadMachine" = some (some (.ref C_BadMachine)))
    (ini_BadMachine : PySem.W.findIn K (.ref C_BadMachine) "__init__" = some (some (.ref a_init)))
    (l_init : K.lookup a_init = some ⟨oc_init, od_init, .func (PySem.W.fnOf "__init__" "AnytextError.__init__" (defArgs s_init) (defBody s_init) (defScope s_init) (.ref T_init) kV_init dc_init pm_init an_init cd_init ct_init), sl_init⟩)
    (c_init : PySem.W.codeIn K cd_init "AnytextError.__init__" = true)
    (k_init : PySem.W.keepIn K (.ref a_init) = true)
    (ti_init : PySem.W.typeIn K (.ref a_init) = some (.type "function"))
    (lt_init : K.lookup T_init = some ⟨oc2_init, dd_init, .seq #[.none] nn_init, sm_init⟩)
    (l_BadMachine : K.lookup C_BadMachine = some (excClassObj nm_BadMachine q_BadMachine C_BadMachine N_BadMachine bs_BadMachine [.ref C_MachineError, .ref C_AnytextError, .type "ValueError", .type "Exception", .type "BaseException", .type "object"] true sn_BadMachine sb_BadMachine ab_BadMachine col_BadMachine dd_BadMachine m0_BadMachine m1_BadMachine m2_BadMachine m3_BadMachine m5_BadMachine "ValueError.__new__"))
    (sa_BadMachine : PySem.W.findIn K (.ref C_BadMachine) "__setattr__" = some (some (.builtin "object.__setattr__")))
    (ga_BadMachine : PySem.W.findIn K (.ref C_BadMachine) "__getattribute__" = some (some (.builtin "BaseException.__getattribute__")))
    (gg_BadMachine : PySem.W.findIn K (.ref C_BadMachine) "__getattr__" = some none)
    (nw_BadMachine : PySem.W.findIn K (.ref C_BadMachine) "what" = some none)
    (cc_BadMachine : PySem.W.findIn K (.ref C_BadMachine) "__class__" = some (some (.builtin "object.__class__")))
    (mo_BadMachine : PySem.W.mroIn K C_BadMachine (.type "object") = some true)
    (se_BadMachine : PySem.W.subIn K (.ref C_BadMachine) (.ref C_BadMachine) = some true)
    (kC_BadMachine : PySem.W.keepIn K (.ref C_BadMachine) = true)
    (i_BadMachine : PySem.W.isClsIn K C_BadMachine = true)
    (t_BadMachine : PySem.W.typeIn K (.ref C_BadMachine) = some (.type "type"))
    (e_BadMachine : PySem.W.subIn K (.ref C_BadMachine) (.type "BaseException") = some true)
    (h_BadMachine : PySem.W.hasDictIn K C_BadMachine = true)
    (sp_B : PySem.W.specialIn K (.builtin "object.__class__") "__get__" = some (some (.builtin "getset_descriptor.__get__")))
    (tk_B : PySem.W.takesIn K (.builtin "object.__class__") = some true)
    (n_Machine : PySem.W.nsIn K mainGlobals "Machine" = some (some (.ref C_Machine)))
    (pg_Machine : PySem.W.plainGet K C_Machine Str.empty = true)
    (hd_Machine : PySem.W.hasDictIn K C_Machine = true)
    (po_Machine : PySem.W.plainOver K C_Machine = true)
    (sa_Machine : PySem.W.findIn K (.ref C_Machine) "__setattr__" = some (some (.builtin "object.__setattr__")))
    (mk_Machine : PySem.W.makesIn K C_Machine = true)
    (kc_Machine : PySem.W.keepIn K (.ref C_Machine) = true)
    (na_Machine_letters : PySem.W.findIn K (.ref C_Machine) "letters" = some none)
    (na_Machine_accepting : PySem.W.findIn K (.ref C_Machine) "accepting" = some none)
    (na_Machine_table : PySem.W.findIn K (.ref C_Machine) "table" = some none)
    (i_Machine_init : PySem.W.findIn K (.ref C_Machine) "__init__" = some (some (.ref a_Machine_init)))
    (q_Machine_init : PySem.W.isFn K (.ref a_Machine_init) = true)
    (l_Machine_init : K.lookup a_Machine_init = some ⟨oc_Machine_init, od_Machine_init, .func (PySem.W.fnOf "__init__" "Machine.__init__" (defArgs s_Machine_init) (defBody s_Machine_init) (defScope s_Machine_init) .none kV_Machine_init dc_Machine_init pm_Machine_init an_Machine_init cd_Machine_init ct_Machine_init), sl_Machine_init⟩)
    (c_Machine_init : PySem.W.codeIn K cd_Machine_init "Machine.__init__" = true)
    (k_Machine_init : PySem.W.keepIn K (.ref a_Machine_init) = true)
    (i_Machine_check : PySem.W.findIn K (.ref C_Machine) "check" = some (some (.ref a_Machine_check)))
    (q_Machine_check : PySem.W.isFn K (.ref a_Machine_check) = true)
    (l_Machine_check : K.lookup a_Machine_check = some ⟨oc_Machine_check, od_Machine_check, .func (PySem.W.fnOf "check" "Machine.check" (defArgs s_Machine_check) (defBody s_Machine_check) (defScope s_Machine_check) .none kV_Machine_check dc_Machine_check pm_Machine_check an_Machine_check cd_Machine_check ct_Machine_check), sl_Machine_check⟩)
    (c_Machine_check : PySem.W.codeIn K cd_Machine_check "Machine.check" = true)
    (k_Machine_check : PySem.W.keepIn K (.ref a_Machine_check) = true)
    (i_Machine_run : PySem.W.findIn K (.ref C_Machine) "run" = some (some (.ref a_Machine_run)))
    (q_Machine_run : PySem.W.isFn K (.ref a_Machine_run) = true)
    (l_Machine_run : K.lookup a_Machine_run = some ⟨oc_Machine_run, od_Machine_run, .func (PySem.W.fnOf "run" "Machine.run" (defArgs s_Machine_run) (defBody s_Machine_run) (defScope s_Machine_run) .none kV_Machine_run dc_Machine_run pm_Machine_run an_Machine_run cd_Machine_run ct_Machine_run), sl_Machine_run⟩)
    (c_Machine_run : PySem.W.codeIn K cd_Machine_run "Machine.run" = true)
    (k_Machine_run : PySem.W.keepIn K (.ref a_Machine_run) = true)
    (i_Machine_run_from : PySem.W.findIn K (.ref C_Machine) "run_from" = some (some (.ref a_Machine_run_from)))
    (q_Machine_run_from : PySem.W.isFn K (.ref a_Machine_run_from) = true)
    (l_Machine_run_from : K.lookup a_Machine_run_from = some ⟨oc_Machine_run_from, od_Machine_run_from, .func (PySem.W.fnOf "run_from" "Machine.run_from" (defArgs s_Machine_run_from) (defBody s_Machine_run_from) (defScope s_Machine_run_from) .none kV_Machine_run_from dc_Machine_run_from pm_Machine_run_from an_Machine_run_from cd_Machine_run_from ct_Machine_run_from), sl_Machine_run_from⟩)
    (c_Machine_run_from : PySem.W.codeIn K cd_Machine_run_from "Machine.run_from" = true)
    (k_Machine_run_from : PySem.W.keepIn K (.ref a_Machine_run_from) = true)
    (i_Machine_accepts : PySem.W.findIn K (.ref C_Machine) "accepts" = some (some (.ref a_Machine_accepts)))
    (q_Machine_accepts : PySem.W.isFn K (.ref a_Machine_accepts) = true)
    (l_Machine_accepts : K.lookup a_Machine_accepts = some ⟨oc_Machine_accepts, od_Machine_accepts, .func (PySem.W.fnOf "accepts" "Machine.accepts" (defArgs s_Machine_accepts) (defBody s_Machine_accepts) (defScope s_Machine_accepts) .none kV_Machine_accepts dc_Machine_accepts pm_Machine_accepts an_Machine_accepts cd_Machine_accepts ct_Machine_accepts), sl_Machine_accepts⟩)
    (c_Machine_accepts : PySem.W.codeIn K cd_Machine_accepts "Machine.accepts" = true)
    (k_Machine_accepts : PySem.W.keepIn K (.ref a_Machine_accepts) = true)
    (i_Machine_picture : PySem.W.findIn K (.ref C_Machine) "picture" = some (some (.ref a_Machine_picture)))
    (q_Machine_picture : PySem.W.isFn K (.ref a_Machine_picture) = true)
    (l_Machine_picture : K.lookup a_Machine_picture = some ⟨oc_Machine_picture, od_Machine_picture, .func (PySem.W.fnOf "picture" "Machine.picture" (defArgs s_Machine_picture) (defBody s_Machine_picture) (defScope s_Machine_picture) .none kV_Machine_picture dc_Machine_picture pm_Machine_picture an_Machine_picture cd_Machine_picture ct_Machine_picture), sl_Machine_picture⟩)
    (c_Machine_picture : PySem.W.codeIn K cd_Machine_picture "Machine.picture" = true)
    (k_Machine_picture : PySem.W.keepIn K (.ref a_Machine_picture) = true)
    (z_abs : PySem.W.nsIn K mainGlobals "abs" = some none)
    (z_any : PySem.W.nsIn K mainGlobals "any" = some none)
    (z_enumerate : PySem.W.nsIn K mainGlobals "enumerate" = some none)
    (z_int : PySem.W.nsIn K mainGlobals "int" = some none)
    (z_len : PySem.W.nsIn K mainGlobals "len" = some none)
    (z_list : PySem.W.nsIn K mainGlobals "list" = some none)
    (z_max : PySem.W.nsIn K mainGlobals "max" = some none)
    (z_min : PySem.W.nsIn K mainGlobals "min" = some none)
    (z_range : PySem.W.nsIn K mainGlobals "range" = some none)
    (z_repr : PySem.W.nsIn K mainGlobals "repr" = some none)
    (z_tuple : PySem.W.nsIn K mainGlobals "tuple" = some none)
    : ∃ fd : FuncData, (∀ (s : Shared) (v : Value), BindsTo s fd ⟨[v], []⟩ [("script", v)]) ∧ ∀ base : Heap, K.In base → base.Ns mainGlobals mg → FnOk l.prog w K mg base CX0 lvLaw fa fd ["script"] (spLaw K) := by
  have e := hfa.symm.trans (PySem.W.mg_of X G n_law)
  cases e
  have f__wall := fun_mk (st := s__wall) l__wall c__wall k__wall
  have b__wall := f__wall.binds (ps := ["k"]) fun _ _ _ _ _ _ us hl => match us, hl with | [_], _ => rfl
  have f_ways_back := fun_mk (st := s_ways_back) l_ways_back c_ways_back k_ways_back
  have b_ways_back := f_ways_back.binds (ps := ["nexts"]) fun _ _ _ _ _ _ us hl => match us, hl with | [_], _ => rfl
  have f_reached := fun_mk (st := s_reached) l_reached c_reached k_reached
  have b_reached := f_reached.binds (ps := ["starts", "nexts"]) fun _ _ _ _ _ _ us hl => match us, hl with | [_, _], _ => rfl
  have f_useful := fun_mk (st := s_useful) l_useful c_useful k_useful
  have b_useful := f_useful.binds (ps := ["machine"]) fun _ _ _ _ _ _ us hl => match us, hl with | [_], _ => rfl
  have f_is_finite := fun_mk (st := s_is_finite) l_is_finite c_is_finite k_is_finite
  have b_is_finite := f_is_finite.binds (ps := ["machine"]) fun _ _ _ _ _ _ us hl => match us, hl with | [_], _ => rfl
  have f_cell := fun_mk (st := s_cell) l_cell c_cell k_cell
  have b_cell := f_cell.binds (ps := ["script", "k"]) fun _ _ _ _ _ _ us hl => match us, hl with | [_, _], _ => rfl
  have f_numbers := fun_mk (st := s_numbers) l_numbers c_numbers k_numbers
  have b_numbers := f_numbers.binds (ps := ["cell", "many"]) fun _ _ _ _ _ _ us hl => match us, hl with | [_, _], _ => rfl
  have f_state := fun_mk (st := s_state) l_state c_state k_state
  have b_state := f_state.binds (ps := ["script", "start", "many"]) fun _ _ _ _ _ _ us hl => match us, hl with | [_, _, _], _ => rfl
  have f_next := fun_mk (st := s_next) l_next c_next k_next
  have b_next := f_next.binds (ps := ["state", "many"]) fun _ _ _ _ _ _ us hl => match us, hl with | [_, _], _ => rfl
  have f_letters := fun_mk (st := s_letters) l_letters c_letters k_letters
  have b_letters := f_letters.binds (ps := ["state", "most"]) fun _ _ _ _ _ _ us hl => match us, hl with | [_, _], _ => rfl
  have f_parts := fun_mk (st := s_parts) l_parts c_parts k_parts
  have b_parts := f_parts.binds (ps := ["letters", "state", "most"]) fun _ _ _ _ _ _ us hl => match us, hl with | [_, _, _], _ => rfl
  have f_long := fun_mk (st := s_long) l_long c_long k_long
  have b_long := f_long.binds (ps := ["accepting", "table"]) fun _ _ _ _ _ _ us hl => match us, hl with | [_, _], _ => rfl
  have f_law := fun_mk (st := s_law) l_law c_law k_law
  have b_law := f_law.binds (ps := ["script"]) fun _ _ _ _ _ _ us hl => match us, hl with | [_], _ => rfl
  have f_Machine_init := fun_mk (st := s_Machine_init) l_Machine_init c_Machine_init k_Machine_init
  have b_Machine_init := f_Machine_init.binds (ps := ["self", "letters", "accepting", "table"]) fun _ _ _ _ _ _ us hl => match us, hl with | [_, _, _, _], _ => rfl
  have f_Machine_check := fun_mk (st := s_Machine_check) l_Machine_check c_Machine_check k_Machine_check
  have b_Machine_check := f_Machine_check.binds (ps := ["self"]) fun _ _ _ _ _ _ us hl => match us, hl with | [_], _ => rfl
  have f_Machine_run := fun_mk (st := s_Machine_run) l_Machine_run c_Machine_run k_Machine_run
  have b_Machine_run := f_Machine_run.binds (ps := ["self", "text"]) fun _ _ _ _ _ _ us hl => match us, hl with | [_, _], _ => rfl
  have f_Machine_run_from := fun_mk (st := s_Machine_run_from) l_Machine_run_from c_Machine_run_from k_Machine_run_from
  have b_Machine_run_from := f_Machine_run_from.binds (ps := ["self", "state", "text"]) fun _ _ _ _ _ _ us hl => match us, hl with | [_, _, _], _ => rfl
  have f_Machine_accepts := fun_mk (st := s_Machine_accepts) l_Machine_accepts c_Machine_accepts k_Machine_accepts
  have b_Machine_accepts := f_Machine_accepts.binds (ps := ["self", "text"]) fun _ _ _ _ _ _ us hl => match us, hl with | [_, _], _ => rfl
  have f_Machine_picture := fun_mk (st := s_Machine_picture) l_Machine_picture c_Machine_picture k_Machine_picture
  have b_Machine_picture := f_Machine_picture.binds (ps := ["self"]) fun _ _ _ _ _ _ us hl => match us, hl with | [_], _ => rfl
  have fI : FunD K "__init__" "AnytextError.__init__" (defArgs s_init) (defBody s_init) (defScope s_init) [.non] [] a_init _ := ⟨⟨oc_init, od_init, .ref T_init, kV_init, dc_init, pm_init, an_init, cd_init, ct_init, sl_init, rfl, l_init, c_init, .inr ⟨(fun z => nomatch z), T_init, _, [.none], nn_init, rfl, lt_init, rfl, .cons rfl .nil⟩, .inl rfl⟩, k_init⟩
  have bI0 := fI.binds1 (ps := ["self", "what"]) 2 1 (fun z => nomatch z) rfl fun T kV doc pm an cdv ct us its hu hi => match us, hu, its, hi with | [_, _], _, [_], _ => ⟨_, rfl, rfl⟩
  have bI : Binds K (PySem.W.fnOf "__init__" "AnytextError.__init__" (defArgs s_init) (defBody s_init) (defScope s_init) (.ref T_init) kV_init dc_init pm_init an_init cd_init ct_init) ["self", "what"] [] := by
    obtain ⟨ds, hv, hb⟩ := bI0
    cases hv
    exact hb
  let T : Txt K mg := {
    C_Machine := C_Machine, g_Machine := PySem.W.mg_of X G n_Machine, cl_Machine := ⟨pg_Machine, hd_Machine, po_Machine, sa_Machine⟩,
    na_Machine_letters := na_Machine_letters,
    na_Machine_accepting := na_Machine_accepting,
    na_Machine_table := na_Machine_table,
    a_Machine_init := a_Machine_init, d_Machine_init := _, f_Machine_init := f_Machine_init, b_Machine_init := b_Machine_init,
    mk_Machine := ⟨mk_Machine, i_Machine_init, q_Machine_init, kc_Machine⟩,
    a_Machine_check := a_Machine_check, d_Machine_check := _, f_Machine_check := f_Machine_check, b_Machine_check := b_Machine_check,
    m_Machine_check := ⟨i_Machine_check, q_Machine_check, k_Machine_check⟩,
    a_Machine_run := a_Machine_run, d_Machine_run := _, f_Machine_run := f_Machine_run, b_Machine_run := b_Machine_run,
    m_Machine_run := ⟨i_Machine_run, q_Machine_run, k_Machine_run⟩,
    a_Machine_run_from := a_Machine_run_from, d_Machine_run_from := _, f_Machine_run_from := f_Machine_run_from, b_Machine_run_from := b_Machine_run_from,
    m_Machine_run_from := ⟨i_Machine_run_from, q_Machine_run_from, k_Machine_run_from⟩,
    a_Machine_accepts := a_Machine_accepts, d_Machine_accepts := _, f_Machine_accepts := f_Machine_accepts, b_Machine_accepts := b_Machine_accepts,
    m_Machine_accepts := ⟨i_Machine_accepts, q_Machine_accepts, k_Machine_accepts⟩,
    a_Machine_picture := a_Machine_picture, d_Machine_picture := _, f_Machine_picture := f_Machine_picture, b_Machine_picture := b_Machine_picture,
    m_Machine_picture := ⟨i_Machine_picture, q_Machine_picture, k_Machine_picture⟩,
    a__wall := a__wall, d__wall := _, f__wall := f__wall, o__wall := ⟨PySem.W.mg_of X G n__wall, k__wall, b__wall⟩,
    a_ways_back := a_ways_back, d_ways_back := _, f_ways_back := f_ways_back, o_ways_back := ⟨PySem.W.mg_of X G n_ways_back, k_ways_back, b_ways_back⟩,
    a_reached := a_reached, d_reached := _, f_reached := f_reached, o_reached := ⟨PySem.W.mg_of X G n_reached, k_reached, b_reached⟩,
    a_useful := a_useful, d_useful := _, f_useful := f_useful, o_useful := ⟨PySem.W.mg_of X G n_useful, k_useful, b_useful⟩,
    a_is_finite := a_is_finite, d_is_finite := _, f_is_finite := f_is_finite, o_is_finite := ⟨PySem.W.mg_of X G n_is_finite, k_is_finite, b_is_finite⟩,
    a_cell := a_cell, d_cell := _, f_cell := f_cell, o_cell := ⟨PySem.W.mg_of X G n_cell, k_cell, b_cell⟩,
    a_numbers := a_numbers, d_numbers := _, f_numbers := f_numbers, o_numbers := ⟨PySem.W.mg_of X G n_numbers, k_numbers, b_numbers⟩,
    a_state := a_state, d_state := _, f_state := f_state, o_state := ⟨PySem.W.mg_of X G n_state, k_state, b_state⟩,
    a_next := a_next, d_next := _, f_next := f_next, o_next := ⟨PySem.W.mg_of X G n_next, k_next, b_next⟩,
    a_letters := a_letters, d_letters := _, f_letters := f_letters, o_letters := ⟨PySem.W.mg_of X G n_letters, k_letters, b_letters⟩,
    a_parts := a_parts, d_parts := _, f_parts := f_parts, o_parts := ⟨PySem.W.mg_of X G n_parts, k_parts, b_parts⟩,
    a_long := a_long, d_long := _, f_long := f_long, o_long := ⟨PySem.W.mg_of X G n_long, k_long, b_long⟩,
    a_law := _, d_law := _, f_law := f_law, o_law := ⟨PySem.W.mg_of X G n_law, k_law, b_law⟩,
    a_init := a_init, d_init := _, T_init := T_init, f_init := fI, tI := ti_init, bI := bI,
    C_AnytextError := C_AnytextError,
    C_MachineError := C_MachineError,
    C_BadMachine := C_BadMachine,
    g_BadMachine := PySem.W.mg_of X G n_BadMachine,
    x_BadMachine := ⟨⟨⟨nm_BadMachine, q_BadMachine, N_BadMachine, bs_BadMachine, _, sn_BadMachine, sb_BadMachine, ab_BadMachine, col_BadMachine, dd_BadMachine, m0_BadMachine, m1_BadMachine, m2_BadMachine, m3_BadMachine, m5_BadMachine, l_BadMachine, by rfl⟩, sa_BadMachine, e_BadMachine, t_BadMachine, kC_BadMachine⟩, ⟨ga_BadMachine, gg_BadMachine, e_BadMachine, h_BadMachine⟩, nw_BadMachine, ini_BadMachine, i_BadMachine, cc_BadMachine, mo_BadMachine, se_BadMachine⟩,
    clsB := ⟨sp_B, tk_B⟩,
    nb_abs := PySem.W.mg_none_of X G z_abs,
    nb_any := PySem.W.mg_none_of X G z_any,
    nb_enumerate := PySem.W.mg_none_of X G z_enumerate,
    nb_int := PySem.W.mg_none_of X G z_int,
    nb_len := PySem.W.mg_none_of X G z_len,
    nb_list := PySem.W.mg_none_of X G z_list,
    nb_max := PySem.W.mg_none_of X G z_max,
    nb_min := PySem.W.mg_none_of X G z_min,
    nb_range := PySem.W.mg_none_of X G z_range,
    nb_repr := PySem.W.mg_none_of X G z_repr,
    nb_tuple := PySem.W.mg_none_of X G z_tuple }
  exact ⟨T.d_law, fun s v => .of_eq rfl, fun base _ _ => ok_law T⟩
end AT
open PySem PySem.W PyProof.Rows
set_option maxRecDepth 100000 in
set_option maxHeartbeats 0 in
theorem PySem.Challenge.cw_anytext_k14_finitely_many_holds : PySem.Challenge.rw_anytext_k14_finitely_many.Holds := by
  w_on; o_law; k_head; (case hw => w_witness2)
  k_fill
  refine L2.walk_ofK (l := PySem.Challenge.rw_anytext_k14_finitely_many) (n := 63) (k := AT.lvLaw) (x := "script") (CX := L2.CX0) (sp := AT.spLaw) rfl (by decide) rfl ⟨rfl, by decide, by decide⟩ (fun w h Y => PySem.W.kIn_of Y) ?F (fun _ _ a ns hl _ hS => ⟨a, ns, rfl, hS, hl, fun _ => rfl⟩) fun _ _ _ _ z => z
  case F =>
    intro w mg fa h KX G hmg
    refine' AT.all_mk KX G hmg ?n__wall ?l__wall ?c__wall ?k__wall ?n_ways_back ?l_ways_back ?c_ways_back ?k_ways_back ?n_reached ?l_reached ?c_reached ?k_reached ?n_useful ?l_useful ?c_useful ?k_useful ?n_is_finite ?l_is_finite ?c_is_finite ?k_is_finite ?n_cell ?l_cell ?c_cell ?k_cell ?n_numbers ?l_numbers ?c_numbers ?k_numbers ?n_state ?l_state ?c_state ?k_state ?n_next ?l_next ?c_next ?k_next ?n_letters ?l_letters ?c_letters ?k_letters ?n_parts ?l_parts ?c_parts ?k_parts ?n_long ?l_long ?c_long ?k_long ?n_law ?l_law ?c_law ?k_law ?n_AnytextError ?n_MachineError ?n_BadMachine ?ini_BadMachine ?l_init ?c_init ?k_init ?ti_init ?lt_init ?l_BadMachine ?sa_BadMachine ?ga_BadMachine ?gg_BadMachine ?nw_BadMachine ?cc_BadMachine ?mo_BadMachine ?se_BadMachine ?kC_BadMachine ?i_BadMachine ?t_BadMachine ?e_BadMachine ?h_BadMachine ?sp_B ?tk_B ?n_Machine ?pg_Machine ?hd_Machine ?po_Machine ?sa_Machine ?mk_Machine ?kc_Machine ?na_Machine_letters ?na_Machine_accepting ?na_Machine_table ?i_Machine_init ?q_Machine_init ?l_Machine_init ?c_Machine_init ?k_Machine_init ?i_Machine_check ?q_Machine_check ?l_Machine_check ?c_Machine_check ?k_Machine_check ?i_Machine_run ?q_Machine_run ?l_Machine_run ?c_Machine_run ?k_Machine_run ?i_Machine_run_from ?q_Machine_run_from ?l_Machine_run_from ?c_Machine_run_from ?k_Machine_run_from ?i_Machine_accepts ?q_Machine_accepts ?l_Machine_accepts ?c_Machine_accepts ?k_Machine_accepts ?i_Machine_picture ?q_Machine_picture ?l_Machine_picture ?c_Machine_picture ?k_Machine_picture ?z_abs ?z_any ?z_enumerate ?z_int ?z_len ?z_list ?z_max ?z_min ?z_range ?z_repr ?z_tuple
    (case n__wall => k_is); (case l__wall => k_is); (case c__wall => k_is); (case k__wall => k_is); (case n_ways_back => k_is); (case l_ways_back => k_is)
    (case c_ways_back => k_is); (case k_ways_back => k_is); (case n_reached => k_is); (case l_reached => k_is); (case c_reached => k_is); (case k_reached => k_is)
    (case n_useful => k_is); (case l_useful => k_is); (case c_useful => k_is); (case k_useful => k_is); (case n_is_finite => k_is); (case l_is_finite => k_is)
    (case c_is_finite => k_is); (case k_is_finite => k_is); (case n_cell => k_is); (case l_cell => k_is); (case c_cell => k_is); (case k_cell => k_is)
    (case n_numbers => k_is); (case l_numbers => k_is); (case c_numbers => k_is); (case k_numbers => k_is); (case n_state => k_is); (case l_state => k_is)
    (case c_state => k_is); (case k_state => k_is); (case n_next => k_is); (case l_next => k_is); (case c_next => k_is); (case k_next => k_is)
    (case n_letters => k_is); (case l_letters => k_is); (case c_letters => k_is); (case k_letters => k_is); (case n_parts => k_is); (case l_parts => k_is)
    (case c_parts => k_is); (case k_parts => k_is); (case n_long => k_is); (case l_long => k_is); (case c_long => k_is); (case k_long => k_is)
    (case n_law => k_is); (case l_law => k_is); (case c_law => k_is); (case k_law => k_is); (case n_AnytextError => k_is); (case n_MachineError => k_is)
    (case n_BadMachine => k_is); (case ini_BadMachine => k_is); (case l_init => k_is); (case c_init => k_is); (case k_init => k_is); (case ti_init => k_is)
    (case lt_init => k_is); (case l_BadMachine => k_is); (case sa_BadMachine => k_is); (case ga_BadMachine => k_is); (case gg_BadMachine => k_is); (case nw_BadMachine => k_is)
    (case cc_BadMachine => k_is); (case mo_BadMachine => k_is); (case se_BadMachine => k_is); (case kC_BadMachine => k_is); (case i_BadMachine => k_is); (case t_BadMachine => k_is)
    (case e_BadMachine => k_is); (case h_BadMachine => k_is); (case sp_B => k_is); (case tk_B => k_is); (case n_Machine => k_is); (case pg_Machine => k_is)
    (case hd_Machine => k_is); (case po_Machine => k_is); (case sa_Machine => k_is); (case mk_Machine => k_is); (case kc_Machine => k_is); (case na_Machine_letters => k_is)
    (case na_Machine_accepting => k_is); (case na_Machine_table => k_is); (case i_Machine_init => k_is); (case q_Machine_init => k_is); (case l_Machine_init => k_is); (case c_Machine_init => k_is)
    (case k_Machine_init => k_is); (case i_Machine_check => k_is); (case q_Machine_check => k_is); (case l_Machine_check => k_is); (case c_Machine_check => k_is); (case k_Machine_check => k_is)
    (case i_Machine_run => k_is); (case q_Machine_run => k_is); (case l_Machine_run => k_is); (case c_Machine_run => k_is); (case k_Machine_run => k_is); (case i_Machine_run_from => k_is)
    (case q_Machine_run_from => k_is); (case l_Machine_run_from => k_is); (case c_Machine_run_from => k_is); (case k_Machine_run_from => k_is); (case i_Machine_accepts => k_is); (case q_Machine_accepts => k_is)
    (case l_Machine_accepts => k_is); (case c_Machine_accepts => k_is); (case k_Machine_accepts => k_is); (case i_Machine_picture => k_is); (case q_Machine_picture => k_is); (case l_Machine_picture => k_is)
    (case c_Machine_picture => k_is); (case k_Machine_picture => k_is); (case z_abs => k_is); (case z_any => k_is); (case z_enumerate => k_is); (case z_int => k_is)
    (case z_len => k_is); (case z_list => k_is); (case z_max => k_is); (case z_min => k_is); (case z_range => k_is); (case z_repr => k_is)
    (case z_tuple => k_is)

