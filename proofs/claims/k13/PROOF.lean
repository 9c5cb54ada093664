import PyProof.Rows.All
import Wide.All
import OpenK.AllK
import Wide.FinOn
import HandS.ForMost
import HandS.ForExc
import HandS.Walk
import HandS.Evl
import HandS.ExcInit
import HandS.ExcField
import HandS.ExcIs
import HandS.IsInst
import HandS.RaiseMore
import HandS.TupAny
import HandS.TryOnly
import HandS.Defaults
import HandS.Steps
import KE.KExcIs
import HandS.TupMul
import PyProof.ReprRoads
import HandS.Replace
import KE.DataMinMax
import KE.DataCmp
import PyProof.StrBlock2
import HandS.Ends
import HandS.Style
import KE.KDictDisplayH
import PyProof.Draws
import PyProof.EnumMake
import PyProof.WalksMore
import HandS.Zip0
import HandS.DictComp
import HandS.TupLe
import HandS.Nested
import HandS.NestedK
import HandS.EndTab
import HandS.HeadWalk
import KE.KNestM
import HandS.Rev
import HandS.MapObj
import PyProof.StrWalks
import PyProof.JoinWalk
import HandS.Strs
import HandS.Conv
import PySem.Challenge.RW_anytext_k13_least_texts
set_option Elab.async false
set_option linter.all false
set_option maxRecDepth 100000
set_option maxHeartbeats 4000000
/-! own words: readings step by step, operators by several kinds of values -/
namespace AT
open PySem PySem.Spec PyProof.Rows L2
abbrev Ex := Evl.Ex
section
variable {X : Cx} {f : Value → Value → Sem Value} {r r' : R2}
theorem OpR.or (h : OpR X f r) (h' : OpR X f r') : OpR X f (fun x y H Q => r x y H Q ∨ r' x y H Q) := by
  intro pins s σ H x y v u Q I rx ry q
  rcases q with q | q
  · exact h pins s σ H x y v u Q I rx ry q
  · exact h' pins s σ H x y v u Q I rx ry q
theorem CallR.or {f : Value} {r r' : List V → Hp → VK → Prop} (h : CallR X f r) (h' : CallR X f r') : CallR X f (fun x H Q => r x H Q ∨ r' x H Q) := by
  intro pins s σ H x us Q I rx q
  rcases q with q | q
  · exact h pins s σ H x us Q I rx q
  · exact h' pins s σ H x us Q I rx q
end
/-! ### operators -/
/-- + of ints, of texts, of lists -/
def oAdd (K : PySem.W.Frag) : R2 := fun x y H Q => (rI0 (fun i j => .int (i + j)) x y H Q) ∨ (∃ i j : Str, x = .str i ∧ y = .str j ∧ i.length + j.length ≤ sizeLine ∧ Q (.str (i ++ j)) H) ∨ rCat x y H Q ∨ rCatT K x y H Q
theorem op_addP {X : Cx} : OpR X (binaryOp .Add) (oAdd X.K) := OpR.or op_add (OpR.or op_add_str (OpR.or op_cat op_catT))
def oSub : R2 := rI0 fun i j => .int (i - j)
theorem op_subP {X : Cx} : OpR X (binaryOp .Sub) oSub := op_sub
def oMul : R2 := rI CMul fun i j => .int (i * j)
theorem op_mulP {X : Cx} : OpR X (binaryOp .Mult) oMul := op_mul
def oMod : R2 := rI (fun _ j => j ≠ 0) fun i j => .int (i.fmod j)
theorem op_modP {X : Cx} : OpR X (binaryOp .Mod) oMod := op_modN
def oDiv : R2 := rI CDivN fun i j => .int (i.fdiv j)
theorem op_divP {X : Cx} : OpR X (binaryOp .FloorDiv) oDiv := op_fdivN
def oPow : R2 := rI CPow fun i j => .int (i ^ j.toNat)
theorem op_powP {X : Cx} : OpR X (binaryOp .Pow) oPow := op_pow
def oLt : R2 := rI0 fun i j => .bl (decide (i < j))
def oLe : R2 := rI0 fun i j => .bl (decide (i ≤ j))
def oGt : R2 := rI0 fun i j => .bl (decide (j < i))
def oGe : R2 := rI0 fun i j => .bl (decide (j ≤ i))
theorem op_ltP {X : Cx} : OpR X (compareOp .Lt) oLt := op_lt
theorem op_leP {X : Cx} : OpR X (compareOp .LtE) oLe := op_le
theorem op_gtP {X : Cx} : OpR X (compareOp .Gt) oGt := op_gt
theorem op_geP {X : Cx} : OpR X (compareOp .GtE) oGe := op_ge
/-- == of ints, bools, texts; of data -/
def oEq (K : PySem.W.Frag) : R2 := fun x y H Q => rEq x y H Q ∨ rEqD K x y H Q
def oNe (K : PySem.W.Frag) : R2 := fun x y H Q => rNe x y H Q ∨ rNeD K x y H Q
theorem op_eqP {X : Cx} (hu : X.A.units + 64 < cLine) : OpR X (compareOp .Eq) (oEq X.K) := OpR.or op_eq (op_eqD hu)
theorem op_neP {X : Cx} (hu : X.A.units + 64 < cLine) : OpR X (compareOp .NotEq) (oNe X.K) := OpR.or op_ne (op_neD hu)

/-! ### reading, step by step -/
section rd
variable {K : PySem.W.Frag} {σ : L2.St} {H : Hp} {Q : VK} {QB : Bool → Hp → Prop} {QL : List V → Hp → Prop} {D : Ends} {ta tb tc te to : TE} {tt uu : TT} {tl : TA} {t u : TS} {g : TG} {i : Nat} {v w x y : V} {r r' : R2} {QS : L2.St → Hp → Prop}
theorem rd_seq (h : t { D with nx := u D } σ H) : tSeq t u D σ H := h
theorem rd_asg (h : te σ H fun x H1 => g x σ H1 D.nx) : tAsg te g D σ H := h
theorem rd_name (h : QS (σ.set i (some v)) H) : gName i v σ H QS := h
theorem rd_var (e : σ[i]? = some (some v)) (h : Q v H) : tVar i σ H Q := ⟨v, e, h⟩
theorem rd_c (h : Q v H) : tC v σ H Q := h
theorem rd_op (h : ta σ H fun x H1 => tb σ H1 fun y H2 => r x y H2 Q) : tOp r ta tb σ H Q := h
theorem rd_ret (h : te σ H D.rt) : tRet te D σ H := h
theorem rd_retN (h : D.rt .non H) : tRetN D σ H := h
theorem rd_if (h : tt σ H fun b H1 => if b = true then t D σ H1 else u D σ H1) : tIfS tt t u D σ H := h
theorem rd_ife (h : tt σ H fun b H1 => if b = true then ta σ H1 Q else tb σ H1 Q) : tIf tt ta tb σ H Q := h
theorem rd_next (h : D.nx σ H) : tNext D σ H := h
theorem rd_drop (h : te σ H fun _ H1 => D.nx σ H1) : tDrop te D σ H := h
theorem rd_test (h : te σ H fun x H' => ∃ k, x = .bl k ∧ QB k H') : tTest te σ H QB := h
theorem rd_tB (h : te σ H fun x H' => ∃ k, x = .bl k ∧ QB k H') : tB te σ H QB := h
theorem rd_bl {b : Bool} {P : Bool → Prop} (h : P b) : ∃ k, V.bl b = .bl k ∧ P k := ⟨b, rfl, h⟩
theorem rd_not (h : tt σ H fun c H1 => QB (!c) H1) : tNot tt σ H QB := h
theorem rd_and (h : tt σ H fun c H1 => if c = true then uu σ H1 QB else QB false H1) : tAnd tt uu σ H QB := h
theorem rd_or (h : tt σ H fun c H1 => if c = true then QB true H1 else uu σ H1 QB) : tOr tt uu σ H QB := h
theorem rd_nil (h : QL [] H) : tNil σ H QL := h
theorem rd_cons (h : ta σ H fun x H1 => tl σ H1 fun xs H2 => QL (x :: xs) H2) : tCons ta tl σ H QL := h
theorem rd_lst (h : tl σ H fun xs H1 => xs.length ≤ sizeLine ∧ ∀ p, H1 p = none → Q (.ref p) (upd H1 p (.lst xs))) : tLst tl σ H Q := h
theorem rd_tup (h : tl σ H fun xs H1 => xs.length ≤ sizeLine ∧ ∀ p, H1 p = none → Q (.ref p) (upd H1 p (.tup xs))) : tTup tl σ H Q := h
theorem rd_cb {rc : List V → Hp → VK → Prop} (h : tl σ H fun vs H1 => rc vs H1 Q) : tCB rc tl σ H Q := h
theorem rd_chain (h : ta σ H fun x H1 => tb σ H1 fun y H2 => r x y H2 fun z H3 => ∃ k, z = .bl k ∧ if k = true then tc σ H3 fun w H4 => r' y w H4 Q else Q (.bl false) H3) : tChain r r' ta tb tc σ H Q := h
theorem rd_call {sp : Sp} {dvs : List V} {E : XK} (h : tl σ H fun vs H1 => sp (vs ++ dvs) H1 Q E) : tCall sp dvs E tl σ H Q := h
theorem rd_iteT {A B : Prop} (h : A) : if true = true then A else B := iteT h
theorem rd_iteF {A B : Prop} (h : B) : if false = true then A else B := iteF h
theorem rd_itet {A B : Prop} {c : Bool} (e : c = true) (h : A) : if c = true then A else B := by rw [e]; exact iteT h
theorem rd_itef {A B : Prop} {c : Bool} (e : c = false) (h : B) : if c = true then A else B := by rw [e]; exact iteF h
theorem rd_ite {A B : Prop} {c : Bool} (h1 : c = true → A) (h2 : c = false → B) : if c = true then A else B := by
  cases c with
  | true => exact iteT (h1 rfl)
  | false => exact iteF (h2 rfl)
theorem rd_iteD {A B p : Prop} [Decidable p] (h1 : p → A) (h2 : ¬ p → B) : if decide p = true then A else B := rd_ite (fun e => h1 (of_decide_eq_true e)) fun e => h2 (of_decide_eq_false e)
theorem rd_iteN {A B p : Prop} [Decidable p] (h1 : ¬ p → A) (h2 : p → B) : if (!decide p) = true then A else B := rd_ite (fun e => h1 (by simpa using e)) fun e => h2 (by simpa using e)
/-! ints -/
variable {a b : Int}
theorem rd_addI (h : Q (.int (a + b)) H) : oAdd K (.int a) (.int b) H Q := .inl ⟨a, b, rfl, rfl, h⟩
theorem rd_subI (h : Q (.int (a - b)) H) : oSub (.int a) (.int b) H Q := ⟨a, b, rfl, rfl, h⟩
theorem rd_mulI (c : CMul a b) (h : Q (.int (a * b)) H) : oMul (.int a) (.int b) H Q := ⟨a, b, rfl, rfl, c, h⟩
theorem rd_modI (c : b ≠ 0) (h : Q (.int (a.fmod b)) H) : oMod (.int a) (.int b) H Q := ⟨a, b, rfl, rfl, c, h⟩
theorem rd_divI (c : CDivN a b) (h : Q (.int (a.fdiv b)) H) : oDiv (.int a) (.int b) H Q := ⟨a, b, rfl, rfl, c, h⟩
theorem rd_powI (c : CPow a b) (h : Q (.int (a ^ b.toNat)) H) : oPow (.int a) (.int b) H Q := ⟨a, b, rfl, rfl, c, h⟩
theorem rd_lt (h : Q (.bl (decide (a < b))) H) : oLt (.int a) (.int b) H Q := ⟨a, b, rfl, rfl, h⟩
theorem rd_le (h : Q (.bl (decide (a ≤ b))) H) : oLe (.int a) (.int b) H Q := ⟨a, b, rfl, rfl, h⟩
theorem rd_gt (h : Q (.bl (decide (b < a))) H) : oGt (.int a) (.int b) H Q := ⟨a, b, rfl, rfl, h⟩
theorem rd_ge (h : Q (.bl (decide (b ≤ a))) H) : oGe (.int a) (.int b) H Q := ⟨a, b, rfl, rfl, h⟩
theorem rd_eqI (h : Q (.bl (decide (a = b))) H) : oEq K (.int a) (.int b) H Q := .inl ⟨rfl, by
  have e : decide (V.int a = V.int b) = decide (a = b) := decide_eq_decide.mpr ⟨fun z => V.int.inj z, fun z => by rw [z]⟩
  rw [e]; exact h⟩
theorem rd_neI (h : Q (.bl (!decide (a = b))) H) : oNe K (.int a) (.int b) H Q := .inl ⟨rfl, by
  have e : decide (V.int a = V.int b) = decide (a = b) := decide_eq_decide.mpr ⟨fun z => V.int.inj z, fun z => by rw [z]⟩
  rw [e]; exact h⟩
theorem rd_eqS {x y : Str} (h : Q (.bl (decide (x = y))) H) : oEq K (.str x) (.str y) H Q := .inl ⟨rfl, by
  have e : decide (V.str x = V.str y) = decide (x = y) := decide_eq_decide.mpr ⟨fun z => V.str.inj z, fun z => by rw [z]⟩
  rw [e]; exact h⟩
theorem rd_neS {x y : Str} (h : Q (.bl (!decide (x = y))) H) : oNe K (.str x) (.str y) H Q := .inl ⟨rfl, by
  have e : decide (V.str x = V.str y) = decide (x = y) := decide_eq_decide.mpr ⟨fun z => V.str.inj z, fun z => by rw [z]⟩
  rw [e]; exact h⟩
theorem rd_addS {x y : Str} (c : x.length + y.length ≤ sizeLine) (h : Q (.str (x ++ y)) H) : oAdd K (.str x) (.str y) H Q := .inr (.inl ⟨x, y, rfl, rfl, c, h⟩)
theorem rd_cat {l m : Addr} {xs ys : List V} (h1 : H l = some (.lst xs)) (h2 : H m = some (.lst ys)) (c : xs.length + ys.length ≤ sizeLine) (h : ∀ p, H p = none → Q (.ref p) (upd H p (.lst (xs ++ ys)))) : oAdd K (.ref l) (.ref m) H Q := .inr (.inr (.inl ⟨l, m, xs, ys, rfl, rfl, h1, h2, c, h⟩))
/-! calls of built-ins -/
end rd
/-! ### heaps -/
theorem ex_upd {H0 H : Hp} {p : Addr} {o : HO} (e : Ex H0 H) (h : H p = none) : Ex H0 (upd H p o) := fun a u q => by
  rw [upd_ne (ne_of_none (e a u q) h)]
  exact e a u q
theorem sq_upd {K : PySem.W.Frag} {H : Hp} {a p : Addr} {o : HO} {xs : List V} (hp : H p = none) (h : SqL K H a xs) : SqL K (upd H p o) a xs := Evl.ex_l (Evl.Ex.new hp) h
theorem sqt_upd {K : PySem.W.Frag} {H : Hp} {a p : Addr} {o : HO} {xs : List V} (hp : H p = none) (h : SqT K H a xs) : SqT K (upd H p o) a xs := Evl.ex_t (Evl.Ex.new hp) h
theorem at_upd {H : Hp} {a p : Addr} {o u : HO} (hp : H p = none) (h : H a = some u) : upd H p o a = some u := by
  rw [upd_ne (ne_of_none h hp)]; exact h

/-! ### more operators: in, len, slices, what is walked, repr -/
section
variable {X : Cx}
def oIn (K : PySem.W.Frag) : R2 := fun x y H Q => (∃ (c : Nat) (z : Str), x = .str ⟨#[c]⟩ ∧ y = .str z ∧ Q (.bl (decide (c ∈ z.cps.toList))) H) ∨ rIn K false x y H Q
def oNotIn (K : PySem.W.Frag) : R2 := fun x y H Q => (∃ (c : Nat) (z : Str), x = .str ⟨#[c]⟩ ∧ y = .str z ∧ Q (.bl (!decide (c ∈ z.cps.toList))) H) ∨ rIn K true x y H Q
theorem op_inP : OpR X (compareOp .In) (oIn X.K) := OpR.or op_in_sign op_in_seq
theorem op_notInP : OpR X (compareOp .NotIn) (oNotIn X.K) := OpR.or op_notIn_sign op_notIn_seq
def cLen (K : PySem.W.Frag) : List V → Hp → VK → Prop := fun xs H Q => (∃ x n, xs = [x] ∧ LenV K x H n ∧ Q (.int n) H) ∨ ∃ a kvs, xs = [V.ref a] ∧ H a = some (.dK kvs) ∧ Q (.int kvs.length) H
theorem call_lenP : CallR X (.builtin "len") (cLen X.K) := CallR.or call_len call_lenD
def cInt : List V → Hp → VK → Prop := fun xs H Q => (∃ i, xs = [.int i] ∧ Q (.int i) H) ∨ ∃ k, xs = [.bl k] ∧ Q (.int (if k then 1 else 0)) H
theorem call_intP : CallR X (.type "int") cInt := call_int1
def cAbs : List V → Hp → VK → Prop := fun xs H Q => ∃ i, xs = [.int i] ∧ Q (.int (if i < 0 then -i else i)) H
theorem call_absP : CallR X (.builtin "abs") cAbs := call_abs
def oSl (K : PySem.W.Frag) : V → Option Int → Option Int → Hp → VK → Prop := fun x lo hi H Q => rSlL K x lo hi H Q ∨ rSlS x lo hi H Q ∨ rSlA K x lo hi H Q
theorem sl_P : SlR X (oSl X.K) := SlR.or sl_list (SlR.or sl_str sl_tupA)
theorem PI.or {tg iter : Expr} {w w' : TI} (h : PI X tg iter w) (h' : PI X tg iter w') : PI X tg iter (fun σ H R => w σ H R ∨ w' σ H R) :=
  ⟨fun pins s σ H R I q => q.elim (h.run pins s σ H R I) (h'.run pins s σ H R I)⟩
def iAny (K : PySem.W.Frag) (te : TE) : TI := fun σ H R => iList K te σ H R ∨ iTup K te σ H R ∨ iStr te σ H R
theorem pi_any {tg e : Expr} {te : TE} (he : PE X e te) : PI X tg e (iAny X.K te) := PI.or (pi_list he) (PI.or (pi_tup he) (pi_str he))
theorem call_repr_bl : CallR X (.builtin "repr") (fun xs H Q => ∃ b, xs = [.bl b] ∧ Q (.str (if b then "True" else "False")) H) := by
  intro pins s σ H xs us Q I r h
  obtain ⟨b, rfl, q⟩ := h
  obtain ⟨u, rfl, ru⟩ := vals1 r
  cases (show u = Value.bool b from ru)
  exact PySem.P.repr_of_bool ⟨.str _, H, I.tok _, ⟨_, rfl⟩, q⟩
def cRepr : List V → Hp → VK → Prop := fun xs H Q => (∃ i, xs = [.int i] ∧ i.natAbs.log2 < 1920 ∧ Q (.str (toString i)) H) ∨ ∃ b, xs = [.bl b] ∧ Q (.str (if b then "True" else "False")) H
theorem call_reprP : CallR X (.builtin "repr") cRepr := CallR.or SkE.call_repr_int call_repr_bl
end
/-! ### own defs -/
/-- the def named x stands at f; all its parameters are written at a call -/
structure Own (K : PySem.W.Frag) (mg : Str → Option Value) (x : Str) (f : Addr) (fd : FuncData) (ps : List Str) : Prop where
  g : mg x = some (.ref f)
  k : PySem.W.keepIn K (.ref f) = true
  b : Binds K fd ps []
section
variable {X : Cx} {k : Nat} {f : Addr} {fd : FuncData} {ps : List Str} {sp : Sp} {x : Str} {p pos : Pos} {e : Expr} {es : List Expr} {t : TA}
def tCalled (sp : Sp) (t : TA) : TE := fun σ H Q => t σ H fun vs H1 => sp vs H1 Q E0
/-- a call of a def that raises nothing -/
theorem pe_callE (F : FnOk X.prog X.w X.K X.mg X.base CX0 k f fd ps sp) (hr : Room k X.A) (O : Own X.K X.mg x f fd ps) (ha : PA X (e :: es) t) (hg : Gl X x := by rfl)
    (hdb : (x == ("__debug__" : Str)) = false := by decide) (he : starEach (e :: es) X.env = (false, eval e X.env) :: starEach es X.env := by rfl) (hpl : (backTo pos (starEach es X.env)).any (·.1) = false := by rfl) :
    PE X (.Call (.Name x p) (e :: es) [] pos) (tCalled sp t) := pe_callS (E := fun _ => E0) F hr hg O.g O.k O.b (fun _ _ _ _ _ _ _ h => h.elim) ha hdb he hpl
def tCalledR (sp : Sp) (W : WX) (t : TA) : TE := fun σ H Q => t σ H fun vs H1 => sp vs H1 Q fun c d H2 => W c d σ H2
/-- a call of a def that may raise -/
theorem pe_callR {W : WX} (F : FnOk X.prog X.w X.K X.mg X.base (L2.CX X.prog X.w) k f fd ps sp) (hr : Room k X.A) (O : Own X.K X.mg x f fd ps) (tk : Takes X W) (ha : PA X (e :: es) t) (hg : Gl X x := by rfl)
    (hdb : (x == ("__debug__" : Str)) = false := by decide) (he : starEach (e :: es) X.env = (false, eval e X.env) :: starEach es X.env := by rfl) (hpl : (backTo pos (starEach es X.env)).any (·.1) = false := by rfl) :
    PE X (.Call (.Name x p) (e :: es) [] pos) (tCalledR sp W t) := pe_callS (E := WE W) F hr hg O.g O.k O.b (fun σ => passAt tk σ) ha hdb he hpl
end
/-! ### exceptions with the one attribute «what» -/
/-- the __init__ of the family: self.what = what -/
def spInit (K : PySem.W.Frag) : Sp := fun vs H Q _ => ∃ (a C : Addr) (v : V), vs = [.ref a, v] ∧ OexC K C ∧ PySem.W.findIn K (.ref C) "what" = some none ∧ H a = some (exo a C none) ∧
  ∀ dx, H dx = none → dx ≠ a → Q .non (upd (upd H dx (exd dx [("what", v)])) a (exo a C (some dx)))
/-- what the written part says of such a class -/
structure ErrX (K : PySem.W.Frag) (C fI : Addr) : Prop where
  ox : OexC K C
  xf : XfC K C
  nw : PySem.W.findIn K (.ref C) "what" = some none
  ini : PySem.W.findIn K (.ref C) "__init__" = some (some (.ref fI))
  cl : PySem.W.isClsIn K C = true
  cc : PySem.W.findIn K (.ref C) "__class__" = some (some (.builtin "object.__class__"))
  mo : PySem.W.mroIn K C (.type "object") = some true
  se : PySem.W.subIn K (.ref C) (.ref C) = some true
/-- of the builtin that tells an object's class -/
structure ClsB (K : PySem.W.Frag) : Prop where
  sp : PySem.W.specialIn K (.builtin "object.__class__") "__get__" = some (some (.builtin "getset_descriptor.__get__"))
  tk : PySem.W.takesIn K (.builtin "object.__class__") = some true
theorem mk_what {K : PySem.W.Frag} {C fI : Addr} {v : V} {H1 : Hp} {Q : XK} {vs : List V} (T : ErrX K C fI) (ev : vs = [v]) (h : ∀ d, H1 d = none → Q (.ref C) (some d) (upd H1 d (.xd [("what", v)]))) :
    vs.length ≤ 1000 ∧ ∀ a, H1 a = none → spInit K (.ref a :: (vs ++ [])) (upd H1 a (exo a C none))
      (fun u H2 => u = .non ∧ ∃ (d : Addr) (fs : List (Str × V)), H2 a = some (exo a C (some d)) ∧ H2 d = some (exd d fs) ∧ H1 d = none ∧ Q (.ref C) (some d) (upd (del H2 a) d (.xd fs))) (fun _ _ _ => False) := by
  subst ev
  refine ⟨by show 1 ≤ 1000; decide, fun a ha => ⟨a, C, v, rfl, T.ox, T.nw, upd_same, fun dx hdx ne => ⟨rfl, dx, [("what", v)], upd_same, ?_, ?_, ?_⟩⟩⟩
  · rw [upd_ne ne, upd_same]
  · rw [upd_ne ne] at hdx
    exact hdx
  · rw [upd_ne ne] at hdx
    have e : upd (del (upd (upd (upd H1 a (exo a C none)) dx (exd dx [("what", v)])) a (exo a C (some dx))) a) dx (.xd [("what", v)]) = upd H1 dx (.xd [("what", v)]) := by
      funext b
      by_cases h1 : b = dx
      · rw [h1, upd_same, upd_same]
      · rw [upd_ne h1, upd_ne h1]
        by_cases h2 : b = a
        · rw [h2, del_same, ha]
        · rw [del_ne h2, upd_ne h2, upd_ne h1, upd_ne h2]
    rw [e]
    exact h dx hdx
/-- raise C(e) -/
def tRaised (C : Addr) (W : WX) (ta : TA) : TS := fun _ σ H => ta σ H fun vs H1 => ∃ v, vs = [v] ∧ ∀ d, H1 d = none → W (.ref C) (some d) σ (upd H1 d (.xd [("what", v)]))
section
variable {X : Cx} {C fI : Addr} {fd : FuncData} {x : Str} {p pos pos2 : Pos} {e : Expr} {ta : TA} {W : WX}
theorem PA.imp {es : List Expr} {t t' : TA} (h : PA X es t) (hi : ∀ σ H Q, t' σ H Q → t σ H Q) : PA X es t' := ⟨fun pos pins s σ H Q I q => h.run pos pins s σ H Q I (hi σ H Q q)⟩
theorem PS.imp {st : Stmt} {t t' : TS} (h : PS X st t) (hi : ∀ D σ H, t' D σ H → t D σ H) : PS X st t' := ⟨fun pins s σ H D I q => h.run pins s σ H D I (hi D σ H q)⟩
/-- a reading is monotone in its wish -/
def MonoA (t : TA) : Prop := ∀ σ H (Q Q' : List V → Hp → Prop), (∀ vs H1, Q vs H1 → Q' vs H1) → t σ H Q → t σ H Q'
theorem ps_raiseW (hc : X.calm = true) (T : ErrX X.K C fI) (G : FnOk X.prog X.w X.K X.mg X.base CX0 1 fI fd ["self", "what"] (spInit X.K)) (tI : PySem.W.typeIn X.K (.ref fI) = some (.type "function")) (bI : Binds X.K fd ["self", "what"] []) (hr : Room 2 X.A) (hm : X.mg x = some (.ref C))
    (tk : Takes X W) (ha : PA X (e :: []) ta) (mo : MonoA ta) (hg : Gl X x := by rfl) (hdb : (x == ("__debug__" : Str)) = false := by decide)
    (he : starEach (e :: []) X.env = (false, eval e X.env) :: starEach [] X.env := by rfl) (hpl : (backTo pos (starEach [] X.env)).any (·.1) = false := by rfl) :
    PS X (.Raise (some (.Call (.Name x p) (e :: []) [] pos)) none pos2) (tRaised C W ta) := by
  refine PS.imp (ps_raise hc tk (pmk_oex (pos := pos) T.ox T.ini tI G hr bI .nil pass0 hg hm ha hdb he hpl)) fun D σ H q => ?_
  refine mo σ H _ _ (fun vs H1 q => ?_) q
  obtain ⟨v, ev, h⟩ := q
  exact mk_what (Q := fun c d H' => W c d σ H') T ev h
theorem MonoA.nil : MonoA tNil := fun _ _ _ _ h q => h _ _ q
theorem MonoA.one {te : TE} (m : ∀ σ H (Q Q' : VK), (∀ v H1, Q v H1 → Q' v H1) → te σ H Q → te σ H Q') : MonoA (tCons te tNil) := fun σ H Q Q' h q => m σ H _ _ (fun v H1 z => h _ _ z) q
theorem mono_var {i : Nat} : ∀ σ H (Q Q' : VK), (∀ v H1, Q v H1 → Q' v H1) → tVar i σ H Q → tVar i σ H Q' := fun _ _ _ _ h ⟨v, e, q⟩ => ⟨v, e, h _ _ q⟩
theorem mono_c {v : V} : ∀ σ H (Q Q' : VK), (∀ v H1, Q v H1 → Q' v H1) → tC v σ H Q → tC v σ H Q' := fun _ _ _ _ h q => h _ _ q
end
/-- isinstance(e, c), isinstance(e, (c, ..)): e the exception that the suite holds -/
def cIsE (K : PySem.W.Frag) (D a dd : Addr) : List V → Hp → VK → Prop := fun xs H Q => ∃ (fs : List (Str × V)) (b : Bool), H dd = some (.xd fs) ∧
  ((∃ (c : V) (cv : Value), xs = [.ref a, c] ∧ ClsV c cv ∧ PySem.W.kitOne K (.ref D) cv = some b) ∨ ∃ (tp : Addr) (cs : List V) (us : List Value), xs = [.ref a, .ref tp] ∧ H tp = some (.tup cs) ∧ Paired ClsV cs us ∧ PySem.W.kitAny K (.ref D) us = some b) ∧ Q (.bl b) H
theorem call_isX {X : Cx} {a D dd fI : Addr} {oe : Obj} {pn : List (Addr × Obj)} (T : ErrX X.K D fI) (B : ClsB X.K) (hz : Zc (.ref D) (some dd) oe) (hf : ∃ vs, oe.data = .fields vs) : CallR (X.suite a ((a, oe) :: pn)) (.builtin "isinstance") (cIsE X.K D a dd) := by
  intro pins s σ H xs us Q I r h
  obtain ⟨fs, b, hdd, hc, q⟩ := h
  obtain ⟨mA, hns, _⟩ := (show ObjOk X.prog X.w H s.heap dd (.xd fs) from I.hok dd _ hdd)
  obtain ⟨od, ho, _⟩ := lookIn_ns hns
  obtain ⟨hget, _⟩ := I.pin (a, oe) (List.mem_append.mpr (.inl List.mem_cons_self))
  obtain ⟨vs, hv⟩ := hf
  have J : PySem.W.InstAt s.heap a oe D (some od) := ⟨hget, hz.1, by unfold PySem.W.notCls; rw [hv] <;> rfl, by rw [hz.2]; exact ho⟩
  have Z : PySem.W.KitX X.K (.ref a) (.ref D) (fun h => PySem.W.InstAt h a oe D (some od)) := PySem.W.kitx_exc T.cl T.xf.ga T.xf.gg T.xf.exC T.cc B.sp B.tk T.mo
  rcases hc with ⟨c, cv, rfl, hcv, e⟩ | ⟨tp, cs, ws, rfl, hT, hcs, e⟩
  · obtain ⟨u1, u2, rfl, r1, r2⟩ := vals2 r
    cases (show u1 = Value.ref a from r1)
    have e2 := hcv.eq r2
    subst e2
    exact PySem.W.kia_one Z I.kIn J e (fun z => nomatch z) fun tk => ⟨.bl b, H, I.tok tk, rfl, q⟩
  · obtain ⟨u1, u2, rfl, r1, r2⟩ := vals2 r
    cases (show u1 = Value.ref a from r1)
    cases (show u2 = Value.ref tp from r2)
    obtain ⟨_, its, rv, o, h1, h2, n, h3⟩ := (show ObjOk X.prog X.w H s.heap tp (.tup cs) from I.hok tp _ hT)
    have e3 := ClsV.all hcs rv
    subst e3
    obtain ⟨oc, od', dt, sl⟩ := o
    simp only at h2 h3
    subst h2 h3
    exact PySem.W.kia_tup Z I.kIn J h1 e (fun z => nomatch z) fun tk => ⟨.bl b, H, I.tok tk, rfl, q⟩
/-- an own class or a class of Python's beside it: what isinstance says -/
theorem kit_ref {K : PySem.W.Frag} {D C fI : Addr} {b : Bool} (T : ErrX K D fI) (cl : PySem.W.isClsIn K C = true) (ty : PySem.W.typeIn K (.ref C) = some (.type "type")) (s : PySem.W.subIn K (.ref D) (.ref C) = some b) : PySem.W.kitOne K (.ref D) (.ref C) = some b := by
  by_cases e : D = C
  · subst e
    rw [T.se] at s
    obtain rfl : true = b := Option.some.inj s
    unfold PySem.W.kitOne
    rw [if_pos (by simp)]
  · unfold PySem.W.kitOne
    rw [if_neg (by simp [e])]
    show (if ((PySem.W.clsIn K C).isSome && PySem.W.typeIn K (.ref C) == some (.type "type")) = true then PySem.W.subIn K (.ref D) (.ref C) else none) = some b
    have e1 : (PySem.W.clsIn K C).isSome = true := cl
    rw [e1, ty, s]
    rfl
theorem kit_bt {K : PySem.W.Frag} {D : Addr} {n : String} {b : Bool} (m : PySem.W.kitMeta n = true) (s : PySem.W.subIn K (.ref D) (.type n) = some b) : PySem.W.kitOne K (.ref D) (.type n) = some b := by
  unfold PySem.W.kitOne
  rw [if_neg (by simp)]
  show (if PySem.W.kitMeta n = true then PySem.W.subIn K (.ref D) (.type n) else none) = some b
  rw [if_pos m, s]

theorem PSs.exi {ι : Type} {X : Cx} {st : List Stmt} {P : ι → Prop} {t : ι → TS} (h : ∀ i, P i → PSs X st (t i)) : PSs X st (fun D σ H => ∃ i, P i ∧ t i D σ H) :=
  ⟨fun pins s σ H D I ⟨i, p, q⟩ => (h i p).run pins s σ H D I q⟩
/-- what a suite knows of its exception: its class, its dict, where the family's __init__ stands -/
structure Caught (K : PySem.W.Frag) (cls : Value) (d : Option Addr) (i : Addr × Addr × Addr) : Prop where
  c : cls = .ref i.1
  e : d = some i.2.1
  x : ErrX K i.1 i.2.2
theorem Caught.z {K : PySem.W.Frag} {cls : Value} {d : Option Addr} {i : Addr × Addr × Addr} {oe : Obj} (h : Caught K cls d i) (hz : Zc cls d oe) : Zc (.ref i.1) (some i.2.1) oe := ⟨hz.1.trans h.c, hz.2.trans h.e⟩
/-! ### reading of calls -/
section
variable {K : PySem.W.Frag} {σ : L2.St} {H : Hp} {Q : VK} {D : Ends} {tl : TA} {te ta tb : TE} {a : Int} {v x : V} {n : Nat} {W : WX} {C : Addr}
theorem rd_called {sp : Sp} (h : tl σ H fun vs H1 => sp vs H1 Q E0) : tCalled sp tl σ H Q := h
theorem rd_calledR {sp : Sp} (h : tl σ H fun vs H1 => sp vs H1 Q fun c d H2 => W c d σ H2) : tCalledR sp W tl σ H Q := h
theorem rd_raised (h : tl σ H fun vs H1 => ∃ v, vs = [v] ∧ ∀ d, H1 d = none → W (.ref C) (some d) σ (upd H1 d (.xd [("what", v)]))) : tRaised C W tl D σ H := h
theorem rd_raised1 {P : V → Prop} (h : P v) : ∃ v', [v] = [v'] ∧ P v' := ⟨v, rfl, h⟩
theorem rd_int (h : Q (.int a) H) : cInt [.int a] H Q := .inl ⟨a, rfl, h⟩
theorem rd_abs (h : Q (.int (if a < 0 then -a else a)) H) : cAbs [.int a] H Q := ⟨a, rfl, h⟩
theorem rd_lenL {p : Addr} {xs : List V} (e : SqL K H p xs) (h : Q (.int (xs.length : Nat)) H) : cLen K [.ref p] H Q := .inl ⟨_, _, rfl, .inl ⟨xs, e, rfl⟩, h⟩
theorem rd_lenT {p : Addr} {xs : List V} (e : SqT K H p xs) (h : Q (.int (xs.length : Nat)) H) : cLen K [.ref p] H Q := .inl ⟨_, _, rfl, .inr ⟨xs, e, rfl⟩, h⟩
theorem rd_lenS {z : Str} (e : z.length ≤ sizeLine) (h : Q (.int (z.length : Nat)) H) : cLen K [.str z] H Q := .inl ⟨_, _, rfl, ⟨e, rfl⟩, h⟩
theorem rd_ixL {p : Addr} {xs : List V} (e : SqL K H p xs) (ha : atI xs a = some v) (h : Q v H) : rIx K (.ref p) (.int a) H Q := .inl ⟨p, xs, a, v, rfl, rfl, e, ha, h⟩
theorem rd_ixT {p : Addr} {xs : List V} (e : SqT K H p xs) (ha : atI xs a = some v) (h : Q v H) : rIx K (.ref p) (.int a) H Q := .inr (.inl ⟨p, xs, a, v, rfl, rfl, e, ha, h⟩)
theorem rd_ixS {z : Str} {c : Nat} (e : z.length ≤ sizeLine) (ha : atI z.cps.toList a = some c) (h : Q (.str ⟨#[c]⟩) H) : rIx K (.str z) (.int a) H Q := .inr (.inr ⟨z, a, c, rfl, rfl, e, ha, h⟩)
theorem rd_inS {c : Nat} {z : Str} (h : Q (.bl (decide (c ∈ z.cps.toList))) H) : oIn K (.str ⟨#[c]⟩) (.str z) H Q := .inl ⟨c, z, rfl, rfl, h⟩
theorem rd_niS {c : Nat} {z : Str} (h : Q (.bl (!decide (c ∈ z.cps.toList))) H) : oNotIn K (.str ⟨#[c]⟩) (.str z) H Q := .inl ⟨c, z, rfl, rfl, h⟩
theorem rd_rng1 {ta : TA} {R : It → Hp → Prop} (h : ta σ H fun vs H1 => ∃ j : Int, vs = [.int j] ∧ -(2 ^ 62) ≤ j ∧ j < 2 ^ 62 ∧ R (Itr 0 j.toNat) H1) : iRng1 ta σ H R := h
theorem rd_rng2 {ta : TA} {R : It → Hp → Prop} (h : ta σ H fun vs H1 => ∃ i j : Int, vs = [.int i, .int j] ∧ (-(2 ^ 62) ≤ i ∧ i < 2 ^ 62 ∧ -(2 ^ 62) ≤ j ∧ j < 2 ^ 62) ∧ R (Itr i (j - i).toNat) H1) : iRng2 ta σ H R := h
theorem rd_bm {T : String} {r : V → List V → Hp → VK → Prop} {to : TE} {t : TA} (h : to σ H fun x H1 => tyV K T x H1 ∧ t σ H1 fun xs H2 => r x xs H2 Q) : tBM K T r to t σ H Q := h
theorem rd_andV (h : ta σ H fun x H1 => ∃ c, x = .bl c ∧ if c = true then tb σ H1 Q else Q (.bl false) H1) : tAndV ta tb σ H Q := h
theorem rd_orV (h : ta σ H fun x H1 => ∃ c, x = .bl c ∧ if c = true then Q (.bl true) H1 else tb σ H1 Q) : tOrV ta tb σ H Q := h
theorem rd_sl {r : V → Option Int → Option Int → Hp → VK → Prop} {tl th : TO} (h : te σ H fun x H1 => tl σ H1 fun l H2 => th σ H2 fun u H3 => r x l u H3 Q) : tSl r te tl th σ H Q := h
theorem rd_noPart {Q : Option Int → Hp → Prop} (h : Q none H) : tNoPart σ H Q := h
theorem rd_part {Q : Option Int → Hp → Prop} (h : te σ H fun x H1 => ∃ i, x = .int i ∧ Q (some i) H1) : tPart te σ H Q := h
theorem rd_intv {P : Int → Prop} (h : P a) : ∃ i, V.int a = .int i ∧ P i := ⟨a, rfl, h⟩
theorem rd_slS {z : Str} {lo hi : Option Int} (e : z.length ≤ sizeLine) (h : Q (.str (cutS z lo hi)) H) : oSl K (.str z) lo hi H Q := .inr (.inl ⟨z, rfl, e, h⟩)
end

section
variable {CX : CXT} {P : Program} {w : World} {K : PySem.W.Frag} {mg : Str → Option Value} {base : Heap} {N : List Str} {q : Str} {sc : Scope} {f : Addr} {cdv : Value} {A : Around} {outer : List Env} {s : Shared} {H : Hp} {E : XK}
theorem cxK : (cxOf CX P w K mg base N q sc f cdv A outer s H E).nox.K = K := rfl
theorem cxK' : (cxOf CX P w K mg base N q sc f cdv A outer s H E).K = K := rfl
end

/-! ### loops and comprehensions -/
def forB (g : TG) (tb : TS) (D : Ends) (σ : L2.St) (J : It) (H : Hp) : Prop := tFor (fun _ H R => R J H) g tb D σ H
def lcB (g : TG) (tt : TT) (te : TE) (vs : List Nat) (σ : L2.St) (Q : VK) (J : It) (H : Hp) : Prop := tLc (fun _ H R => R J H) g tt te vs σ H Q
section
variable {K : PySem.W.Frag} {σ : L2.St} {H : Hp} {Q : VK} {D : Ends} {wi : TI} {g : TG} {tb : TS} {tt : TT} {te : TE} {vs : List Nat} {J : It} {n : Nat} {G : Hp → Prop} {Y : Nat → Hp → V → Hp → Prop} {R : It → Hp → Prop}
theorem rd_for (h : wi σ H (forB g tb D σ)) : tFor wi g tb D σ H := h
theorem rd_lc (h : wi σ H (lcB g tt te vs σ Q)) : tLc wi g tt te vs σ H Q := h
theorem fo_range {n : Nat} (Pv : Nat → L2.St → Hp → Prop) (h0 : Pv 0 σ H) (hs : ∀ (i : Nat) σ H, i < n → Pv i σ H → g (.int (i : Int)) σ H fun σ2 H2 => tb { D with nx := Pv (i + 1), ct := Pv (i + 1), bk := D.nx } σ2 H2) (hd : ∀ σ H, Pv n σ H → D.nx σ H) : forB g tb D σ (Itr 0 n) H :=
  for_range (lo := 0) Pv h0 (fun i σ H hi p => by rw [Int.zero_add]; exact hs i σ H hi p) hd
theorem fo_range2 {lo : Int} {n : Nat} (Pv : Nat → L2.St → Hp → Prop) (h0 : Pv 0 σ H) (hs : ∀ (i : Nat) σ H, i < n → Pv i σ H → g (.int (lo + (i : Int))) σ H fun σ2 H2 => tb { D with nx := Pv (i + 1), ct := Pv (i + 1), bk := D.nx } σ2 H2) (hd : ∀ σ H, Pv n σ H → D.nx σ H) : forB g tb D σ (Itr lo n) H :=
  for_range (lo := lo) Pv h0 hs hd
theorem fo_it (w : Walk J n G Y) (Pv : Nat → L2.St → Hp → Prop) (h0 : Pv 0 σ H) (hG : ∀ i σ H, i ≤ n → Pv i σ H → G H)
    (hs : ∀ i x σ H H', i < n → Pv i σ H → Y i H x H' → g x σ H' fun σ2 H2 => tb { D with nx := Pv (i + 1), ct := Pv (i + 1), bk := D.nx } σ2 H2) (hd : ∀ σ H, Pv n σ H → D.nx σ H) : forB g tb D σ J H := for_it w Pv h0 hG hs hd
/-- over a text -/
theorem fo_str {z : Str} (Pv : Nat → L2.St → Hp → Prop) (h0 : Pv 0 σ H) (hs : ∀ (i : Nat) c σ H, z.cps.toList[i]? = some c → Pv i σ H → g (.str ⟨#[c]⟩) σ H fun σ2 H2 => tb { D with nx := Pv (i + 1), ct := Pv (i + 1), bk := D.nx } σ2 H2) (hd : ∀ σ H, Pv z.length σ H → D.nx σ H) : forB g tb D σ (Its z) H :=
  fo_it walk_str Pv h0 (fun _ _ _ _ _ => True.intro) (fun i x σ H H' hi p y => by
    obtain ⟨rfl, c, e, rfl⟩ := y
    exact hs i c σ _ (by rw [Array.getElem?_toList]; exact e) p) hd
theorem fo_list {a : Addr} {xs : List V} (Pv : Nat → L2.St → Hp → Prop) (h0 : Pv 0 σ H) (hl : ∀ i σ H, i ≤ xs.length → Pv i σ H → SqL K H a xs) (hs : ∀ (i : Nat) x σ H, xs[i]? = some x → Pv i σ H → g x σ H fun σ2 H2 => tb { D with nx := Pv (i + 1), ct := Pv (i + 1), bk := D.nx } σ2 H2)
    (hd : ∀ σ H, Pv xs.length σ H → D.nx σ H) : forB g tb D σ (Itl K a) H := for_list Pv h0 hl hs hd
theorem fo_tup {a : Addr} {xs : List V} (Pv : Nat → L2.St → Hp → Prop) (h0 : Pv 0 σ H) (hl : ∀ i σ H, i ≤ xs.length → Pv i σ H → SqT K H a xs) (hs : ∀ (i : Nat) x σ H, xs[i]? = some x → Pv i σ H → g x σ H fun σ2 H2 => tb { D with nx := Pv (i + 1), ct := Pv (i + 1), bk := D.nx } σ2 H2)
    (hd : ∀ σ H, Pv xs.length σ H → D.nx σ H) : forB g tb D σ (Itt K a) H := for_tup Pv h0 hl hs hd
/-- what is walked -/
theorem rd_anyL {a : Addr} {xs : List V} {te : TE} (he : ∀ Q : VK, Q (.ref a) H → te σ H Q) (hs : SqL K H a xs) (h : R (Itl K a) H) : iAny K te σ H R := .inl (he _ ⟨a, rfl, ⟨xs, hs⟩, h⟩)
theorem rd_anyT {a : Addr} {xs : List V} {te : TE} (he : ∀ Q : VK, Q (.ref a) H → te σ H Q) (hs : SqT K H a xs) (h : R (Itt K a) H) : iAny K te σ H R := .inr (.inl (he _ ⟨a, rfl, ⟨xs, hs⟩, h⟩))
theorem rd_anyS {z : Str} {te : TE} (he : ∀ Q : VK, Q (.str z) H → te σ H Q) (h : R (Its z) H) : iAny K te σ H R := .inr (.inr (he _ ⟨z, rfl, h⟩))
/-- a comprehension whose parts leave the heap -/
theorem lc_pure {j : Nat} {xs : Nat → V} {f : Nat → Bool} {v : Nat → V} (w : Walk J n G Y) (hY : ∀ i H x H', i < n → Y i H x H' → H' = H ∧ x = xs i) (hG : ∀ Hc, Ex H Hc → G Hc) (hn : n < 100000)
    (ht : ∀ i Hc, i < n → Ex H Hc → Ans tt ((wipe σ [j]).set j (some (xs i))) Hc (f i)) (he : ∀ i Hc, i < n → Ex H Hc → f i = true → Val te ((wipe σ [j]).set j (some (xs i))) Hc (v i))
    (h : ∀ L, H L = none → Q (.ref L) (upd H L (.lst (Evl.given n f v)))) : lcB (gName j) tt te [j] σ Q J H := by
  intro L hL
  have hz : ∀ m, m ≤ n → (Evl.given m f v).length < sizeLine := fun m hm => Nat.lt_of_le_of_lt (Evl.given_len m f v) (Nat.lt_of_le_of_lt hm (Nat.lt_trans hn (by decide)))
  refine lc_it w (fun i Hc => i ≤ n ∧ Hc = upd H L (.lst (Evl.given i f v))) ⟨Nat.zero_le _, rfl⟩ (fun i Hc _ p => ?_) (fun i x Hc H' hi p y => ?_) fun Hc p => ?_
  · obtain ⟨_, rfl⟩ := p
    exact hG _ (Evl.Ex.new hL)
  · obtain ⟨hi1, rfl⟩ := p
    obtain ⟨rfl, rfl⟩ := hY _ _ _ _ hi y
    have e0 := Evl.Ex.new (o := .lst (Evl.given i f v)) hL
    refine ⟨by simp [wipe], ?_⟩
    refine ht i _ hi e0 _ ?_
    cases hf : f i with
    | true =>
      refine rd_iteT ?_
      refine he i _ hi e0 hf _ ?_
      refine ⟨_, upd_same, hz i (Nat.le_of_lt hi), hi, ?_⟩
      rw [upd_upd, Evl.given_yes hf]
    | false =>
      refine rd_iteF ⟨hi, ?_⟩
      rw [Evl.given_no hf]
  · obtain ⟨_, rfl⟩ := p
    exact h L hL
theorem rd_yes {QB : Bool → Hp → Prop} (h : QB true H) : tYes σ H QB := h
theorem ans_yes : Ans tYes σ H true := fun _ q => q
end
/-- the list that is given -/
theorem given_eq {α : Type} (l : List α) (p : α → Bool) (f : α → V) (q : Nat → Bool) (v : Nat → V) (hq : ∀ i x, l[i]? = some x → q i = p x) (hv : ∀ i x, l[i]? = some x → v i = f x) : ∀ n, n ≤ l.length → Evl.given n q v = ((l.take n).filter p).map f
  | 0, _ => rfl
  | n + 1, h => by
    have hx : l[n]? = some (l[n]'h) := List.getElem?_eq_getElem h
    have ih := given_eq l p f q v hq hv n (Nat.le_of_lt h)
    rw [List.take_succ, hx]
    cases e : p (l[n]'h) with
    | true =>
      rw [Evl.given_yes ((hq _ _ hx).trans e), ih, List.filter_append, List.map_append, hv _ _ hx]
      simp [e]
    | false =>
      rw [Evl.given_no ((hq _ _ hx).trans e), ih, List.filter_append, List.map_append]
      simp [e]

theorem rd_gsub {to ti : TE} {t : TSet} {v : V} {σ : L2.St} {H : Hp} {Q : L2.St → Hp → Prop} (h : to σ H fun o H1 => ti σ H1 fun i H2 => t o i v H2 fun H3 => Q σ H3) : gSub to ti t v σ H Q := h
theorem rd_while {tt : TT} {tb : TS} {D : Ends} {σ : L2.St} {H : Hp} (Pv : L2.St → Hp → Prop) (μ : L2.St → Hp → Nat) (h0 : Pv σ H)
    (hs : ∀ σ H, Pv σ H → tt σ H fun b H1 => if b = true then tb { D with nx := fun σ' H' => Pv σ' H' ∧ μ σ' H' < μ σ H, ct := fun σ' H' => Pv σ' H' ∧ μ σ' H' < μ σ H, bk := D.nx } σ H1 else D.nx σ H1)
    (mono : ∀ σ H Q Q', (∀ b H1, Q b H1 → Q' b H1) → tt σ H Q → tt σ H Q') : tWhile tt tb D σ H := while_by Pv μ h0 hs mono

/-! ### the same, the written part named -/
section
variable {X : Cx} (K : PySem.W.Frag) (hK : X.K = K := by rfl)
include hK
theorem kAdd : OpR X (binaryOp .Add) (oAdd K) := hK ▸ op_addP
theorem kEq (hu : X.A.units + 64 < cLine) : OpR X (compareOp .Eq) (oEq K) := hK ▸ op_eqP hu
theorem kNe (hu : X.A.units + 64 < cLine) : OpR X (compareOp .NotEq) (oNe K) := hK ▸ op_neP hu
theorem kIn : OpR X (compareOp .In) (oIn K) := hK ▸ op_inP
theorem kNotIn : OpR X (compareOp .NotIn) (oNotIn K) := hK ▸ op_notInP
theorem kLen : CallR X (.builtin "len") (cLen K) := hK ▸ call_lenP
theorem kSl : SlR X (oSl K) := hK ▸ sl_P
theorem kIx : IxR X (rIx K) := hK ▸ ix_seq
theorem kAny {tg e : Expr} {te : TE} (he : PE X e te) : PI X tg e (iAny K te) := hK ▸ pi_any he
theorem kAll (hc : X.calm = true := by rfl) : CallR X (.builtin "all") (rAll K) := hK ▸ cr_all hc
theorem kAnyOf (hc : X.calm = true := by rfl) : CallR X (.builtin "any") (rAny K) := hK ▸ cr_any hc
theorem kSum (hc : X.calm = true := by rfl) : CallR X (.builtin "sum") (rSum K) := hK ▸ cr_sum hc
end
section
variable {X : Cx} {x : Str} {pos : Pos}
theorem pe_globS {s : Str} {t : Tok} (hg : Gl X x) (hm : X.mg x = some (.str s t)) (hd : (x == ("__debug__" : Str)) = false := by decide) : PE X (.Name x pos) (tC (.str s)) := pe_glob hg hm ⟨t, rfl⟩ hd
theorem pe_globI {i : Int} {t : Tok} (hg : Gl X x) (hm : X.mg x = some (.int i t)) (hd : (x == ("__debug__" : Str)) = false := by decide) : PE X (.Name x pos) (tC (.int i)) := pe_glob hg hm ⟨t, rfl⟩ hd
theorem pe_globR {a : Addr} (hg : Gl X x) (hm : X.mg x = some (.ref a)) (hd : (x == ("__debug__" : Str)) = false := by decide) : PE X (.Name x pos) (tC (.ref a)) := pe_glob (v := .ref a) hg hm rfl hd
end

theorem rd_iteNF {A B : Prop} (h : A) : if (!false) = true then A else B := iteT h
theorem rd_iteNT {A B : Prop} (h : B) : if (!true) = true then A else B := iteF h

section
variable {X : Cx} {x : Str} {pos : Pos}
theorem pe_blT {n : String} (hg : Gl X x) (hm : X.mg x = none) (hv : bootBuiltins x = some (.type n)) (hn : x ≠ "__name__" := by decide) (hd : (x == ("__debug__" : Str)) = false := by decide) : PE X (.Name x pos) (tC (.ty n)) := pe_bltn (v := .ty n) hg hm hv rfl hn hd
end
/-! ### lists of flat values compared -/
def okS (z : Str) : Prop := PyData.strOk z = true
theorem okS_iff {z : Str} : okS z ↔ ∀ c ∈ z.cps.toList, c < 0x110000 := by
  unfold okS PyData.strOk
  rw [← Array.all_toList, List.all_eq_true]
  exact ⟨fun h c hc => by simpa using h c hc, fun h c hc => by simpa using h c hc⟩
theorem okS_app {x y : Str} (hx : okS x) (hy : okS y) : okS (x ++ y) := okS_iff.mpr fun c hc => by
  have e : (x ++ y).cps.toList = x.cps.toList ++ y.cps.toList := TL.tl_append x y
  rw [e] at hc
  exact (List.mem_append.mp hc).elim (okS_iff.mp hx c) (okS_iff.mp hy c)
theorem okS_one {z : Str} {c : Nat} (hz : okS z) (hc : c ∈ z.cps.toList) : okS ⟨#[c]⟩ := okS_iff.mpr fun d hd => by
  have e : d = c := by simpa using hd
  rw [e]
  exact okS_iff.mp hz c hc
theorem okS_sub {x y : Str} (hy : okS y) (h : ∀ c ∈ x.cps.toList, c ∈ y.cps.toList) : okS x := okS_iff.mpr fun c hc => okS_iff.mp hy c (h c hc)
def dOf : V → PyData
  | .bl b => .bool b
  | .int i => .int i
  | .str x => .str x
  | _ => .none
def flat1 : V → Bool
  | .non => true
  | .bl _ => true
  | .int _ => true
  | .str x => PyData.strOk x
  | _ => false
theorem dp_flat {K : PySem.W.Frag} {H : Hp} {v : V} (h : flat1 v = true) : Dp K H v (dOf v) := by
  cases v with
  | non => exact .non
  | bl b => exact .bl b
  | int i => exact .int i
  | str x => exact .str x
  | byt _ => exact absurd h Bool.false_ne_true
  | flt _ => exact absurd h Bool.false_ne_true
  | ref _ => exact absurd h Bool.false_ne_true
  | ty _ => exact absurd h Bool.false_ne_true
theorem lay_flat {v : V} (h : flat1 v = true) : (dOf v).canLay0 = true ∧ (dOf v).depth = 0 := by
  cases v with
  | str x => exact ⟨h, rfl⟩
  | _ => exact ⟨rfl, rfl⟩
theorem dpAll_flat {K : PySem.W.Frag} {H : Hp} : ∀ {xs : List V}, xs.all flat1 = true → DpAll K H xs (xs.map dOf)
  | [], _ => .nil
  | v :: xs, h => by
    rw [List.all_cons, Bool.and_eq_true] at h
    exact .cons (dp_flat h.1) (dpAll_flat h.2)
theorem lay_all : ∀ {xs : List V}, xs.all flat1 = true → PyData.canLayAll0 (xs.map dOf) = true ∧ PyData.depthAll (xs.map dOf) = 0
  | [], _ => ⟨rfl, rfl⟩
  | v :: xs, h => by
    rw [List.all_cons, Bool.and_eq_true] at h
    obtain ⟨h1, h2⟩ := lay_flat h.1
    obtain ⟨h3, h4⟩ := lay_all h.2
    refine ⟨?_, ?_⟩
    · show ((dOf v).canLay0 && PyData.canLayAll0 (xs.map dOf)) = true
      rw [h1, h3]
      rfl
    · show max (dOf v).depth (PyData.depthAll (xs.map dOf)) = 0
      rw [h2, h4]
      rfl
theorem shaped_list {xs : List V} (h : xs.all flat1 = true) : SeqAt.shaped (.list (xs.map dOf)) = true := by
  obtain ⟨h1, h2⟩ := lay_all h
  refine Bool.and_eq_true_iff.mpr ⟨h1, decide_eq_true ?_⟩
  show PyData.depthAll (xs.map dOf) + 1 ≤ 64
  rw [h2]
  decide
theorem refl_list {xs : List V} (h : xs.all flat1 = true) : PyData.eqv (.list (xs.map dOf)) (.list (xs.map dOf)) = true := SeqAt.eqv_refl _ (lay_all h).1
section
variable {K : PySem.W.Frag} {p q : Addr} {xs : List V} {H : Hp} {Q : VK}
theorem rd_neL (hp : SqL K H p xs) (hq : SqL K H q xs) (hf : xs.all flat1 = true) (h : Q (.bl false) H) : oNe K (.ref p) (.ref q) H Q :=
  .inr ⟨_, _, .lst hp (dpAll_flat hf), .lst hq (dpAll_flat hf), shaped_list hf, shaped_list hf, by rw [refl_list hf]; exact h⟩
theorem rd_eqL (hp : SqL K H p xs) (hq : SqL K H q xs) (hf : xs.all flat1 = true) (h : Q (.bl true) H) : oEq K (.ref p) (.ref q) H Q :=
  .inr ⟨_, _, .lst hp (dpAll_flat hf), .lst hq (dpAll_flat hf), shaped_list hf, shaped_list hf, by rw [refl_list hf]; exact h⟩
theorem rd_eqNil (hp : SqL K H p xs) (hq : SqL K H q []) (hf : xs.all flat1 = true) (h : Q (.bl xs.isEmpty) H) : oEq K (.ref p) (.ref q) H Q :=
  .inr ⟨_, .list [], .lst hp (dpAll_flat hf), .lst hq .nil, shaped_list hf, rfl, by
    cases xs with
    | nil => exact h
    | cons a r => exact h⟩
end
theorem rd_reprB {b : Bool} {H : Hp} {Q : VK} (h : Q (.str (if b then "True" else "False")) H) : cRepr [.bl b] H Q := .inr ⟨b, rfl, h⟩

section
variable {σ : L2.St} {H : Hp} {Q : VK} {D : Ends} {t u : TS} {te ta tb : TE} {g : TG} {a b : Bool}
theorem rd_seqA (h : tAsg te g { D with nx := u D } σ H) : tSeq (tAsg te g) u D σ H := h
theorem rd_seqD (h : tDrop te { D with nx := u D } σ H) : tSeq (tDrop te) u D σ H := h
/-- a statement, then the rest: R is what holds between -/
theorem rd_cut (R : L2.St → Hp → Prop) (h1 : ∀ N : L2.St → Hp → Prop, (∀ σ H, R σ H → N σ H) → t { D with nx := N } σ H) (h2 : ∀ σ H, R σ H → u D σ H) : tSeq t u D σ H := h1 (u D) h2
theorem val_andV (h1 : Val ta σ H (.bl a)) (h2 : a = true → Val tb σ H (.bl b)) : Val (tAndV ta tb) σ H (.bl (a && b)) := fun Q q => h1 _ ⟨a, rfl, by
  cases a with
  | true => exact iteT (h2 rfl _ q)
  | false => exact iteF q⟩
theorem val_orV (h1 : Val ta σ H (.bl a)) (h2 : a = false → Val tb σ H (.bl b)) : Val (tOrV ta tb) σ H (.bl (a || b)) := fun Q q => h1 _ ⟨a, rfl, by
  cases a with
  | true => exact iteT q
  | false => exact iteF (h2 rfl _ q)⟩
theorem val_is {v w : V} (h : Val te σ H v) (e : v = w) : Val te σ H w := e ▸ h
theorem rd_val {v : V} (h : Val te σ H v) (q : Q v H) : te σ H Q := h Q q
end

theorem rd_idS {t u : TS} {D : Ends} {σ : L2.St} {H : Hp} (h : tSeq t u D σ H) : tSeq t u D σ H := h
theorem rd_idI {c : TT} {t u : TS} {D : Ends} {σ : L2.St} {H : Hp} (h : tIfS c t u D σ H) : tIfS c t u D σ H := h
end AT

set_option Elab.async false
set_option linter.all false
set_option maxRecDepth 100000
set_option maxHeartbeats 4000000
/-! own words, second part: objects that are made and asked where something may be raised; data; tuples -/
namespace AT
open PySem PySem.Spec L2
section
variable {X : Cx} {Cx1 : CXT} {n : Nat} {fa Ca : Addr} {fn : FuncData} {pr : List Str} {pm : Sp} {W : WX} {nm mt : Str} {q1 q2 q3 : Pos} {o a0 : Expr} {as : List Expr} {to : TE} {ta : TA}
/-- C(..) whose __init__ may raise -/
def tMakeR (C : Addr) (sp : Sp) (W : WX) (t : TA) : TE := fun σ H Q => t σ H fun vs H1 => ∀ x dx, H1 x = none → H1 dx = none → dx ≠ x → sp (.ref x :: vs) (upd (upd H1 dx (.own x)) x (.ins C dx [])) (fun v H2 => v = .non ∧ Q (.ref x) H2) fun c d H2 => W c d σ H2
theorem pe_makeR (M : Mk X.K Ca fa) (G : FnOk X.prog X.w X.K X.mg X.base (L2.CX X.prog X.w) n fa fn pr pm) (hr : Room (n + 1) X.A) (hm : X.mg nm = some (.ref Ca)) (hb : Binds X.K fn pr []) (tk : Takes X W) (ha : PA X (a0 :: as) ta) (hg : Gl X nm := by rfl)
    (hdb : (nm == ("__debug__" : Str)) = false := by decide) (he : starEach (a0 :: as) X.env = (false, eval a0 X.env) :: starEach as X.env := by rfl) (hpl : (backTo q2 (starEach as X.env)).any (·.1) = false := by rfl) :
    PE X (.Call (.Name nm q1) (a0 :: as) [] q2) (tMakeR Ca pm W ta) := by
  refine ⟨fun P s σ H Q I h => wpAny_Call_Name_kw (ld_glob I hg hm ?_ hdb)⟩
  refine PySem.W.callWith_K (h₀ := X.base) I.ok.mod.kin M.kp (thn (ha.run q2 P s σ H _ I h) fun us t ⟨vs, H1, J, rv, q⟩ => ⟨J.kIn, ?_⟩) he hpl
  have fresh1 := J.hok.fresh (Nat.le_succ t.heap.objs.size)
  have fresh0 := J.hok.fresh (Nat.le_refl t.heap.objs.size)
  have asked := q _ _ fresh1 fresh0 (Nat.ne_of_lt (Nat.lt_succ_self _))
  have J2 := Inv.made (C := Ca) J
  have rel : Vals (V.ref (t.heap.objs.size + 1) :: vs) (Value.ref (t.heap.objs.size + 1) :: us) := .cons rfl rv
  have len : (Value.ref (t.heap.objs.size + 1) :: us ++ []).length = pr.length := by
    rw [List.append_nil, ← rel.length]
    exact G.len _ _ _ _ asked
  have bind := hb _ (Value.ref (t.heap.objs.size + 1) :: us) J2.kIn len
  rw [List.append_nil] at bind
  have ran := G.run _ X.stack _ _ ⟨Value.ref (t.heap.objs.size + 1) :: us, []⟩ _ _ _ (fun c d H2 => W c d σ H2) (hr.make Ca us []) (J2.env0.make Ca us []) bind rel asked
  refine wpAny_call (make_map (f := fa) J.kIn M.makes M.init (beq_iff_eq.mp M.fn) (codeAny_mono ran fun res z hz => ?_))
  cases res with
  | error er => exact passAt tk σ _ _ _ _ _ J2 hz
  | ok fl =>
    cases fl with
    | ret u =>
      have back := J2.after hz
      obtain ⟨v, H3, J3, r3, e3, q3⟩ := back
      subst e3
      exact ⟨r3, .ref (t.heap.objs.size + 1), H3, J3, rfl, q3⟩
    | next => exact hz.elim
    | brk => exact hz.elim
    | cont => exact hz.elim
/-- o.m(..) whose m may raise -/
def tMethR (C : Addr) (m : Str) (sp : Sp) (W : WX) (to : TE) (t : TA) : TE := fun σ H Q => to σ H fun x H1 => ∃ a dx fs, x = .ref a ∧ H1 a = some (.ins C dx fs) ∧ fs.lookup m = none ∧ t σ H1 fun vs H2 => sp (x :: vs) H2 Q fun c d H3 => W c d σ H3
theorem pe_methRs {pl : Sem Bool} (hmt : Meth X.K Ca mt fa) (cl : Cls X.K Ca) (ho : PE X o to) (G : FnOk X.prog X.w X.K X.mg X.base (L2.CX X.prog X.w) n fa fn pr pm) (hr : Room n X.A) (hb : Binds X.K fn pr []) (tk : Takes X W) (ha : PA X (a0 :: as) ta)
    (hst : starEach (a0 :: as) X.env = (false, eval a0 X.env) :: starEach as X.env := by rfl) (hpl : (backTo q2 (starEach as X.env)).any (·.1) = false := by rfl)
    (ht : eval (.Call (.Attribute o mt q3) (a0 :: as) [] q2) X.env = (do
      let r ← eval o X.env
      standAt q3.atName
      let (g, more) ← holding [r] (getMethod r mt pl)
      callWith q2 g more (backTo q2 (starEach (a0 :: as) X.env)) (backToKw q2 (keywordEach [] X.env))) := by rfl) : PE X (.Call (.Attribute o mt q3) (a0 :: as) [] q2) (tMethR Ca mt pm W to ta) := by
  refine ⟨fun P s σ H Q I h => PySem.W.methodCall_KW (pl := pl) (thn (ho.run P s σ H _ I h) fun u t ⟨x, H1, J, rx, a, dx, fs, ex, ea, nl, q⟩ => ?_) ht⟩
  subst ex
  obtain rfl : u = Value.ref a := rx
  refine getmeth_ok J ea cl hmt nl (PySem.W.callWith_K (first := [.ref a]) (h₀ := X.base) J.ok.mod.kin hmt.kp (thn (ha.run q2 P t σ H1 _ J q) fun us t2 ⟨vs, H2, J2, rv, z⟩ => ⟨J2.kIn, ?_⟩) hst hpl)
  exact run_fnS (us := .ref a :: us) (vs := .ref a :: vs) (E := WE W) G hr hb (passAt tk σ) J2 (.cons rfl rv) z
theorem pe_methR0 {pl : Sem Bool} (hmt : Meth X.K Ca mt fa) (cl : Cls X.K Ca) (ho : PE X o to) (G : FnOk X.prog X.w X.K X.mg X.base (L2.CX X.prog X.w) n fa fn pr pm) (hr : Room n X.A) (hb : Binds X.K fn pr []) (tk : Takes X W)
    (ht : eval (.Call (.Attribute o mt q3) [] [] q2) X.env = (do
      let r ← eval o X.env
      standAt q3.atName
      let (g, more) ← holding [r] (getMethod r mt pl)
      callWith q2 g more (backTo q2 (starEach [] X.env)) (backToKw q2 (keywordEach [] X.env))) := by rfl) : PE X (.Call (.Attribute o mt q3) [] [] q2) (tMethR Ca mt pm W to tNil) := by
  refine ⟨fun P s σ H Q I h => PySem.W.methodCall_KW (pl := pl) (thn (ho.run P s σ H _ I h) fun u t ⟨x, H1, J, rx, a, dx, fs, ex, ea, nl, q⟩ => ?_) ht⟩
  subst ex
  obtain rfl : u = Value.ref a := rx
  refine getmeth_ok J ea cl hmt nl ?_
  exact PySem.W.callWith_K0 (first := [.ref a]) J.kIn hmt.kp (run_fnS (us := [.ref a]) (vs := [.ref a]) (E := WE W) G hr hb (passAt tk σ) J (.cons rfl .nil) q)
end

/-! ### the place of a sign in a text -/
section
open PySem.Builtin.Str PySem.StrLaws
theorem first_sign (x : Str) (c : Nat) (h : c ∈ x.cps.toList) : ∃ rest, occurrences x ⟨#[c]⟩ 0 x.length 1 = x.cps.toList.idxOf c :: rest := by
  have key := occ_first x ⟨#[c]⟩ x.length 1 (Nat.le_refl 1) (List.range' 0 (x.length + 1 - 0)) 0 fun _ _ => Nat.zero_le _
  rw [occ_eq]
  have sub := fun k => subAt_one x c k
  rcases key with ⟨_, hn⟩ | ⟨pre, i, post, e, h0, hi, hn⟩
  · obtain ⟨j, hj⟩ := List.getElem?_of_mem h
    have hlt : j < x.length := (List.getElem?_eq_some_iff.mp hj).1
    exact absurd ((sub j).mpr hj) (hn j (List.mem_range'.mpr ⟨j, by omega, by omega⟩))
  · have hx := (sub i).mp hi
    have before : ∀ k, k < i → x.cps.toList[k]? ≠ some c := fun k hk q => hn k (range'_split e k hk) ((sub k).mpr q)
    obtain ⟨hl, hv⟩ := List.getElem?_eq_some_iff.mp hx
    have e2 : x.cps.toList.idxOf c = i := by
      have hlt : x.cps.toList.idxOf c < x.cps.toList.length := List.idxOf_lt_length_iff.mpr h
      have hget : x.cps.toList[x.cps.toList.idxOf c] = c := List.getElem_idxOf hlt
      rcases Nat.lt_trichotomy (x.cps.toList.idxOf c) i with z | z | z
      · exact absurd (List.getElem?_eq_some_iff.mpr ⟨hlt, hget⟩) (before _ z)
      · exact z
      · exact absurd hv (by
          have := List.not_of_lt_findIdx (p := (· == c)) (xs := x.cps.toList) z
          simpa using this)
    rw [e2]
    generalize hg : (forIn (List.range' 0 (x.length + 1 - 0)) ((#[] : Array Nat), 0) (occBody x ⟨#[c]⟩ x.length 1)).run.fst = arr at h0
    cases hl : arr.toList with
    | nil =>
      rw [← Array.getElem?_toList, hl] at h0
      cases h0
    | cons a r =>
      rw [← Array.getElem?_toList, hl] at h0
      exact ⟨r, by rw [Option.some.inj (show some a = some i from h0)]⟩
end
def mIdx : V → List V → Hp → VK → Prop := fun x xs H Q => ∃ (a : Str) (c : Nat), x = .str a ∧ xs = [.str ⟨#[c]⟩] ∧ c ∈ a.cps.toList ∧ Q (.int (a.cps.toList.idxOf c : Nat)) H
section
variable {X : Cx}
theorem mt_strIdx : MtR X "str.index" mIdx := by
  intro P s σ H x xs v us Q I rx rs h
  obtain ⟨a, c, ex, es, hc, q⟩ := h
  obtain ⟨rest, e⟩ := first_sign a c hc
  exact mt_sindex P s σ H x xs v us Q I rx rs ⟨a, _, _, rest, ex, es, e, q⟩
/-! ### the least and the greatest of a tuple of ints -/
theorem reads_ints {hp : Heap} : ∀ {ns : List Int} {us : List Value}, Vals (ns.map V.int) us → ReadsAll hp us (ns.map PyData.int) []
  | [], _, r => by cases r; exact .nil
  | n :: ns, _, r => by
    cases r with
    | cons r1 r2 =>
      obtain ⟨t, rfl⟩ := r1
      exact ReadsAll.cons (as := []) (bs := []) (.int n t) (reads_ints r2)
theorem alike_ints (ns : List Int) : PySem.W.AlikeAll (ns.map PyData.int) := ⟨fun x hx y hy => by
  obtain ⟨a, _, rfl⟩ := List.mem_map.mp hx
  obtain ⟨b, _, rfl⟩ := List.mem_map.mp hy
  rfl, fun x hx => by
  obtain ⟨a, _, rfl⟩ := List.mem_map.mp hx
  exact fun z => by cases z⟩
theorem depth_ints : ∀ ns : List Int, PyData.depthAll (ns.map PyData.int) = 0
  | [] => rfl
  | n :: ns => by
    show max 0 (PyData.depthAll (ns.map PyData.int)) = 0
    rw [depth_ints ns]
    rfl
/-- min(t), max(t): t a tuple of ints, not empty -/
def cMinT (K : PySem.W.Frag) : List V → Hp → VK → Prop := fun vs H Q => ∃ (a : Addr) (n : Int) (ns : List Int), vs = [.ref a] ∧ SqT K H a ((n :: ns).map V.int) ∧ Q (.int (ns.foldl min n)) H
def cMaxT (K : PySem.W.Frag) : List V → Hp → VK → Prop := fun vs H Q => ∃ (a : Addr) (n : Int) (ns : List Int), vs = [.ref a] ∧ SqT K H a ((n :: ns).map V.int) ∧ Q (.int (ns.foldl max n)) H
theorem call_minT (hc : X.calm = true) (hu : X.A.units + 64 < cLine) : CallR X (.builtin "min") (cMinT X.K) := by
  intro P s σ H vs us Q I r h
  obtain ⟨a, n, ns, rfl, ht, q⟩ := h
  obtain ⟨u, rfl, ru⟩ := vals1 r
  cases (show u = Value.ref a from ru)
  obtain ⟨its, rv, pl, _⟩ := I.tuple ht
  refine PySem.W.min_tuple_data (x := .int n) (xs := ns.map .int) (I.ok.hd hc) pl (reads_ints (ns := n :: ns) rv) (alike_ints (n :: ns)) (by
    have e := depth_ints (n :: ns)
    rw [List.map_cons] at e
    rw [e]
    omega) fun i v h' tk bs hv hr hk => ?_
  rw [PySem.W.minD_ints] at hr
  cases hr with
  | int _ t => exact ⟨.int _, H, I.kept hk, ⟨t, rfl⟩, q⟩
theorem call_maxT (hc : X.calm = true) (hu : X.A.units + 64 < cLine) : CallR X (.builtin "max") (cMaxT X.K) := by
  intro P s σ H vs us Q I r h
  obtain ⟨a, n, ns, rfl, ht, q⟩ := h
  obtain ⟨u, rfl, ru⟩ := vals1 r
  cases (show u = Value.ref a from ru)
  obtain ⟨its, rv, pl, _⟩ := I.tuple ht
  refine PySem.W.max_tuple_data (x := .int n) (xs := ns.map .int) (I.ok.hd hc) pl (reads_ints (ns := n :: ns) rv) (alike_ints (n :: ns)) (by
    have e := depth_ints (n :: ns)
    rw [List.map_cons] at e
    rw [e]
    omega) fun i v h' tk bs hv hr hk => ?_
  rw [PySem.W.maxD_ints] at hr
  cases hr with
  | int _ t => exact ⟨.int _, H, I.kept hk, ⟨t, rfl⟩, q⟩
end

section
variable {X : Cx} (K : PySem.W.Frag) (hK : X.K = K := by rfl)
include hK
theorem kMin (hu : X.A.units + 64 < cLine) (hc : X.calm = true := by rfl) : CallR X (.builtin "min") (cMinT K) := hK ▸ call_minT hc hu
theorem kMax (hu : X.A.units + 64 < cLine) (hc : X.calm = true := by rfl) : CallR X (.builtin "max") (cMaxT K) := hK ▸ call_maxT hc hu
theorem kFld {o : Expr} {f : Str} {p : Pos} {te : TE} (h : PE X (.Attribute o f p) (tFld X.K te f)) : PE X (.Attribute o f p) (tFld K te f) := hK ▸ h
theorem kBm {e : Expr} {T : String} {r : V → List V → Hp → VK → Prop} {to : TE} {t : TA} (h : PE X e (tBM X.K T r to t)) : PE X e (tBM K T r to t) := hK ▸ h
theorem kBm0 {e : Expr} {T : String} {r : V → List V → Hp → VK → Prop} {to : TE} (h : PE X e (tBM0 X.K T r to)) : PE X e (tBM0 K T r to) := hK ▸ h
def cTupOf (K : PySem.W.Frag) : List V → Hp → VK → Prop := fun xs H Q => ∃ p ys, xs = [.ref p] ∧ ((SqL K H p ys ∧ ∀ l, H l = none → Q (.ref l) (upd H l (.tup ys))) ∨ (SqT K H p ys ∧ Q (.ref p) H))
def cLstOf (K : PySem.W.Frag) : List V → Hp → VK → Prop := fun xs H Q => ∃ p ys, xs = [.ref p] ∧ (SqL K H p ys ∨ SqT K H p ys) ∧ ∀ l, H l = none → Q (.ref l) (upd H l (.lst ys))
def mJoin (K : PySem.W.Frag) : V → List V → Hp → VK → Prop := fun x xs H Q => ∃ a p, ∃ ys : List Str, x = .str a ∧ xs = [.ref p] ∧ (SqL K H p (ys.map V.str) ∨ SqT K H p (ys.map V.str)) ∧ (ys.map (·.length)).sum + ys.length * a.length ≤ 16777216 ∧ Q (.str (Txt.join a ys)) H
theorem kTupOf : CallR X (.type "tuple") (cTupOf K) := hK ▸ call_tuple_of
theorem kLstOf : CallR X (.type "list") (cLstOf K) := hK ▸ call_list_of
theorem kJoin : MtR X "str.join" (mJoin K) := hK ▸ mt_join
end
/-! ### a text, several times -/
def oMulP : R2 := fun x y H Q => oMul x y H Q ∨ ∃ (z : Str) (n : Int), x = .str z ∧ y = .int n ∧ MulOk z n ∧ Q (.str (Txt.mul z n)) H
theorem op_mulS {X : Cx} : OpR X (binaryOp .Mult) (fun x y H Q => ∃ (z : Str) (n : Int), x = .str z ∧ y = .int n ∧ MulOk z n ∧ Q (.str (Txt.mul z n)) H) := by
  intro P s σ H x y v u Q I rx ry h
  obtain ⟨z, n, rfl, rfl, ok, q⟩ := h
  obtain ⟨t, rfl⟩ := rx
  obtain ⟨t2, rfl⟩ := ry
  exact PySem.SB.mul ok fun t' k => ⟨.str _, H, I.tok _, ⟨t', rfl⟩, q⟩
theorem op_mulPP {X : Cx} : OpR X (binaryOp .Mult) oMulP := OpR.or op_mulP op_mulS
section
variable {K : PySem.W.Frag} {σ : L2.St} {H : Hp} {Q : VK} {D : Ends} {te tv : TE} {f : Str} {a C dx : Addr} {fs : List (Str × V)} {v : V} {t : TA} {sp : Sp} {W : WX}
theorem rd_fld (h : te σ H fun x H1 => ∃ a C dx fs v, x = .ref a ∧ H1 a = some (.ins C dx fs) ∧ Cls K C ∧ NoAttr K C f ∧ fs.lookup f = some v ∧ Q v H1) : tFld K te f σ H Q := h
theorem rd_fldv {P : Addr → Prop} : True := True.intro
theorem rd_mulN {x y : Int} (c : CMul x y) (h : Q (.int (x * y)) H) : oMulP (.int x) (.int y) H Q := .inl ⟨x, y, rfl, rfl, c, h⟩
theorem rd_mulT {z : Str} {n : Int} (c : MulOk z n) (h : Q (.str (Txt.mul z n)) H) : oMulP (.str z) (.int n) H Q := .inr ⟨z, n, rfl, rfl, c, h⟩
theorem rd_tupL {p : Addr} {ys : List V} (e : SqL K H p ys) (h : ∀ l, H l = none → Q (.ref l) (upd H l (.tup ys))) : cTupOf K [.ref p] H Q := ⟨p, ys, rfl, .inl ⟨e, h⟩⟩
theorem rd_tupT {p : Addr} {ys : List V} (e : SqT K H p ys) (h : Q (.ref p) H) : cTupOf K [.ref p] H Q := ⟨p, ys, rfl, .inr ⟨e, h⟩⟩
theorem rd_lstL {p : Addr} {ys : List V} (e : SqL K H p ys ∨ SqT K H p ys) (h : ∀ l, H l = none → Q (.ref l) (upd H l (.lst ys))) : cLstOf K [.ref p] H Q := ⟨p, ys, rfl, e, h⟩
theorem rd_idx {z : Str} {c : Nat} (hc : c ∈ z.cps.toList) (h : Q (.int (z.cps.toList.idxOf c : Nat)) H) : mIdx (.str z) [.str ⟨#[c]⟩] H Q := ⟨z, c, rfl, rfl, hc, h⟩
end

/-! ### comprehensions whose parts change the heap: P of the new list's place, the turn, what is in it, the heap -/
theorem lc_gen {J : It} {n j : Nat} {G : Hp → Prop} {Y : Nat → Hp → V → Hp → Prop} {xs : Nat → V} {σ : L2.St} {H : Hp} {Q : VK} {te : TE} (P : Addr → Nat → List V → Hp → Prop) (w : Walk J n G Y) (hY : ∀ i H x H', i < n → Y i H x H' → H' = H ∧ x = xs i) (hn : n < 100000)
    (h0 : ∀ L, H L = none → P L 0 [] (upd H L (.lst []))) (hG : ∀ L i vs Hc, H L = none → P L i vs Hc → G Hc)
    (he : ∀ L i vs Hc, i < n → H L = none → Hc L = some (.lst vs) → vs.length = i → P L i vs Hc → ∀ N : VK, (∀ v H2, H2 L = some (.lst vs) → P L (i + 1) (vs ++ [v]) (upd H2 L (.lst (vs ++ [v]))) → N v H2) → te ((wipe σ [j]).set j (some (xs i))) Hc N)
    (h : ∀ L vs Hc, H L = none → Hc L = some (.lst vs) → vs.length = n → P L n vs Hc → Q (.ref L) Hc) : lcB (gName j) tYes te [j] σ Q J H := by
  intro L hL
  refine lc_it w (fun i Hc => ∃ vs, Hc L = some (.lst vs) ∧ vs.length = i ∧ P L i vs Hc) ⟨[], upd_same, rfl, h0 L hL⟩ (fun i Hc _ p => ?_) (fun i x Hc H' hi p y => ?_) fun Hc p => ?_
  · obtain ⟨vs, _, _, p⟩ := p
    exact hG L i vs Hc hL p
  · obtain ⟨vs, h1, h2, p⟩ := p
    obtain ⟨rfl, rfl⟩ := hY _ _ _ _ hi y
    refine ⟨by simp [wipe], rd_yes ?_⟩
    refine rd_iteT ?_
    refine he L i vs _ hi hL h1 h2 p _ fun v H2 z1 z2 => ?_
    exact ⟨vs, z1, Nat.lt_of_lt_of_le (by rw [h2]; omega : vs.length < 100000) (by decide), vs ++ [v], upd_same, by rw [List.length_append, h2]; rfl, z2⟩
  · obtain ⟨vs, h1, h2, p⟩ := p
    exact h L vs Hc hL h1 h2 p
/-- the heap but for one place -/
def hide (L : Addr) (H : Hp) : Hp := fun b => if b = L then none else H b
theorem hide_ne {L b : Addr} {H : Hp} (h : b ≠ L) : hide L H b = H b := if_neg h
theorem hide_ex {L : Addr} {H : Hp} : Ex (hide L H) H := fun b o e => by
  by_cases h : b = L
  · rw [h] at e
    have z : hide L H L = none := if_pos rfl
    rw [z] at e
    cases e
  · rw [hide_ne h] at e
    exact e
theorem hide_mono {L : Addr} {H H' : Hp} (k : ∀ b o, b ≠ L → H b = some o → H' b = some o) : Ex (hide L H) (hide L H') := fun b o e => by
  by_cases h : b = L
  · rw [h] at e
    have z : hide L H L = none := if_pos rfl
    rw [z] at e
    cases e
  · rw [hide_ne h] at e ⊢
    exact k b o h e
theorem ex_hide {L : Addr} {H H' : Hp} (hL : H L = none) (e : Ex H H') : Ex H (hide L H') := fun b o q => by
  rw [hide_ne (ne_of_none q hL)]
  exact e b o q
/-- each value is new or stood before: R of the turn, the value and the heap without the new list -/
theorem lc_new {J : It} {n j : Nat} {G : Hp → Prop} {Y : Nat → Hp → V → Hp → Prop} {xs : Nat → V} {σ : L2.St} {H : Hp} {Q : VK} {te : TE} (R : Nat → V → Hp → Prop) (w : Walk J n G Y) (hY : ∀ i H x H', i < n → Y i H x H' → H' = H ∧ x = xs i) (hn : n < 100000)
    (hG : ∀ Hc, Ex H Hc → G Hc) (mR : ∀ i v H1 H2, Ex H1 H2 → R i v H1 → R i v H2)
    (he : ∀ L i Hc, i < n → H L = none → (∃ vs, Hc L = some (.lst vs)) → Ex H Hc → ∀ N : VK, (∀ v H2, Ex Hc H2 → R i v (hide L H2) → N v H2) → te ((wipe σ [j]).set j (some (xs i))) Hc N)
    (h : ∀ L vs Hc, H L = none → Ex H Hc → Hc L = some (.lst vs) → vs.length = n → (∀ i v, vs[i]? = some v → R i v (hide L Hc)) → Q (.ref L) Hc) : lcB (gName j) tYes te [j] σ Q J H := by
  refine lc_gen (fun L i vs Hc => Ex H Hc ∧ ∀ i v, vs[i]? = some v → R i v (hide L Hc)) w hY hn (fun L hL => ⟨Evl.Ex.new hL, fun i v z => by cases z⟩) (fun L i vs Hc _ p => hG Hc p.1) (fun L i vs Hc hi hL h1 h2 p N hN => ?_) (fun L vs Hc hL h1 h2 p => h L vs Hc hL p.1 h1 h2 p.2)
  refine he L i Hc hi hL ⟨vs, h1⟩ p.1 N fun v H2 e2 r2 => hN v H2 (e2 L _ h1) ?_
  have kp : Ex (hide L H2) (hide L (upd H2 L (.lst (vs ++ [v])))) := hide_mono fun b o hb q => by rw [upd_ne hb]; exact q
  have kp0 : Ex (hide L Hc) (hide L H2) := hide_mono fun b o _ q => e2 b o q
  refine ⟨Evl.Ex.mut (p.1.trans e2) hL, fun i' v' hv => ?_⟩
  by_cases hlt : i' < vs.length
  · rw [List.getElem?_append_left hlt] at hv
    exact mR _ _ _ _ (kp0.trans kp) (p.2 i' v' hv)
  · rw [List.getElem?_append_right (by omega)] at hv
    have e0 : i' - vs.length = 0 := by
      rcases Nat.eq_zero_or_pos (i' - vs.length) with z | z
      · exact z
      · rw [List.getElem?_eq_none (by simp; omega)] at hv
        cases hv
    rw [e0] at hv
    obtain rfl : v = v' := Option.some.inj hv
    have e3 : i' = i := by omega
    rw [e3]
    exact mR _ _ _ _ kp r2

theorem rd_sfld {K : PySem.W.Frag} {ta tv : TE} {f : Str} {D : Ends} {σ : L2.St} {H : Hp} (h : tv σ H fun y H1 => ta σ H1 fun x H2 => ∃ a C dx fs, x = .ref a ∧ H2 a = some (.ins C dx fs) ∧ Cls K C ∧ NoAttr K C f ∧ fs.length < 1000 ∧ D.nx σ (upd H2 a (.ins C dx (putF f y fs)))) : sFld K ta tv f D σ H := h
theorem kSf {X : Cx} (K : PySem.W.Frag) (hK : X.K = K := by rfl) {st : Stmt} {ta tv : TE} {f : Str} (h : PS X st (sFld X.K ta tv f)) : PS X st (sFld K ta tv f) := hK ▸ h

section
variable {K : PySem.W.Frag} {σ : L2.St} {H : Hp} {Q : VK} {te to : TE} {t : TA} {C : Addr} {m f : Str} {sp : Sp} {W : WX} {dvs : List V} {E : XK}
theorem rd_makeR (h : t σ H fun vs H1 => ∀ x dx, H1 x = none → H1 dx = none → dx ≠ x → sp (.ref x :: vs) (upd (upd H1 dx (.own x)) x (.ins C dx [])) (fun v H2 => v = .non ∧ Q (.ref x) H2) fun c d H2 => W c d σ H2) : tMakeR C sp W t σ H Q := h
theorem rd_methR (h : to σ H fun x H1 => ∃ a dx fs, x = .ref a ∧ H1 a = some (.ins C dx fs) ∧ fs.lookup m = none ∧ t σ H1 fun vs H2 => sp (x :: vs) H2 Q fun c d H3 => W c d σ H3) : tMethR C m sp W to t σ H Q := h
theorem rd_meth (h : to σ H fun x H1 => ∃ a dx fs, x = .ref a ∧ H1 a = some (.ins C dx fs) ∧ fs.lookup m = none ∧ t σ H1 fun vs H2 => sp (x :: (vs ++ dvs)) H2 Q E) : tMeth C m sp dvs E to t σ H Q := h
theorem rd_notV (h : te σ H fun x H1 => ∃ c, x = .bl c ∧ Q (.bl (!c)) H1) : tNotV te σ H Q := h
theorem rd_xf {a : Addr} {cls : Value} {d : Option Addr} {C : Addr} {f : Str} (h : te σ H fun x H1 => x = .ref a ∧ cls = .ref C ∧ ∃ (dd : Addr) (fs : List (Str × V)) (v : V), d = some dd ∧ H1 dd = some (.xd fs) ∧ fs.lookup f = some v ∧ Q v H1) : tXf a cls d C f te σ H Q := h
end
/-! ### more on comprehensions, numbers, texts -/
theorem look_map {f : NameKind → Bool} : ∀ (l : List (Str × NameKind)) (y : Str), (l.lookup y = some .cell ∨ l.lookup y = some .free) → ∀ g : Str × NameKind → Str × NameKind, (∀ n k, g (n, k) = (n, k) ∨ (k = .free ∧ g (n, k) = (n, .cell))) → ((l.map g).lookup y = some .cell ∨ (l.map g).lookup y = some .free)
  | [], _, h, _, _ => by rcases h with h | h <;> cases h
  | (n, k) :: l, y, h, g, hg => by
    rw [List.map_cons]
    rw [List.lookup_cons] at h
    cases e : y == n with
    | true =>
      rw [e] at h
      rcases hg n k with z | ⟨z1, z2⟩
      · rw [z, List.lookup_cons, e]; exact h
      · rw [z2, List.lookup_cons, e]; exact .inl rfl
    | false =>
      rw [e] at h
      have ih := look_map (f := f) l y h g hg
      rcases hg n k with z | ⟨z1, z2⟩
      · rw [z, List.lookup_cons, e]; exact ih
      · rw [z2, List.lookup_cons, e]; exact ih
theorem blkOk_in {X : Cx} {N : List Str} (hN : X.N = N) {s : Shared} {H : Hp} {sc0 scope : Scope} {C : Addr} {cl : List (Str × Addr)} {fp : List Addr} {own : List (Str × Nat)} (h : blkC N sc0 scope own = true) :
    BlkOk (X.blk s H sc0 (compEnvC sc0 cl C X.env) fp).N (X.blk s H sc0 (compEnvC sc0 cl C X.env) fp).env.scope scope own := by
  subst hN
  have b := blkOk_by h
  refine ⟨b.kind, b.uniq, b.ix, fun y hy hf => ?_, b.own⟩
  refine look_map (f := fun _ => true) _ _ (b.free y hy hf) _ fun n k => ?_
  by_cases c : (k == NameKind.free && X.env.scope.kind == ScopeKind.function && X.env.kindOf n == some NameKind.cell) = true
  · right
    refine ⟨?_, if_pos c⟩
    have c1 : (k == NameKind.free) = true := by
      rw [Bool.and_eq_true, Bool.and_eq_true] at c
      exact c.1.1
    cases k <;> first | rfl | cases c1
  · left
    exact if_neg c
theorem given_range (v : Nat → V) : ∀ n, Evl.given n (fun _ => true) v = (List.range n).map v
  | 0 => rfl
  | n + 1 => by rw [Evl.given_yes rfl, given_range v n, List.range_succ, List.map_append]; rfl
/-- a comprehension whose parts leave the heap, without a test -/
theorem lc_map {J : It} {n j : Nat} {G : Hp → Prop} {Y : Nat → Hp → V → Hp → Prop} {xs v : Nat → V} {σ : L2.St} {H : Hp} {Q : VK} {te : TE} (w : Walk J n G Y) (hY : ∀ i H x H', i < n → Y i H x H' → H' = H ∧ x = xs i) (hG : ∀ Hc, Ex H Hc → G Hc) (hn : n < 100000)
    (he : ∀ i Hc, i < n → Ex H Hc → Val te ((wipe σ [j]).set j (some (xs i))) Hc (v i))
    (h : ∀ L, H L = none → Q (.ref L) (upd H L (.lst ((List.range n).map v)))) : lcB (gName j) tYes te [j] σ Q J H := by
  refine lc_pure (f := fun _ => true) w hY hG hn (fun _ _ _ _ => ans_yes) (fun i Hc hi e _ => he i Hc hi e) fun L hL => ?_
  rw [given_range]
  exact h L hL
theorem walk_range0 {n : Nat} : Walk (Itr 0 n) n (fun _ => True) fun i H x H' => H' = H ∧ x = V.int (i : Nat) := by
  obtain ⟨a, b, c⟩ := walk_range (lo := 0) (n := n)
  refine ⟨a, b, fun i H x H' hi g y => ?_⟩
  have := c i H x H' hi g y
  refine ⟨this.1, ?_⟩
  rw [this.2]
  show V.int (0 + (i : Int)) = _
  rw [Int.zero_add]
theorem fmod_nat (a m : Nat) : Int.fmod (a : Int) (m : Int) = ((a % m : Nat) : Int) := by
  rw [Int.fmod_eq_emod_of_nonneg _ (Int.natCast_nonneg m)]
  rfl
theorem fold_app (c : Nat) : ∀ (k : Nat) (a : Array Nat), (List.foldl (fun x y => x ++ y) a (List.replicate k #[c])).toList = a.toList ++ List.replicate k c
  | 0, a => by simp
  | k + 1, a => by
    rw [List.replicate_succ, List.foldl_cons, fold_app c k, List.replicate_succ]
    simp
theorem mul_sign (c : Nat) (n : Int) (h : 0 < n) : (Txt.mul ⟨#[c]⟩ n).cps.toList = List.replicate n.toNat c := by
  unfold Txt.mul
  rw [if_neg (by omega)]
  by_cases e : n = 1
  · subst e; rfl
  · have hb : (n == 1 || (⟨#[c]⟩ : Str).length == 0) = false := by
      have : (⟨#[c]⟩ : Str).length = 1 := rfl
      simp [e, this]
    rw [if_neg (by rw [hb]; decide)]
    show (List.foldl (fun x y => x ++ y) #[] (List.replicate n.toNat #[c])).toList = _
    rw [fold_app]
    rfl
theorem ixN_nat {n j : Nat} (h : j < n) : ixN n (j : Int) = some j := by
  unfold ixN
  rw [if_pos (Int.natCast_nonneg j), if_pos (by omega), Int.toNat_natCast]
theorem seqIndex_nat {n j : Nat} (h : j < n) : seqIndex? (j : Int) n = some j := by
  unfold seqIndex?
  have h0 : ¬ (j : Int) < 0 := by omega
  simp only [h0, if_false]
  rw [if_pos (by simp; omega), Int.toNat_natCast]
theorem erase_map {α β : Type} (f : α → β) : ∀ (l : List α) (j : Nat), (l.map f).eraseIdx j = (l.eraseIdx j).map f
  | [], _ => rfl
  | _ :: _, 0 => rfl
  | a :: l, j + 1 => by
    show f a :: (l.map f).eraseIdx j = f a :: (l.eraseIdx j).map f
    rw [erase_map f l j]
theorem mulOk_sign (c : Nat) {n : Int} (h0 : 0 < n) (h1 : n < 100000) : MulOk ⟨#[c]⟩ n := by
  have e : (⟨#[c]⟩ : Str).length = 1 := rfl
  refine ⟨by simp; omega, fun _ _ => ?_, fun _ _ => ?_⟩
  · rw [e]
    intro hh
    have : ((2:Int) ^ 63 - 1) / n ≥ 1 := by
      refine Int.le_ediv_of_mul_le h0 ?_
      omega
    omega
  · rw [e]
    unfold Builtin.Str.tooLong
    have : sizeLine ≥ 100000 := by decide
    exact decide_eq_false (by omega)
theorem first_at {l : List Nat} {c : Nat} {r : List Nat} (h : l = c :: r) : l.idxOf c = 0 := by
  rw [h]
  exact List.idxOf_cons_self
theorem atI_last {α : Type} {l : List α} (h : 0 < l.length) : atI l (-1) = some (l[l.length - 1]'(by omega)) := by
  have e : ixN l.length (-1) = some (l.length - 1) := by
    unfold ixN
    rw [if_neg (by decide), if_pos (by omega)]
    congr 1
    omega
  show (ixN l.length (-1)).bind (fun j => l[j]?) = _
  rw [e]
  exact List.getElem?_eq_getElem _
end AT

set_option Elab.async false
set_option linter.all false
set_option maxRecDepth 100000
set_option maxHeartbeats 4000000
/-! own words, third part: a law's own def, run where nothing is being shown; the repr of data -/
namespace AT
open PySem PySem.Spec L2
/-- as FnOk, but only where no repr is under way -/
structure FnG (P : Program) (w : World) (K : PySem.W.Frag) (mg : Str → Option Value) (base : Heap) (CX : CXT) (k : Nat) (f : Addr) (fd : FuncData) (ps : List Str) (sp : Sp) : Prop where
  len : ∀ vs H Q E, sp vs H Q E → vs.length = ps.length
  run : ∀ (A : Around) (outer : List Env) (s : Shared) (H : Hp) (args : Args) (us : List Value) (vs : List V) (Q : VK) (E : XK), A.guards = some [] → Room k A → Env0 P w K mg base A outer s H → BindsTo s fd args (ps.zip us) → Vals vs us → sp vs H Q E →
    codeAny (model P w) A (.call (.ref f) args) (CR CX outer P w H s Q E) s
theorem fn_ofG {CX : CXT} {P : Program} {w : World} {K : PySem.W.Frag} {mg : Str → Option Value} {base : Heap} {k : Nat} {f : Addr} {name qual : Str} {params : Arguments} {body : List Stmt} {scope : Scope} {dV kV doc pm cdv ct oc : Value} {an od : Option Addr} {osl : Array (Option Value)} {N ps : List Str} {sp : Sp}
    (lk : List.lookup f K = some { cls := oc, dict := od, data := Data.func (PySem.W.fnOf name qual params body scope dV kV doc pm an cdv ct), slots := osl }) (hcd : PySem.W.codeIn K cdv qual = true) (S : FnScope N ps scope)
    (len : ∀ vs H Q E, sp vs H Q E → vs.length = ps.length)
    (hb : ∀ (A : Around) (outer : List Env) (s : Shared) (H : Hp) (vs : List V) (Q : VK) (E : XK), A.guards = some [] → Room k (A.deeper (PyProof.Rows.envOfC qual scope s.heap.objs.size f cdv)) → sp vs H Q E →
      ∃ t, PSs (cxOf CX P w K mg base N qual scope f cdv A outer s H E) body t ∧ t { nx := fun _ H' => Q .non H', rt := Q } (L2.start N vs) H) :
    FnG P w K mg base CX (k + 1) f (PySem.W.fnOf name qual params body scope dV kV doc pm an cdv ct) ps sp := by
  refine ⟨len, fun A outer s H args us vs Q E hg hr e0 bd rv hsp => ?_⟩
  have hl := len vs H Q E hsp
  have KX : K.In s.heap := e0.mod.kin.keeps fun b o e => (e0.bs b o e).1
  have lim : s.heap.NoLimit := e0.mod.nolimit.keeps fun b o e => (e0.bs b o e).1
  refine codeAny_call_function hr.depth (KX f _ lk) rfl S.co S.gen rfl (PySem.W.codeRec_of KX hcd) (bd _ _ _ _ ?_)
  refine wpAny_newFunctionEnv_cells S.kind (fun x hx => ?_) fun env he s1 x => ?_
  · obtain ⟨n, v⟩ := x
    rcases S.par n (List.of_mem_zip hx).1 with q | q
    · exact .inl q
    · exact .inr ⟨q, PySem.W.cellsFrom_some scope.names (s.heap.objs.size + 1) [] (.inl q)⟩
  · subst he
    refine ⟨lim.keeps x.toInCall.keep, codeAny_func ?_⟩
    obtain ⟨t, ht, hq⟩ := hb A outer s H vs Q E hg (hr.deeper _) hsp
    have I := inv_start (CX := CX) (E := E) S hr.hd e0 hl rv x
    refine wpAny_mono (ht.run [] s1 (L2.start N vs) H _ I hq) (fun fl s' hs => ?_) fun e s' hs => hs
    cases fl with
    | next =>
      obtain ⟨σ', H', J, q⟩ := hs
      exact ⟨.non, H', J.os, J.bare, J.base, J.hok, rfl, q⟩
    | brk =>
      obtain ⟨_, _, _, q⟩ := hs
      exact q.elim
    | cont =>
      obtain ⟨_, _, _, q⟩ := hs
      exact q.elim
    | ret u =>
      obtain ⟨v, σ', H', J, rv, q⟩ := hs
      exact ⟨v, H', J.os, J.bare, J.base, J.hok, rv, q⟩
theorem _root_.L2.Fun.okG {P : Program} {w : World} {K : PySem.W.Frag} {mg : Str → Option Value} {base : Heap} {x qual : Str} {st : Stmt} {f : Addr} {fd : FuncData} {N ps : List Str} {k : Nat} {sp : Sp} (F : Fun K x qual st f fd) (S : FnScope N ps (defScope st)) (len : ∀ vs H Q E, sp vs H Q E → vs.length = ps.length)
    (hb : ∀ (cdv : Value) (A : Around) (outer : List Env) (s : Shared) (H : Hp) (vs : List V) (Q : VK) (E : XK), A.guards = some [] → Room k (A.deeper (PyProof.Rows.envOfC qual (defScope st) s.heap.objs.size f cdv)) → sp vs H Q E →
      ∃ t, PSs (cxOf CX0 P w K mg base N qual (defScope st) f cdv A outer s H E).nox (defBody st) t ∧ t { nx := fun _ H' => Q .non H', rt := Q } (L2.start N vs) H) : FnG P w K mg base CX0 (k + 1) f fd ps sp := by
  obtain ⟨oc, od, kV, doc, pm, an, cdv, ct, osl, rfl, lk, hcd⟩ := F.ex
  refine fn_ofG lk hcd S len fun A outer s H vs Q E hg hr hsp => ?_
  obtain ⟨t, h, q⟩ := hb cdv A outer s H vs Q E hg hr hsp
  exact ⟨t, PSs.nox h, q⟩
theorem law_callG {P : Program} {w : World} {K : PySem.W.Frag} {mg mb : Str → Option Value} {k : Nat} {fa a : Addr} {fd : FuncData} {x : Str} {sp : Sp} {s₁ : Shared} {vs : List Value} {ns : List Int}
    (KX : K.In s₁.heap) (hns : s₁.heap.Ns mainGlobals mg) (hb : s₁.heap.Ns builtinsNs mb) (hbb : ∀ x : Str, x ≠ "__name__" → mb x = bootBuiltins x) (hlim : s₁.heap.NoLimit) (hg : s₁.gens = #[]) (ha : s₁.heap.get? a = some { cls := .type "list", data := .seq vs.toArray })
    (hi : PyProof.Rows.IntsAre vs ns) (hl : ns.length ≤ sizeLine) (hr : Room k callerA) (F : ∀ base : Heap, K.In base → base.Ns mainGlobals mg → FnG P w K mg base CX0 k fa fd [x] sp) (hbind : ∀ (s : Shared) (u : Value), BindsTo s fd { pos := [u] } [(x, u)])
    (hsp : ∀ H : Hp, Only H → SqL K H a (ns.map V.int) → sp [.ref a] H (fun v _ => v = .bl true) E0) :
    codeAny (model P w) callerA (.call (.ref fa) { pos := [.ref a] }) (fun r s' => r = .ok (.ret (.bool true)) ∧ OldK s₁.heap s'.heap ∧ s'.os = s₁.os ∧ PyProof.Rows.AllBare s'.gens) s₁ := by
  have core : ∀ H : Hp, Only H → SqL K H a (ns.map V.int) → HOk P w H s₁.heap → (∀ b, H b ≠ none → b = a) → (H a ≠ none → K.lookup a = none) →
      codeAny (model P w) callerA (.call (.ref fa) { pos := [.ref a] }) (fun r s' => r = .ok (.ret (.bool true)) ∧ OldK s₁.heap s'.heap ∧ s'.os = s₁.os ∧ PyProof.Rows.AllBare s'.gens) s₁ := by
    intro H hO hS hok hA hK
    have nd : ∀ {b : Addr} {o : Obj} {es ep}, s₁.heap.get? b = some o → o.data = .dict es ep → H b = none := by
      intro b o es ep e d
      cases q : H b with
      | none => rfl
      | some u =>
        obtain rfl := hA b (by rw [q]; exact fun z => by cases z)
        rw [ha] at e
        obtain rfl := Option.some.inj e
        cases d
    have nsK : ∀ {b : Addr} {m : Str → Option Value}, s₁.heap.Ns b m → (hidT s₁.heap H).Ns b m := by
      rintro b m ⟨o, es, ep, e, d, r⟩
      exact ⟨o, es, ep, hidT_get e (nd e d), d, r⟩
    have hKb : K.In (hidT s₁.heap H) := fun b o e => hidT_get (KX b o e) (by
      cases q : H b with
      | none => rfl
      | some u =>
        have nb : H b ≠ none := by rw [q]; exact fun z => by cases z
        obtain rfl := hA b nb
        have z := hK nb
        rw [e] at z
        cases z)
    have hM : L2.Mod K mg (hidT s₁.heap H) := ⟨hKb, nsK hns, ⟨mb, nsK hb, hbb⟩, by
      obtain ⟨mc, h1, h2⟩ := hlim
      exact ⟨mc, nsK h1, h2⟩⟩
    have e0 : Env0 P w K mg (hidT s₁.heap H) callerA [] s₁ H := ⟨rfl, hM, fun b o e => of_hidT e, Nat.le_of_eq (hidT_size s₁.heap H), trivial, (fun b z => by cases z), hok, PyProof.Rows.AllBare.of_eq hg⟩
    refine codeAny_mono ((F (hidT s₁.heap H) hKb (nsK hns)).run callerA [] s₁ H { pos := [.ref a] } [.ref a] [.ref a] _ E0 rfl hr e0 (hbind s₁ (.ref a)) (.cons rfl .nil) (hsp H hO hS)) fun r s' z => ?_
    cases r with
    | error e => exact absurd z fun z => by cases z
    | ok fl =>
      cases fl with
      | next => exact z.elim
      | brk => exact z.elim
      | cont => exact z.elim
      | ret u =>
        obtain ⟨v, H', os, bare, un, hok', rv, rfl⟩ := z
        obtain rfl : u = .bool true := rv
        refine ⟨rfl, OldK.of_keep fun b o e => ?_, os, bare⟩
        cases q : H b with
        | none => exact un.keep b o e q (fun z => by cases z) (fun z => by cases z)
        | some u =>
          rcases hO b with z | ⟨ob, xs, z⟩
          · rw [z] at q; cases q
          · have z2 := un.frzs b ob (.lst xs) z
            have e1 := (hok b _ z).1
            have e2 := (hok' b _ z2).1
            rw [e] at e1
            rw [e2, e1]
  cases hk : K.lookup a with
  | none =>
    refine core (fun b => if b = a then some (.frz { cls := .type "list", data := .seq vs.toArray } (.lst (ns.map V.int))) else none) (fun b => ?_) (.inl (.inr ⟨_, if_pos rfl⟩)) (fun b u z => ?_) (fun b z => ?_) fun _ => hk
    · by_cases e : b = a
      · exact .inr ⟨_, _, if_pos e⟩
      · exact .inl (if_neg e)
    · by_cases e : b = a
      · subst e
        have z' := (if_pos rfl).symm.trans z
        obtain rfl := Option.some.inj z'
        exact ⟨ha, by rw [List.length_map]; exact hl, vs, _, vals_ints hi, ha⟩
      · have z' := (if_neg e).symm.trans z
        cases z'
    · by_cases e : b = a
      · exact e
      · exact absurd (if_neg e) z
  | some o =>
    refine core (fun _ => none) (fun _ => .inl rfl) ?_ (fun b u z => by cases z) (fun b z => absurd rfl z) fun z => absurd rfl z
    have e := KX a o hk
    rw [ha] at e
    obtain rfl := Option.some.inj e
    refine .inr ⟨_, vs.toArray, _, hk, rfl, rfl, rfl, ?_, vals_ints hi⟩
    have := PyProof.Rows.IntsAre.length hi
    rw [List.size_toArray]
    omega
theorem walk_ofG {l : PySem.W.OpenLaw} {n k : Nat} {q : Program} {loose : List Str} {XP : (Str → Option Value) → Heap → Prop} {YP : World → Heap → Prop} {d : DefRec} {K : Params → PySem.W.Frag} {sp : PySem.W.Frag → Sp} {x : Str}
    (hn : l.most = some n) (hn2 : n ≤ sizeLine) (hdf : d.params.defaults = []) (hr : Room k callerA) (hY : ∀ (w : World) (h : Heap), YP w h → (K w.params).In h)
    (F : ∀ (w : World) (mg : Str → Option Value) (fa : Addr) (h : Heap), (K w.params).In h → h.Ns mainGlobals mg → mg d.name = some (.ref fa) → ∃ fd, (∀ (s : Shared) (u : Value), BindsTo s fd { pos := [u] } [(x, u)]) ∧ ∀ base : Heap, (K w.params).In base → base.Ns mainGlobals mg → FnG l.prog w (K w.params) mg base CX0 k fa fd [x] (sp (K w.params)))
    (hsp : ∀ (K : PySem.W.Frag) (H : Hp) (a : Addr) (ns : List Int), ns.length ≤ n → Only H → SqL K H a (ns.map V.int) → sp K [.ref a] H (fun v _ => v = .bl true) E0) : PySem.W.WalkO q loose XP YP l.row.toRowW d [] fun f vs => PySem.call f vs :=
  Att.attach_call hn hdf fun w s₀ s₁ mg mb fa o pm cd doc a vs ns G Y ho hd hcd hmg hobj hints hlen hg => by
    obtain ⟨fd, hb, hF⟩ := F w mg fa s₁.heap (hY w s₁.heap Y) G.T.g hmg
    exact law_callG (hY w s₁.heap Y) G.T.g G.T.b G.T.builtins G.T.nolimit hg hobj hints (Nat.le_trans hlen hn2) hr hF hb fun H hO hS => hsp _ H a ns hlen hO hS
/-- repr(v): v lists and tuples of plain values -/
def cReprD (K : PySem.W.Frag) : List V → Hp → VK → Prop := fun xs H Q => cRepr xs H Q ∨ ∃ (a : Addr) (d : PyData), xs = [.ref a] ∧ Dp K H (.ref a) d ∧ d.showable = true ∧ d.hasDict = false ∧ d.depth ≤ 60 ∧ d.shown.length ≤ sizeLine ∧ Q (.str d.shown) H
theorem call_reprD {X : Cx} (hg : X.A.guards = some []) (hu : X.A.units + 64 < cLine) : CallR X (.builtin "repr") (cReprD X.K) := by
  refine CallR.or call_reprP ?_
  intro P s σ H vs us Q I r h
  obtain ⟨a, d, rfl, hd, sh, nd, dl, sl, q⟩ := h
  obtain ⟨u, rfl, ru⟩ := vals1 r
  cases (show u = Value.ref a from ru)
  obtain ⟨as, rd⟩ := Dp.reads I d _ _ hd ru
  refine repr_of_reads' rd sh (fun z => by rw [nd] at z; cases z) hg (by omega) (fun b o e => e) (fun h' u tk hk => ?_) sl
  exact ⟨.str d.shown, H, I.kept hk, ⟨u, rfl⟩, q⟩
/-! ### how long what is shown may be -/
theorem join_len (sep : Str) (B : Nat) : ∀ ss : List Str, (∀ s ∈ ss, s.length ≤ B) → (Str.join sep ss).length ≤ ss.length * (B + sep.length)
  | [], _ => by unfold Str.join; exact Nat.zero_le _
  | [x], h => by
    unfold Str.join
    have := h x List.mem_cons_self
    simp
    omega
  | x :: y :: r, h => by
    have ih := join_len sep B (y :: r) fun s hs => h s (List.mem_cons_of_mem _ hs)
    have hx := h x List.mem_cons_self
    unfold Str.join
    rw [TL.len_tl, TL.tl_append, TL.tl_append, List.length_append, List.length_append, ← TL.len_tl, ← TL.len_tl, ← TL.len_tl]
    rw [List.length_cons, Nat.succ_mul]
    omega
theorem tuple_len {B : Nat} {ss : List Str} (h : ∀ s ∈ ss, s.length ≤ B) : (tupleText ss).length ≤ ss.length * (B + 2) + 3 := by
  have j := join_len (Str.ofString ", ") B ss h
  have e2 : (Str.ofString ", ").length = 2 := by decide +kernel
  rw [e2] at j
  unfold tupleText
  rw [TL.len_tl, TL.tl_append, TL.tl_append, List.length_append, List.length_append, ← TL.len_tl, ← TL.len_tl, ← TL.len_tl]
  have e1 : (Str.ofString "(").length = 1 := by decide +kernel
  have e3 : (Str.ofString (if (ss.length == 1) = true then ",)" else ")")).length ≤ 2 := by
    cases (ss.length == 1) <;> decide +kernel
  omega
theorem foldl_len {f : Nat → Array Nat} {B : Nat} : ∀ (l : List Nat) (a : Array Nat), (∀ c ∈ l, (f c).size ≤ B) → (l.foldl (fun out c => out ++ f c) a).size ≤ a.size + l.length * B
  | [], a, _ => by simp
  | c :: l, a, h => by
    have ih := foldl_len (f := f) (B := B) l (a ++ f c) fun d hd => h d (List.mem_cons_of_mem _ hd)
    have hc := h c List.mem_cons_self
    rw [List.foldl_cons, List.length_cons, Nat.succ_mul]
    rw [Array.size_append] at ih
    omega
theorem repr_len {z : Str} {B : Nat} (h : ∀ c ∈ z.cps.toList, (Builtin.Str.reprChar (reprQuote z) c).length ≤ B) : (reprText z).length ≤ 2 + z.length * B := by
  show ((Array.foldl (fun out c => out ++ (Builtin.Str.reprChar (reprQuote z) c).toArray) #[reprQuote z] z.cps).push (reprQuote z)).size ≤ _
  rw [Array.size_push, ← Array.foldl_toList]
  have := foldl_len (f := fun c => (Builtin.Str.reprChar (reprQuote z) c).toArray) (B := B) z.cps.toList #[reprQuote z] (fun c hc => by rw [List.size_toArray]; exact h c hc)
  have e : z.cps.toList.length = z.length := rfl
  rw [e] at this
  have e1 : (#[reprQuote z] : Array Nat).size = 1 := rfl
  omega
theorem quote_or (z : Str) : reprQuote z = 34 ∨ reprQuote z = 39 := by
  unfold reprQuote
  split
  · exact .inl rfl
  · exact .inr rfl
theorem repr_pl : ∀ c ∈ ("abcdefghijklmnopqrstuvwxyzABCDEFGHIJKLMNOPQRSTUVWXYZ0123456789<>=:_@#" : Str).cps.toList, (Builtin.Str.reprChar 34 c).length ≤ 10 ∧ (Builtin.Str.reprChar 39 c).length ≤ 10 := by decide +kernel
theorem small_text : ∀ n : Nat, n < 100 → (Str.ofString (toString (n : Int))).length ≤ 4 ∧ (n : Int).natAbs.log2 < 1920 := by decide +kernel
/-- data that may be shown: at most so long, so deep -/
structure Okd (d : PyData) (L D : Nat) : Prop where
  sh : d.showable = true
  nd : d.hasDict = false
  dp : d.depth ≤ D
  ln : d.shown.length ≤ L
theorem Okd.mono {d : PyData} {L D L' D' : Nat} (h : Okd d L D) (h1 : L ≤ L') (h2 : D ≤ D') : Okd d L' D' := ⟨h.sh, h.nd, Nat.le_trans h.dp h2, Nat.le_trans h.ln h1⟩
theorem Okd.bool (b : Bool) : Okd (.bool b) 5 0 := ⟨rfl, rfl, Nat.le_refl 0, by cases b <;> decide +kernel⟩
theorem Okd.int {n : Nat} (h : n < 100) : Okd (.int (n : Int)) 4 0 := ⟨decide_eq_true (small_text n h).2, rfl, Nat.le_refl 0, (small_text n h).1⟩
theorem Okd.str {z : Str} (h : ∀ c ∈ z.cps.toList, c ∈ ("abcdefghijklmnopqrstuvwxyzABCDEFGHIJKLMNOPQRSTUVWXYZ0123456789<>=:_@#" : Str).cps.toList) : Okd (.str z) (2 + z.length * 10) 0 := ⟨rfl, rfl, Nat.le_refl 0, repr_len fun c hc => by
  rcases quote_or z with e | e <;> rw [e]
  · exact (repr_pl c (h c hc)).1
  · exact (repr_pl c (h c hc)).2⟩
theorem all_okd {L D : Nat} : ∀ xs : List PyData, (∀ x ∈ xs, Okd x L D) → PyData.showableAll xs = true ∧ PyData.hasDictAll xs = false ∧ PyData.depthAll xs ≤ D ∧ (∀ s ∈ PyData.shownAll xs, s.length ≤ L) ∧ (PyData.shownAll xs).length = xs.length
  | [], _ => ⟨rfl, rfl, Nat.zero_le _, (fun s hs => by cases hs), rfl⟩
  | x :: xs, h => by
    obtain ⟨a, b, c, d, e⟩ := all_okd xs fun y hy => h y (List.mem_cons_of_mem _ hy)
    have hx := h x List.mem_cons_self
    refine ⟨?_, ?_, ?_, fun s hs => ?_, ?_⟩
    · show (x.showable && PyData.showableAll xs) = true
      rw [hx.sh, a]; rfl
    · show (x.hasDict || PyData.hasDictAll xs) = false
      rw [hx.nd, b]; rfl
    · show max x.depth (PyData.depthAll xs) ≤ D
      exact Nat.max_le.mpr ⟨hx.dp, c⟩
    · have hs' : s ∈ x.shown :: PyData.shownAll xs := hs
      rcases List.mem_cons.mp hs' with z | z
      · rw [z]; exact hx.ln
      · exact d s z
    · show (x.shown :: PyData.shownAll xs).length = _
      rw [List.length_cons, e]
      rfl
theorem Okd.tuple {L D : Nat} {xs : List PyData} (h : ∀ x ∈ xs, Okd x L D) : Okd (.tuple xs) (xs.length * (L + 2) + 3) (D + 1) := by
  obtain ⟨a, b, c, d, e⟩ := all_okd xs h
  refine ⟨a, b, Nat.succ_le_succ c, ?_⟩
  have := tuple_len d
  rw [e] at this
  exact this
section
variable {X : Cx} (K : PySem.W.Frag)
theorem kReprD (hg : X.A.guards = some []) (hu : X.A.units + 64 < cLine) (hK : X.K = K := by rfl) : CallR X (.builtin "repr") (cReprD K) := hK ▸ call_reprD hg hu
end
theorem rd_reprBD {K : PySem.W.Frag} {b : Bool} {H : Hp} {Q : VK} (h : Q (.str (if b then "True" else "False")) H) : cReprD K [.bl b] H Q := .inl (rd_reprB h)
theorem rd_reprD {K : PySem.W.Frag} {a : Addr} {d : PyData} {L D : Nat} {H : Hp} {Q : VK} (h1 : Dp K H (.ref a) d) (h2 : Okd d L D) (hL : L ≤ sizeLine) (hD : D ≤ 60) (h : Q (.str d.shown) H) : cReprD K [.ref a] H Q := .inr ⟨a, d, rfl, h1, h2.sh, h2.nd, Nat.le_trans h2.dp hD, Nat.le_trans h2.ln hL, h⟩
/-! ### signs, joined -/
theorem fold_signs : ∀ (cs : List Nat) (a : Array Nat), (List.foldl (fun acc (p : Str) => acc ++ (Str.ofString "").cps ++ p.cps) a (cs.map fun c => (⟨#[c]⟩ : Str))).toList = a.toList ++ cs
  | [], a => by simp
  | c :: cs, a => by
    rw [List.map_cons, List.foldl_cons, fold_signs cs]
    have e : (Str.ofString "").cps = #[] := by decide +kernel
    rw [e]
    simp
theorem join_signs (cs : List Nat) : (Txt.join "" (cs.map fun c => (⟨#[c]⟩ : Str))).cps.toList = cs := by
  cases cs with
  | nil => rfl
  | cons c cs =>
    show (List.foldl (fun acc (p : Str) => acc ++ (Str.ofString "").cps ++ p.cps) #[c] (cs.map fun c => (⟨#[c]⟩ : Str))).toList = _
    rw [fold_signs cs #[c]]
    rfl
theorem sum_signs : ∀ cs : List Nat, ((cs.map fun c => (⟨#[c]⟩ : Str)).map (·.length)).sum = cs.length
  | [] => rfl
  | c :: cs => by
    rw [List.map_cons, List.map_cons, List.sum_cons, sum_signs cs, List.length_cons]
    show 1 + cs.length = cs.length + 1
    omega
end AT

set_option Elab.async false
set_option linter.all false
set_option maxRecDepth 100000
set_option maxHeartbeats 4000000
/-! own words, fourth part: values as data, a heap with a hidden part that changes -/
namespace AT
open PySem PySem.Spec L2
section
variable {K : PySem.W.Frag}
mutual
theorem Dp.ex' {H H' : Hp} (e : Ex H H') : ∀ (d : PyData) {v : V}, Dp K H v d → Dp K H' v d
  | .none, _, h => by cases h; exact .non
  | .bool b, _, h => by cases h; exact .bl b
  | .int i, _, h => by cases h; exact .int i
  | .str x, _, h => by cases h; exact .str x
  | .list ds, _, h => by
    cases h with
    | lst hs ha => exact .lst (Evl.ex_l e hs) (DpAll.ex' e ds ha)
  | .tuple ds, _, h => by
    cases h with
    | tup hs ha => exact .tup (Evl.ex_t e hs) (DpAll.ex' e ds ha)
  | .dict _, _, h => by cases h
theorem DpAll.ex' {H H' : Hp} (e : Ex H H') : ∀ (ds : List PyData) {vs : List V}, DpAll K H vs ds → DpAll K H' vs ds
  | [], _, h => by cases h; exact .nil
  | d :: ds, _, h => by
    cases h with
    | cons h1 h2 => exact .cons (Dp.ex' e d h1) (DpAll.ex' e ds h2)
end
theorem _root_.L2.Dp.ex {H H' : Hp} {v : V} {d : PyData} (h : Dp K H v d) (e : Ex H H') : Dp K H' v d := Dp.ex' e d h
theorem _root_.L2.DpAll.ex {H H' : Hp} {vs : List V} {ds : List PyData} (h : DpAll K H vs ds) (e : Ex H H') : DpAll K H' vs ds := DpAll.ex' e ds h
theorem _root_.L2.DpAll.len {H : Hp} : ∀ {vs : List V} {ds : List PyData}, DpAll K H vs ds → vs.length = ds.length
  | _, _, .nil => rfl
  | _, _, .cons _ t => by rw [List.length_cons, List.length_cons, t.len]
theorem _root_.L2.DpAll.get {H : Hp} : ∀ {vs : List V} {ds : List PyData} {i : Nat} {d : PyData}, DpAll K H vs ds → ds[i]? = some d → ∃ v, vs[i]? = some v ∧ Dp K H v d
  | _, _, i, d, .nil, e => by simp at e
  | _, _, 0, d, .cons (v := v) h _, e => by
    simp at e
    subst e
    exact ⟨v, rfl, h⟩
  | _, _, i + 1, d, .cons _ t, e => by
    obtain ⟨v, h1, h2⟩ := t.get (i := i) (d := d) (by simpa using e)
    exact ⟨v, by simpa using h1, h2⟩
theorem _root_.L2.DpAll.got {H : Hp} {vs : List V} {ds : List PyData} {i : Nat} {v : V} (h : DpAll K H vs ds) (e : vs[i]? = some v) : ∃ d, ds[i]? = some d ∧ Dp K H v d := by
  have hl : i < vs.length := (List.getElem?_eq_some_iff.mp e).1
  have hd : i < ds.length := by rw [← h.len]; exact hl
  obtain ⟨v', h1, h2⟩ := h.get (List.getElem?_eq_getElem hd)
  rw [h1] at e
  obtain rfl := Option.some.inj e
  exact ⟨_, List.getElem?_eq_getElem hd, h2⟩
theorem _root_.L2.DpAll.app {H : Hp} : ∀ {vs : List V} {ds : List PyData} {us : List V} {es : List PyData}, DpAll K H vs ds → DpAll K H us es → DpAll K H (vs ++ us) (ds ++ es)
  | _, _, _, _, .nil, h => h
  | _, _, _, _, .cons h t, q => .cons h (t.app q)
theorem _root_.L2.DpAll.snoc {H : Hp} {vs : List V} {ds : List PyData} {v : V} {d : PyData} (h : DpAll K H vs ds) (q : Dp K H v d) : DpAll K H (vs ++ [v]) (ds ++ [d]) := h.app (.cons q .nil)
theorem DpAll.of {H : Hp} : ∀ {vs : List V} {ds : List PyData}, vs.length = ds.length → (∀ (i : Nat) v d, vs[i]? = some v → ds[i]? = some d → Dp K H v d) → DpAll K H vs ds
  | [], [], _, _ => .nil
  | [], _ :: _, h, _ => by cases h
  | _ :: _, [], h, _ => by cases h
  | v :: vs, d :: ds, h, g => .cons (g 0 v d rfl rfl) (DpAll.of (Nat.succ.inj h) fun i v d h1 h2 => g (i + 1) v d (by simpa using h1) (by simpa using h2))
theorem _root_.L2.DpAll.erase {H : Hp} : ∀ {vs : List V} {ds : List PyData} (i : Nat), DpAll K H vs ds → DpAll K H (vs.eraseIdx i) (ds.eraseIdx i)
  | _, _, _, .nil => .nil
  | _, _, 0, .cons _ t => t
  | _, _, i + 1, .cons h t => .cons h (t.erase i)
theorem _root_.L2.DpAll.set {H : Hp} {v : V} {d : PyData} (q : Dp K H v d) : ∀ {vs : List V} {ds : List PyData} (i : Nat), DpAll K H vs ds → DpAll K H (vs.set i v) (ds.set i d)
  | _, _, _, .nil => .nil
  | _, _, 0, .cons _ t => .cons q t
  | _, _, i + 1, .cons h t => .cons h (t.set q i)
theorem DpAll.mapV {α : Type} {H : Hp} (f : α → V) (g : α → PyData) (l : List α) (h : ∀ x ∈ l, Dp K H (f x) (g x)) : DpAll K H (l.map f) (l.map g) := by
  induction l with
  | nil => exact .nil
  | cons x l ih => exact .cons (h x List.mem_cons_self) (ih fun y hy => h y (List.mem_cons_of_mem _ hy))
/-! the shapes of values -/
theorem Dp.non_iff {H : Hp} {v : V} (h : Dp K H v .none) : v = .non := by cases h; rfl
theorem Dp.int_iff {H : Hp} {v : V} {i : Int} (h : Dp K H v (.int i)) : v = .int i := by cases h; rfl
theorem Dp.str_iff {H : Hp} {v : V} {i : Str} (h : Dp K H v (.str i)) : v = .str i := by cases h; rfl
theorem Dp.bl_iff {H : Hp} {v : V} {i : Bool} (h : Dp K H v (.bool i)) : v = .bl i := by cases h; rfl
theorem Dp.lstv {H : Hp} {v : V} {ds : List PyData} (h : Dp K H v (.list ds)) : ∃ a vs, v = .ref a ∧ SqL K H a vs ∧ DpAll K H vs ds := by
  cases h with
  | lst hs ha => exact ⟨_, _, rfl, hs, ha⟩
theorem Dp.tupv {H : Hp} {v : V} {ds : List PyData} (h : Dp K H v (.tuple ds)) : ∃ a vs, v = .ref a ∧ SqT K H a vs ∧ DpAll K H vs ds := by
  cases h with
  | tup hs ha => exact ⟨_, _, rfl, hs, ha⟩
/-! ### the hidden part -/
def hid (S : List Addr) (H : Hp) : Hp := fun b => if b ∈ S then none else H b
theorem hid_at {S : List Addr} {H : Hp} {b : Addr} (h : b ∉ S) : hid S H b = H b := if_neg h
theorem hid_in {S : List Addr} {H : Hp} {b : Addr} (h : b ∈ S) : hid S H b = none := if_pos h
theorem hid_nil {H : Hp} : hid [] H = H := by
  funext b
  exact if_neg List.not_mem_nil
theorem hid_some {S : List Addr} {H : Hp} {b : Addr} {o : HO} (h : hid S H b = some o) : b ∉ S ∧ H b = some o := by
  by_cases z : b ∈ S
  · rw [hid_in z] at h; cases h
  · exact ⟨z, by rw [hid_at z] at h; exact h⟩
theorem hid_ex {S : List Addr} {H : Hp} : Ex (hid S H) H := fun b o h => (hid_some h).2
theorem hid_sub {S S' : List Addr} {H : Hp} (h : ∀ b ∈ S', b ∈ S) : Ex (hid S H) (hid S' H) := fun b o q => by
  obtain ⟨h1, h2⟩ := hid_some q
  rw [hid_at fun z => h1 (h b z)]
  exact h2
theorem hid_tail {q : Addr} {S : List Addr} {H : Hp} : Ex (hid (q :: S) H) (hid S H) := hid_sub fun _ hb => List.mem_cons_of_mem _ hb
/-- all but S stands -/
def Kp (S : List Addr) (H H' : Hp) : Prop := ∀ b o, b ∉ S → H b = some o → H' b = some o
theorem Kp.refl {S : List Addr} {H : Hp} : Kp S H H := fun _ _ _ h => h
theorem Kp.trans {S : List Addr} {H H1 H2 : Hp} (a : Kp S H H1) (b : Kp S H1 H2) : Kp S H H2 := fun x o hx h => b x o hx (a x o hx h)
theorem Kp.of_ex {S : List Addr} {H H' : Hp} (e : Ex H H') : Kp S H H' := fun b o _ h => e b o h
theorem Kp.ex {S : List Addr} {H H' : Hp} (k : Kp S H H') : Ex (hid S H) (hid S H') := fun b o q => by
  obtain ⟨h1, h2⟩ := hid_some q
  rw [hid_at h1]
  exact k b o h1 h2
theorem Kp.sub {S S' : List Addr} {H H' : Hp} (k : Kp S H H') (h : ∀ b ∈ S, b ∈ S') : Kp S' H H' := fun b o hb q => k b o (fun z => hb (h b z)) q
theorem Kp.put {S : List Addr} {H : Hp} {q : Addr} {o : HO} (h : q ∈ S) : Kp S H (upd H q o) := fun b u hb z => by
  rw [upd_ne (show b ≠ q from fun e => hb (by rw [e]; exact h))]
  exact z
theorem Kp.new {S : List Addr} {H : Hp} {q : Addr} {o : HO} (h : H q = none) : Kp S H (upd H q o) := Kp.of_ex (Evl.Ex.new h)
/-- from what stands in the one hidden part to the other -/
theorem Kp.up {M S : List Addr} {H0 H : Hp} (k : Kp M H0 H) (fr : ∀ q ∈ S, q ∉ M → H0 q = none) : Ex (hid M H0) (hid S H) := fun b o z => by
  obtain ⟨h1, h2⟩ := hid_some z
  rw [hid_at fun hb => ?_]
  · exact k b o h1 h2
  · have := fr b hb h1
    rw [h2] at this
    cases this
theorem Ex.hid {S : List Addr} {H H' : Hp} (e : Ex H H') : Ex (AT.hid S H) (AT.hid S H') := (Kp.of_ex (S := S) e).ex
/-- a list that was changed is let be -/
theorem Dp.frz {S : List Addr} {H : Hp} {q : Addr} {vs : List V} {ds : List PyData} (hq : H q = some (.lst vs)) (hn : q ∉ S) (h : DpAll K (hid (q :: S) H) vs ds) : Dp K (hid S H) (.ref q) (.list ds) :=
  .lst (SqL.of (by rw [hid_at hn]; exact hq)) (h.ex hid_tail)
theorem Dp.frz' {S : List Addr} {H : Hp} {q : Addr} {vs : List V} {ds : List PyData} (hq : H q = some (.lst vs)) (hn : q ∉ S) (h : DpAll K (hid S H) vs ds) : Dp K (hid S H) (.ref q) (.list ds) :=
  .lst (SqL.of (by rw [hid_at hn]; exact hq)) h
/-- a new list, a new tuple -/
theorem notin_of {S : List Addr} {H : Hp} {q : Addr} (hs : ∀ b ∈ S, ∃ o, H b = some o) (hq : H q = none) : q ∉ S := fun z => by
  obtain ⟨o, ho⟩ := hs q z
  rw [hq] at ho
  cases ho
theorem Dp.newT {S : List Addr} {H : Hp} {q : Addr} {vs : List V} {ds : List PyData} (hq : H q = none) (hn : q ∉ S) (h : DpAll K (hid S H) vs ds) : Dp K (hid S (upd H q (.tup vs))) (.ref q) (.tuple ds) :=
  .tup (Evl.st_of (by rw [hid_at hn, upd_same])) (h.ex (Ex.hid (Evl.Ex.new hq)))
theorem Dp.newL {S : List Addr} {H : Hp} {q : Addr} {vs : List V} {ds : List PyData} (hq : H q = none) (hn : q ∉ S) (h : DpAll K (hid S H) vs ds) : Dp K (hid S (upd H q (.lst vs))) (.ref q) (.list ds) :=
  .lst (SqL.of (by rw [hid_at hn, upd_same])) (h.ex (Ex.hid (Evl.Ex.new hq)))
/-! ### reading -/
section
variable {σ : L2.St} {H H0 : Hp} {Q : VK} {x : V} {ds : List PyData} {d : PyData} {i : Nat}
theorem rd_ixDT (e : Ex H0 H) (h : Dp K H0 x (.tuple ds)) (hi : ds[i]? = some d) (q : ∀ v, Dp K H0 v d → Q v H) : rIx K x (.int (i : Int)) H Q := by
  obtain ⟨a, vs, rfl, h1, h2⟩ := Dp.tupv h
  obtain ⟨v, hv, hd⟩ := h2.get hi
  exact rd_ixT (Evl.ex_t e h1) (atI_nat hv) (q v hd)
theorem rd_ixDL (e : Ex H0 H) (h : Dp K H0 x (.list ds)) (hi : ds[i]? = some d) (q : ∀ v, Dp K H0 v d → Q v H) : rIx K x (.int (i : Int)) H Q := by
  obtain ⟨a, vs, rfl, h1, h2⟩ := Dp.lstv h
  obtain ⟨v, hv, hd⟩ := h2.get hi
  exact rd_ixL (Evl.ex_l e h1) (atI_nat hv) (q v hd)
theorem rd_lenDT (e : Ex H0 H) (h : Dp K H0 x (.tuple ds)) (q : Q (.int (ds.length : Int)) H) : cLen K [x] H Q := by
  obtain ⟨a, vs, rfl, h1, h2⟩ := Dp.tupv h
  exact rd_lenT (Evl.ex_t e h1) (by rw [h2.len]; exact q)
theorem rd_lenDL (e : Ex H0 H) (h : Dp K H0 x (.list ds)) (q : Q (.int (ds.length : Int)) H) : cLen K [x] H Q := by
  obtain ⟨a, vs, rfl, h1, h2⟩ := Dp.lstv h
  exact rd_lenL (Evl.ex_l e h1) (by rw [h2.len]; exact q)
def oIs : R2 := fun x y H Q => y = .non ∧ Q (.bl (decide (x = .non))) H
theorem rd_is {P : Prop} (h : P) : V.non = V.non ∧ P := ⟨rfl, h⟩
/-- == of the same data -/
def Lay (d : PyData) : Prop := d.canLay0 = true ∧ d.depth ≤ 64
theorem Lay.sh {d : PyData} (h : Lay d) : SeqAt.shaped d = true := Bool.and_eq_true_iff.mpr ⟨h.1, decide_eq_true h.2⟩
theorem rd_eqD {y : V} {H1 : Hp} (e0 : Ex H0 H) (e1 : Ex H1 H) (hx : Dp K H0 x d) (hy : Dp K H1 y d) (hl : Lay d) (q : Q (.bl true) H) : oEq K x y H Q :=
  .inr ⟨d, d, hx.ex e0, hy.ex e1, hl.sh, hl.sh, by rw [SeqAt.eqv_refl d hl.1]; exact q⟩
theorem rd_neD {y : V} {H1 : Hp} (e0 : Ex H0 H) (e1 : Ex H1 H) (hx : Dp K H0 x d) (hy : Dp K H1 y d) (hl : Lay d) (q : Q (.bl false) H) : oNe K x y H Q :=
  .inr ⟨d, d, hx.ex e0, hy.ex e1, hl.sh, hl.sh, by rw [SeqAt.eqv_refl d hl.1]; exact q⟩
end
/-- data that may be compared: at most so deep -/
structure Ly (d : PyData) (n : Nat) : Prop where
  c : d.canLay0 = true
  p : d.depth ≤ n
theorem Ly.lay {d : PyData} {n : Nat} (h : Ly d n) (hn : n ≤ 64) : Lay d := ⟨h.c, Nat.le_trans h.p hn⟩
theorem Ly.mono {d : PyData} {n m : Nat} (h : Ly d n) (hn : n ≤ m) : Ly d m := ⟨h.c, Nat.le_trans h.p hn⟩
theorem Ly.none : Ly .none 0 := ⟨rfl, Nat.le_refl 0⟩
theorem Ly.bool {b : Bool} : Ly (.bool b) 0 := ⟨rfl, Nat.le_refl 0⟩
theorem Ly.int {i : Int} : Ly (.int i) 0 := ⟨rfl, Nat.le_refl 0⟩
theorem Ly.str {x : Str} (h : okS x) : Ly (.str x) 0 := ⟨h, Nat.le_refl 0⟩
theorem ly_all {n : Nat} : ∀ {ds : List PyData}, (∀ d ∈ ds, Ly d n) → PyData.canLayAll0 ds = true ∧ PyData.depthAll ds ≤ n
  | [], _ => ⟨rfl, Nat.zero_le _⟩
  | d :: ds, h => by
    obtain ⟨a, b⟩ := ly_all (ds := ds) fun y hy => h y (List.mem_cons_of_mem _ hy)
    have hx := h d List.mem_cons_self
    refine ⟨?_, Nat.max_le.mpr ⟨hx.p, b⟩⟩
    show (d.canLay0 && PyData.canLayAll0 ds) = true
    rw [hx.c, a]; rfl
theorem Ly.tuple {n : Nat} {ds : List PyData} (h : ∀ d ∈ ds, Ly d n) : Ly (.tuple ds) (n + 1) := ⟨(ly_all h).1, Nat.succ_le_succ (ly_all h).2⟩
theorem Ly.list {n : Nat} {ds : List PyData} (h : ∀ d ∈ ds, Ly d n) : Ly (.list ds) (n + 1) := ⟨(ly_all h).1, Nat.succ_le_succ (ly_all h).2⟩
/-! ### walks over data -/
def YD (K : PySem.W.Frag) (ds : List PyData) (H0 : Hp) : Nat → Hp → V → Hp → Prop := fun i H v H' => H' = H ∧ ∃ d, ds[i]? = some d ∧ Dp K H0 v d
abbrev Wd (K : PySem.W.Frag) (J : It) (ds : List PyData) (H0 : Hp) : Prop := Walk J ds.length (fun H => Ex H0 H) (YD K ds H0)
theorem wd_list {H0 : Hp} {a : Addr} {vs : List V} {ds : List PyData} (h : SqL K H0 a vs) (hd : DpAll K H0 vs ds) : Wd K (Itl K a) ds H0 := by
  rw [Wd, ← hd.len]
  exact walk_list.mono (fun H e => Evl.ex_l e h) fun i H x H' _ _ y => ⟨y.1, hd.got y.2⟩
theorem wd_tup {H0 : Hp} {a : Addr} {vs : List V} {ds : List PyData} (h : SqT K H0 a vs) (hd : DpAll K H0 vs ds) : Wd K (Itt K a) ds H0 := by
  rw [Wd, ← hd.len]
  exact walk_tup.mono (fun H e => Evl.ex_t e h) fun i H x H' _ _ y => ⟨y.1, hd.got y.2⟩
section
variable {σ : L2.St} {H H0 : Hp} {Q : VK} {te : TE} {R : It → Hp → Prop} {D : Ends} {g : TG} {tb : TS} {tt : TT} {J : It} {ds : List PyData} {x : V} {vs : List Nat}
theorem rd_anyL' (h : te σ H fun x H1 => ∃ a, x = .ref a ∧ (∃ xs, SqL K H1 a xs) ∧ R (Itl K a) H1) : iAny K te σ H R := .inl h
theorem rd_anyT' (h : te σ H fun x H1 => ∃ a, x = .ref a ∧ (∃ xs, SqT K H1 a xs) ∧ R (Itt K a) H1) : iAny K te σ H R := .inr (.inl h)
theorem rd_anyS' (h : te σ H fun v H1 => ∃ x, v = .str x ∧ R (Its x) H1) : iAny K te σ H R := .inr (.inr h)
theorem rd_itDL (e : Ex H0 H) (h : Dp K H0 x (.list ds)) (q : ∀ J, Wd K J ds H0 → R J H) : ∃ a, x = .ref a ∧ (∃ xs, SqL K H a xs) ∧ R (Itl K a) H := by
  obtain ⟨a, vs, rfl, h1, h2⟩ := Dp.lstv h
  exact ⟨a, rfl, ⟨vs, Evl.ex_l e h1⟩, q _ (wd_list h1 h2)⟩
theorem rd_itDT (e : Ex H0 H) (h : Dp K H0 x (.tuple ds)) (q : ∀ J, Wd K J ds H0 → R J H) : ∃ a, x = .ref a ∧ (∃ xs, SqT K H a xs) ∧ R (Itt K a) H := by
  obtain ⟨a, vs, rfl, h1, h2⟩ := Dp.tupv h
  exact ⟨a, rfl, ⟨vs, Evl.ex_t e h1⟩, q _ (wd_tup h1 h2)⟩
theorem rd_itS {z : Str} (q : R (Its z) H) : ∃ x, V.str z = .str x ∧ R (Its x) H := ⟨z, rfl, q⟩
theorem fo_D (w : Wd K J ds H0) (Pv : Nat → L2.St → Hp → Prop) (h0 : Pv 0 σ H) (hG : ∀ i σ H, i ≤ ds.length → Pv i σ H → Ex H0 H)
    (hs : ∀ (i : Nat) d v σ H, ds[i]? = some d → Dp K H0 v d → Pv i σ H → g v σ H fun σ2 H2 => tb { D with nx := Pv (i + 1), ct := Pv (i + 1), bk := D.nx } σ2 H2) (hd : ∀ σ H, Pv ds.length σ H → D.nx σ H) : forB g tb D σ J H :=
  fo_it w Pv h0 hG (fun i v σ H H' hi p y => by
    obtain ⟨rfl, d, h1, h2⟩ := y
    exact hs i d v σ _ h1 h2 p) hd
/-- how the heap goes on from H: S may change, the rest stands -/
structure Tr (S : List Addr) (H : Hp) (T : Hp → Hp → Prop) : Prop where
  rfl' : T H H
  here : ∀ {a}, T H a → T a a
  st : ∀ {a b c}, T a b → (∃ o, a c = some o) → ∃ o : HO, b c = some o
  trans : ∀ {a b c}, T a b → T b c → T a c
  put : ∀ {L Hc o}, H L = none → T H Hc → T H (upd Hc L o)
  kp : ∀ {a b}, T a b → Kp S a b
theorem tr_ex {S : List Addr} {H : Hp} : Tr S H Ex := ⟨Evl.Ex.refl H, fun {a} _ => Evl.Ex.refl a, fun e h => h.elim fun o z => ⟨o, e _ _ z⟩, fun a b => a.trans b, fun h e => Evl.Ex.mut e h, fun e => Kp.of_ex e⟩
/-- a comprehension with a test, each value told by its turn -/
theorem lc_F {S : List Addr} {T : Hp → Hp → Prop} {n : Nat} {G : Hp → Prop} {Y : Nat → Hp → V → Hp → Prop} {P : Nat → V → Prop} {P2 : Nat → L2.St → Prop} (t : Tr S H T) (hS : ∀ b ∈ S, ∃ o, H b = some o) (w : Walk J n G Y) (hY : ∀ i H x H', i < n → Y i H x H' → H' = H ∧ P i x) (hn : n < 100000)
    (hG : ∀ Hc, T H Hc → G Hc) (p : Nat → Bool) (f : Nat → PyData)
    (hg : ∀ i x Hc (N : L2.St → Hp → Prop), i < n → P i x → T H Hc → (∀ σ2, wipe σ2 vs = wipe σ vs → P2 i σ2 → N σ2 Hc) → g x (wipe σ vs) Hc N)
    (ht : ∀ L i σ2 Hc, i < n → P2 i σ2 → H L = none → L ∉ S → T H Hc → (∀ b ∈ L :: S, ∃ o, Hc b = some o) → Ex (hid S H) (hid (L :: S) Hc) → ∀ N : Bool → Hp → Prop, (∀ H2, T Hc H2 → N (p i) H2) → tt σ2 Hc N)
    (he : ∀ L i σ2 Hc, i < n → P2 i σ2 → p i = true → H L = none → L ∉ S → T H Hc → (∀ b ∈ L :: S, ∃ o, Hc b = some o) → Ex (hid S H) (hid (L :: S) Hc) → ∀ N : VK, (∀ v H2, T Hc H2 → Dp K (hid (L :: S) H2) v (f i) → N v H2) → te σ2 Hc N)
    (h : ∀ L us Hc, T H Hc → H L = none → L ∉ S → Hc L = some (.lst us) → DpAll K (hid (L :: S) Hc) us (((List.range n).filter p).map f) → Q (.ref L) Hc) : lcB g tt te vs σ Q J H := by
  intro L hL
  have nL : L ∉ S := notin_of hS hL
  have up : ∀ {Hc}, T H Hc → Ex (hid S H) (hid (L :: S) Hc) := fun q => (t.kp q).up fun b hb hn => by
    rcases List.mem_cons.mp hb with z | z
    · rw [z]; exact hL
    · exact absurd z hn
  have kL : ∀ {a b : Hp} {o}, T a b → a L = some o → b L = some o := fun q z => t.kp q L _ nL z
  have hz : ∀ m, m ≤ n → (((List.range m).filter p).map f).length < sizeLine := fun m hm => by
    rw [List.length_map]
    have := List.length_filter_le p (List.range m)
    rw [List.length_range] at this
    exact Nat.lt_of_le_of_lt (Nat.le_trans this hm) (Nat.lt_trans hn (by decide))
  refine lc_it w (fun i Hc => i ≤ n ∧ T H Hc ∧ ∃ us, Hc L = some (.lst us) ∧ DpAll K (hid (L :: S) Hc) us (((List.range i).filter p).map f)) ⟨Nat.zero_le _, t.put hL t.rfl', [], upd_same, .nil⟩ (fun i Hc _ q => hG Hc q.2.1) (fun i x Hc H' hi q y => ?_) fun Hc q => ?_
  · obtain ⟨hi1, t1, us, h1, h2⟩ := q
    obtain ⟨rfl, px⟩ := hY _ _ _ _ hi y
    refine hg i x _ _ hi px t1 fun σ2 hw p2 => ⟨hw, ?_⟩
    have hs1 : ∀ b ∈ L :: S, ∃ o, H' b = some o := fun b hb => by
      rcases List.mem_cons.mp hb with z | z
      · rw [z]; exact ⟨_, h1⟩
      · exact t.st t1 (hS b z)
    refine ht L i σ2 _ hi p2 hL nL t1 hs1 (up t1) _ fun H2 t2 => ?_
    cases hp : p i with
    | true =>
      refine rd_iteT ?_
      refine he L i σ2 H2 hi p2 hp hL nL (t.trans t1 t2) (fun b hb => t.st t2 (hs1 b hb)) (up (t.trans t1 t2)) _ fun v H3 t3 dv => ?_
      have k23 := (t.kp (t.trans t2 t3)).sub (S' := L :: S) fun b hb => List.mem_cons_of_mem _ hb
      refine ⟨us, kL t3 (kL t2 h1), by rw [h2.len]; exact hz i hi1, hi, t.put hL (t.trans (t.trans t1 t2) t3), us ++ [v], upd_same, ?_⟩
      rw [List.range_succ, List.filter_append, List.map_append]
      have e : ((List.filter p [i]).map f) = [f i] := by
        rw [List.filter_cons, if_pos hp]
        rfl
      rw [e]
      exact ((h2.ex k23.ex).snoc dv).ex (Kp.put List.mem_cons_self).ex
    | false =>
      refine rd_iteF ?_
      have k12 := (t.kp t2).sub (S' := L :: S) fun b hb => List.mem_cons_of_mem _ hb
      refine ⟨hi, t.trans t1 t2, us, kL t2 h1, ?_⟩
      rw [List.range_succ, List.filter_append, List.map_append]
      have e : ((List.filter p [i]).map f) = [] := by
        rw [List.filter_cons, if_neg (by rw [hp]; exact Bool.false_ne_true)]
        rfl
      rw [e, List.append_nil]
      exact h2.ex k12.ex
  · obtain ⟨_, t1, us, h1, h2⟩ := q
    exact h L us Hc t1 hL nL h1 h2
/-- a comprehension without a test, each value told by a relation -/
theorem lc_R {S : List Addr} {T : Hp → Hp → Prop} {n : Nat} {G : Hp → Prop} {Y : Nat → Hp → V → Hp → Prop} {P : Nat → V → Prop} {P2 : Nat → L2.St → Prop} (t : Tr S H T) (hS : ∀ b ∈ S, ∃ o, H b = some o) (w : Walk J n G Y) (hY : ∀ i H x H', i < n → Y i H x H' → H' = H ∧ P i x) (hn : n < 100000)
    (hG : ∀ Hc, T H Hc → G Hc) (R : Nat → PyData → Prop)
    (hg : ∀ i x Hc (N : L2.St → Hp → Prop), i < n → P i x → T H Hc → (∀ σ2, wipe σ2 vs = wipe σ vs → P2 i σ2 → N σ2 Hc) → g x (wipe σ vs) Hc N)
    (he : ∀ L i σ2 Hc, i < n → P2 i σ2 → H L = none → L ∉ S → T H Hc → (∀ b ∈ L :: S, ∃ o, Hc b = some o) → Ex (hid S H) (hid (L :: S) Hc) → ∀ N : VK, (∀ v d H2, T Hc H2 → Dp K (hid (L :: S) H2) v d → R i d → N v H2) → te σ2 Hc N)
    (h : ∀ L us Hc ds, T H Hc → H L = none → L ∉ S → Hc L = some (.lst us) → DpAll K (hid (L :: S) Hc) us ds → ds.length = n → (∀ i d, ds[i]? = some d → R i d) → Q (.ref L) Hc) : lcB g tYes te vs σ Q J H := by
  intro L hL
  have nL : L ∉ S := notin_of hS hL
  have up : ∀ {Hc}, T H Hc → Ex (hid S H) (hid (L :: S) Hc) := fun q => (t.kp q).up fun b hb hn => by
    rcases List.mem_cons.mp hb with z | z
    · rw [z]; exact hL
    · exact absurd z hn
  have kL : ∀ {a b : Hp} {o}, T a b → a L = some o → b L = some o := fun q z => t.kp q L _ nL z
  refine lc_it w (fun i Hc => i ≤ n ∧ T H Hc ∧ ∃ us ds, Hc L = some (.lst us) ∧ DpAll K (hid (L :: S) Hc) us ds ∧ ds.length = i ∧ ∀ i d, ds[i]? = some d → R i d) ⟨Nat.zero_le _, t.put hL t.rfl', [], [], upd_same, .nil, rfl, fun i d z => by simp at z⟩ (fun i Hc _ q => hG Hc q.2.1) (fun i x Hc H' hi q y => ?_) fun Hc q => ?_
  · obtain ⟨hi1, t1, us, ds, h1, h2, h3, h4⟩ := q
    obtain ⟨rfl, px⟩ := hY _ _ _ _ hi y
    refine hg i x _ _ hi px t1 fun σ2 hw p2 => ⟨hw, rd_yes ?_⟩
    refine rd_iteT ?_
    have hs1 : ∀ b ∈ L :: S, ∃ o, H' b = some o := fun b hb => by
      rcases List.mem_cons.mp hb with z | z
      · rw [z]; exact ⟨_, h1⟩
      · exact t.st t1 (hS b z)
    refine he L i σ2 _ hi p2 hL nL t1 hs1 (up t1) _ fun v d H3 t3 dv rv => ?_
    have k23 := (t.kp t3).sub (S' := L :: S) fun b hb => List.mem_cons_of_mem _ hb
    refine ⟨us, kL t3 h1, by rw [h2.len, h3]; exact Nat.lt_of_lt_of_le (Nat.lt_trans hi hn) (by decide), hi, t.put hL (t.trans t1 t3), us ++ [v], ds ++ [d], upd_same, ((h2.ex k23.ex).snoc dv).ex (Kp.put List.mem_cons_self).ex, by rw [List.length_append, h3]; rfl, fun i' d' hd' => ?_⟩
    by_cases hlt : i' < ds.length
    · rw [List.getElem?_append_left hlt] at hd'
      exact h4 i' d' hd'
    · rw [List.getElem?_append_right (by omega)] at hd'
      have e0 : i' - ds.length = 0 := by
        rcases Nat.eq_zero_or_pos (i' - ds.length) with z | z
        · exact z
        · rw [List.getElem?_eq_none (by simp; omega)] at hd'
          cases hd'
      rw [e0] at hd'
      obtain rfl : d = d' := Option.some.inj hd'
      have e3 : i' = i := by omega
      rw [e3]
      exact rv
  · obtain ⟨_, t1, us, ds, h1, h2, h3, h4⟩ := q
    exact h L us Hc ds t1 hL nL h1 h2 h3 h4
/-- one name as the target -/
theorem hg_name {T : Hp → Hp → Prop} {n j : Nat} {P : Nat → V → Prop} {H : Hp} (hw : ∀ v : V, wipe ((wipe σ [j]).set j (some v)) [j] = wipe σ [j]) : ∀ i x Hc (N : L2.St → Hp → Prop), i < n → P i x → T H Hc → (∀ σ2, wipe σ2 [j] = wipe σ [j] → (∃ v, P i v ∧ σ2 = (wipe σ [j]).set j (some v)) → N σ2 Hc) → gName j x (wipe σ [j]) Hc N :=
  fun i x Hc N _ p _ h => h _ (hw x) ⟨x, p, rfl⟩
theorem wd_Y {n : Nat} : ∀ (i : Nat) (H : Hp) (x : V) (H' : Hp), i < n → YD K ds H0 i H x H' → H' = H ∧ ∃ d, ds[i]? = some d ∧ Dp K H0 x d := fun _ _ _ _ _ y => y
theorem str_Y {z : Str} : ∀ (i : Nat) (H : Hp) (x : V) (H' : Hp), i < z.cps.size → (H' = H ∧ ∃ c, z.cps[i]? = some c ∧ x = .str ⟨#[c]⟩) → H' = H ∧ ∃ c, z.cps.toList[i]? = some c ∧ x = V.str ⟨#[c]⟩ := fun i H x H' _ y => ⟨y.1, by
  obtain ⟨c, h1, h2⟩ := y.2
  exact ⟨c, by rw [Array.getElem?_toList]; exact h1, h2⟩⟩
/-! over data, one name as the target -/
theorem getD_range {α β : Type} (l : List α) (a : α) (q : α → Bool) (f : α → β) : ((List.range l.length).filter (fun i => q (l.getD i a))).map (fun i => f (l.getD i a)) = (l.filter q).map f := by
  have e : (List.range l.length).map (fun i => l.getD i a) = l := by
    refine List.ext_getElem (by simp) fun i h1 h2 => ?_
    rw [List.getElem_map, List.getElem_range, List.getD_eq_getElem?_getD, List.getElem?_eq_getElem h2]
    rfl
  have h : ((List.range l.length).map (fun i => l.getD i a)).filter q = ((List.range l.length).filter (fun i => q (l.getD i a))).map (fun i => l.getD i a) := List.filter_map ..
  rw [e] at h
  rw [h, List.map_map]
  rfl
theorem lc_FD {S : List Addr} {T : Hp → Hp → Prop} {j : Nat} (t : Tr S H T) (hS : ∀ b ∈ S, ∃ o, H b = some o) (w : Wd K J ds H0) (e0 : Ex H0 (hid S H)) (hn : ds.length < 100000) (hw : ∀ v : V, wipe ((wipe σ [j]).set j (some v)) [j] = wipe σ [j])
    (q : PyData → Bool) (F : PyData → PyData)
    (ht : ∀ L d v Hc, d ∈ ds → Dp K (hid (L :: S) Hc) v d → H L = none → L ∉ S → T H Hc → (∀ b ∈ L :: S, ∃ o, Hc b = some o) → Ex (hid S H) (hid (L :: S) Hc) → ∀ N : Bool → Hp → Prop, (∀ H2, T Hc H2 → N (q d) H2) → tt ((wipe σ [j]).set j (some v)) Hc N)
    (he : ∀ L d v Hc, d ∈ ds → Dp K (hid (L :: S) Hc) v d → q d = true → H L = none → L ∉ S → T H Hc → (∀ b ∈ L :: S, ∃ o, Hc b = some o) → Ex (hid S H) (hid (L :: S) Hc) → ∀ N : VK, (∀ v H2, T Hc H2 → Dp K (hid (L :: S) H2) v (F d) → N v H2) → te ((wipe σ [j]).set j (some v)) Hc N)
    (h : ∀ L us Hc, T H Hc → H L = none → L ∉ S → Hc L = some (.lst us) → DpAll K (hid (L :: S) Hc) us ((ds.filter q).map F) → Q (.ref L) Hc) : lcB (gName j) tt te [j] σ Q J H := by
  have hd : ∀ {i : Nat} {d : PyData}, ds[i]? = some d → ds.getD i .none = d := fun z => by rw [List.getD_eq_getElem?_getD, z]; rfl
  refine lc_F (K := K) (P := fun i x => ∃ d, ds[i]? = some d ∧ Dp K H0 x d) t hS w wd_Y hn (fun Hc z => (e0.trans (t.kp z).ex).trans hid_ex) (fun i => q (ds.getD i .none)) (fun i => F (ds.getD i .none)) (hg_name hw) (fun L i σ2 Hc hi p2 hL nL t1 hs up N hN => ?_) (fun L i σ2 Hc hi p2 hp hL nL t1 hs up N hN => ?_) fun L us Hc t1 hL nL h1 h2 => ?_
  · obtain ⟨v, ⟨d, h1, h2⟩, rfl⟩ := p2
    exact ht L d v Hc (List.mem_of_getElem? h1) (h2.ex (e0.trans up)) hL nL t1 hs up N fun H2 t2 => by have := hN H2 t2; rw [hd h1] at this; exact this
  · obtain ⟨v, ⟨d, h1, h2⟩, rfl⟩ := p2
    rw [hd h1] at hp
    exact he L d v Hc (List.mem_of_getElem? h1) (h2.ex (e0.trans up)) hp hL nL t1 hs up N fun v2 H2 t2 d2 => hN v2 H2 t2 (by rw [hd h1]; exact d2)
  · rw [getD_range] at h2
    exact h L us Hc t1 hL nL h1 h2
theorem lc_MD {S : List Addr} {T : Hp → Hp → Prop} {j : Nat} (t : Tr S H T) (hS : ∀ b ∈ S, ∃ o, H b = some o) (w : Wd K J ds H0) (e0 : Ex H0 (hid S H)) (hn : ds.length < 100000) (hw : ∀ v : V, wipe ((wipe σ [j]).set j (some v)) [j] = wipe σ [j])
    (F : PyData → PyData)
    (he : ∀ L d v Hc, d ∈ ds → Dp K (hid (L :: S) Hc) v d → H L = none → L ∉ S → T H Hc → (∀ b ∈ L :: S, ∃ o, Hc b = some o) → Ex (hid S H) (hid (L :: S) Hc) → ∀ N : VK, (∀ v H2, T Hc H2 → Dp K (hid (L :: S) H2) v (F d) → N v H2) → te ((wipe σ [j]).set j (some v)) Hc N)
    (h : ∀ L us Hc, T H Hc → H L = none → L ∉ S → Hc L = some (.lst us) → DpAll K (hid (L :: S) Hc) us (ds.map F) → Q (.ref L) Hc) : lcB (gName j) tYes te [j] σ Q J H := by
  refine lc_FD (K := K) t hS w e0 hn hw (fun _ => true) F (fun L d v Hc _ _ _ _ t1 _ _ N hN => rd_yes (hN Hc (t.here t1))) (fun L d v Hc hm hd _ hL nL t1 hs up N hN => he L d v Hc hm hd hL nL t1 hs up N hN) fun L us Hc t1 hL nL h1 h2 => ?_
  rw [List.filter_eq_self.mpr fun _ _ => rfl] at h2
  exact h L us Hc t1 hL nL h1 h2
theorem ex_up1 {H H' : Hp} {q : Addr} (e : Ex H H') (hq : H q = none) : Ex H (hid [q] H') := fun b o z => by
  rw [hid_at (fun m => by rw [List.mem_singleton.mp m, hq] at z; cases z)]
  exact e b o z
theorem st1 {H : Hp} {q : Addr} {o : HO} (h : H q = some o) : ∀ b ∈ [q], ∃ o, H b = some o := fun b hb => by
  cases List.mem_singleton.mp hb
  exact ⟨o, h⟩
theorem sts_ex {S : List Addr} {H H' : Hp} (h : ∀ b ∈ S, ∃ o, H b = some o) (e : Ex H H') : ∀ b ∈ S, ∃ o, H' b = some o := fun b hb => by
  obtain ⟨o, z⟩ := h b hb
  exact ⟨o, e b o z⟩
theorem ex_nil {H H' : Hp} (e : Ex H H') : Ex H (hid [] H') := by rw [hid_nil]; exact e
def isN : PyData → Bool
  | .none => true
  | _ => false
theorem isN_dp {H : Hp} {v : V} {d : PyData} (h : Dp K H v d) : decide (v = .non) = isN d := by
  cases h <;> rfl
/-- the values of plain data -/
theorem dp_strs {H : Hp} : ∀ {vs : List V} {ss : List Str}, DpAll K H vs (ss.map PyData.str) → vs = ss.map V.str
  | _, [], h => by cases h; rfl
  | _, s :: ss, h => by
    cases h with
    | cons h1 h2 => rw [Dp.str_iff h1, dp_strs h2]; rfl
theorem dp_ints' {H : Hp} : ∀ {vs : List V} {ss : List Int}, DpAll K H vs (ss.map PyData.int) → vs = ss.map V.int
  | _, [], h => by cases h; rfl
  | _, s :: ss, h => by
    cases h with
    | cons h1 h2 => rw [Dp.int_iff h1, dp_ints' h2]; rfl
theorem dp_bls {H : Hp} : ∀ {vs : List V} {ss : List Bool}, DpAll K H vs (ss.map PyData.bool) → vs = ss.map V.bl
  | _, [], h => by cases h; rfl
  | _, s :: ss, h => by
    cases h with
    | cons h1 h2 => rw [Dp.bl_iff h1, dp_bls h2]; rfl
theorem dps_str {H : Hp} (ss : List Str) : DpAll K H (ss.map V.str) (ss.map PyData.str) := DpAll.mapV _ _ _ fun x _ => .str x
theorem dps_int {H : Hp} (ss : List Int) : DpAll K H (ss.map V.int) (ss.map PyData.int) := DpAll.mapV _ _ _ fun x _ => .int x
theorem dps_bl {H : Hp} (ss : List Bool) : DpAll K H (ss.map V.bl) (ss.map PyData.bool) := DpAll.mapV _ _ _ fun x _ => .bl x
end
end
section
variable {X : Cx} (K : PySem.W.Frag) (hK : X.K = K := by rfl)
include hK
theorem kGt {e : Expr} {n : Nat} {t : TGs} (h : PG X e (gTup X.K n t)) : PG X e (gTup K n t) := hK ▸ h
end
section
variable {K : PySem.W.Frag} {σ : L2.St} {H H0 : Hp} {v : V} {Q : L2.St → Hp → Prop} {t : TGs} {ds : List PyData}
/-- a, b = a tuple of data -/
theorem rd_gtD {n : Nat} (e : Ex H0 H) (h : Dp K H0 v (.tuple ds)) (hn : ds.length = n) (q : ∀ xs, DpAll K H0 xs ds → t xs σ H Q) : gTup K n t v σ H Q := by
  obtain ⟨a, vs, rfl, h1, h2⟩ := Dp.tupv h
  exact ⟨a, vs, rfl, Evl.ex_t e h1, by rw [h2.len, hn], q vs h2⟩
theorem dp2 {a b : PyData} {xs : List V} (h : DpAll K H0 xs [a, b]) : ∃ x y, xs = [x, y] ∧ Dp K H0 x a ∧ Dp K H0 y b := by
  cases h with
  | cons h1 h =>
    cases h with
    | cons h2 h =>
      cases h
      exact ⟨_, _, rfl, h1, h2⟩
theorem rd_gN {i : Nat} {tg : TGs} {x : V} {xs : List V} (h : tg xs (σ.set i (some x)) H Q) : gCons (gName i) tg (x :: xs) σ H Q := ⟨_, _, rfl, h⟩
theorem rd_gE (h : Q σ H) : gNil [] σ H Q := ⟨rfl, h⟩
end
/-! ### hiding what data can't reach -/
mutual
def noList : PyData → Bool
  | .list _ => false
  | .tuple ds => noListAll ds
  | _ => true
def noListAll : List PyData → Bool
  | [] => true
  | d :: ds => noList d && noListAll ds
end
section
variable {K : PySem.W.Frag} {S : List Addr} {H : Hp}
theorem sqt_hid (h : ∀ b ∈ S, (∃ C dx fs, H b = some (.ins C dx fs)) ∨ ∃ xs, H b = some (.lst xs)) {a : Addr} {vs : List V} (q : SqT K H a vs) : SqT K (hid S H) a vs := by
  rcases q with (q | ⟨o, q⟩) | q
  · refine .inl (.inl ?_)
    rw [hid_at fun hb => ?_]
    · exact q
    · rcases h a hb with ⟨_, _, _, z⟩ | ⟨_, z⟩ <;> rw [z] at q <;> cases q
  · refine .inl (.inr ⟨o, ?_⟩)
    rw [hid_at fun hb => ?_]
    · exact q
    · rcases h a hb with ⟨_, _, _, z⟩ | ⟨_, z⟩ <;> rw [z] at q <;> cases q
  · exact .inr q
theorem sql_hid (h : ∀ b ∈ S, ∃ C dx fs, H b = some (.ins C dx fs)) {a : Addr} {vs : List V} (q : SqL K H a vs) : SqL K (hid S H) a vs := by
  rcases q with (q | ⟨o, q⟩) | q
  · refine .inl (.inl ?_)
    rw [hid_at fun hb => ?_]
    · exact q
    · obtain ⟨_, _, _, z⟩ := h a hb
      rw [z] at q; cases q
  · refine .inl (.inr ⟨o, ?_⟩)
    rw [hid_at fun hb => ?_]
    · exact q
    · obtain ⟨_, _, _, z⟩ := h a hb
      rw [z] at q; cases q
  · exact .inr q
mutual
theorem Dp.hidI (h : ∀ b ∈ S, ∃ C dx fs, H b = some (.ins C dx fs)) : ∀ (d : PyData) {v : V}, Dp K H v d → Dp K (hid S H) v d
  | .none, _, q => by cases q; exact .non
  | .bool b, _, q => by cases q; exact .bl b
  | .int i, _, q => by cases q; exact .int i
  | .str x, _, q => by cases q; exact .str x
  | .list ds, _, q => by
    cases q with
    | lst hs ha => exact .lst (sql_hid h hs) (DpAll.hidI h ds ha)
  | .tuple ds, _, q => by
    cases q with
    | tup hs ha => exact .tup (sqt_hid (fun b hb => .inl (h b hb)) hs) (DpAll.hidI h ds ha)
  | .dict _, _, q => by cases q
theorem DpAll.hidI (h : ∀ b ∈ S, ∃ C dx fs, H b = some (.ins C dx fs)) : ∀ (ds : List PyData) {vs : List V}, DpAll K H vs ds → DpAll K (hid S H) vs ds
  | [], _, q => by cases q; exact .nil
  | d :: ds, _, q => by
    cases q with
    | cons h1 h2 => exact .cons (Dp.hidI h d h1) (DpAll.hidI h ds h2)
end
mutual
theorem Dp.hidT (h : ∀ b ∈ S, (∃ C dx fs, H b = some (.ins C dx fs)) ∨ ∃ xs, H b = some (.lst xs)) : ∀ (d : PyData) {v : V}, noList d = true → Dp K H v d → Dp K (hid S H) v d
  | .none, _, _, q => by cases q; exact .non
  | .bool b, _, _, q => by cases q; exact .bl b
  | .int i, _, _, q => by cases q; exact .int i
  | .str x, _, _, q => by cases q; exact .str x
  | .list ds, _, n, q => by cases n
  | .tuple ds, _, n, q => by
    cases q with
    | tup hs ha => exact .tup (sqt_hid h hs) (DpAll.hidT h ds n ha)
  | .dict _, _, _, q => by cases q
theorem DpAll.hidT (h : ∀ b ∈ S, (∃ C dx fs, H b = some (.ins C dx fs)) ∨ ∃ xs, H b = some (.lst xs)) : ∀ (ds : List PyData) {vs : List V}, noListAll ds = true → DpAll K H vs ds → DpAll K (hid S H) vs ds
  | [], _, _, q => by cases q; exact .nil
  | d :: ds, _, n, q => by
    obtain ⟨n1, n2⟩ := Bool.and_eq_true_iff.mp n
    cases q with
    | cons h1 h2 => exact .cons (Dp.hidT h d n1 h1) (DpAll.hidT h ds n2 h2)
end
theorem noList_all {ds : List PyData} (h : ∀ d ∈ ds, noList d = true) : noListAll ds = true := by
  induction ds with
  | nil => rfl
  | cons d ds ih =>
    show (noList d && noListAll ds) = true
    rw [h d List.mem_cons_self, ih fun e he => h e (List.mem_cons_of_mem _ he)]
    rfl
/-- a list or a tuple of data -/
def SqD (K : PySem.W.Frag) (H : Hp) (x : V) (ds : List PyData) : Prop := Dp K H x (.list ds) ∨ Dp K H x (.tuple ds)
theorem SqD.ex {H' : Hp} {x : V} {ds : List PyData} (h : SqD K H x ds) (e : Ex H H') : SqD K H' x ds := h.elim (fun z => .inl (z.ex e)) fun z => .inr (z.ex e)
theorem rd_anySq {σ : L2.St} {H0 : Hp} {te : TE} {x : V} {ds : List PyData} {R : It → Hp → Prop} (he : ∀ Q : VK, Q x H → te σ H Q) (e : Ex H0 H) (h : SqD K H0 x ds) (q : ∀ J, Wd K J ds H0 → R J H) : iAny K te σ H R := by
  rcases h with h | h
  · exact rd_anyL' (he _ (rd_itDL e h q))
  · exact rd_anyT' (he _ (rd_itDT e h q))
/-- tuple(x) -/
theorem rd_tupSq {S : List Addr} {H0 : Hp} {x : V} {ds : List PyData} {Q : VK} (hs : ∀ b ∈ S, ∃ o, H b = some o) (e : Ex H0 (hid S H)) (h : SqD K H0 x ds) (q : ∀ a H', Ex H H' → Dp K (hid S H') (.ref a) (.tuple ds) → Q (.ref a) H') : cTupOf K [x] H Q := by
  rcases h with h | h
  · obtain ⟨a, vs, rfl, h1, h2⟩ := Dp.lstv h
    exact rd_tupL (Evl.ex_l (e.trans hid_ex) h1) fun l hl => q l _ (Evl.Ex.new hl) (Dp.newT hl (notin_of hs hl) (h2.ex e))
  · obtain ⟨a, vs, rfl, h1, h2⟩ := Dp.tupv h
    exact rd_tupT (Evl.ex_t (e.trans hid_ex) h1) (q a H (Evl.Ex.refl H) (h.ex e))
/-- list(x) -/
theorem rd_lstSq {S : List Addr} {H0 : Hp} {x : V} {ds : List PyData} {Q : VK} (e : Ex H0 (hid S H)) (h : SqD K H0 x ds) (q : ∀ l vs, H l = none → DpAll K (hid S H) vs ds → Q (.ref l) (upd H l (.lst vs))) : cLstOf K [x] H Q := by
  rcases h with h | h
  · obtain ⟨a, vs, rfl, h1, h2⟩ := Dp.lstv h
    exact rd_lstL (.inl (Evl.ex_l (e.trans hid_ex) h1)) fun l hl => q l vs hl (h2.ex e)
  · obtain ⟨a, vs, rfl, h1, h2⟩ := Dp.tupv h
    exact rd_lstL (.inr (Evl.ex_t (e.trans hid_ex) h1)) fun l hl => q l vs hl (h2.ex e)
end
section
variable {K : PySem.W.Frag} {H : Hp}
theorem rd_lstSq0 {H0 : Hp} {x : V} {ds : List PyData} {Q : VK} (e : Ex H0 H) (h : SqD K H0 x ds) (q : ∀ l vs, H l = none → DpAll K H0 vs ds → Q (.ref l) (upd H l (.lst vs))) : cLstOf K [x] H Q := by
  rcases h with h | h
  · obtain ⟨a, vs, rfl, h1, h2⟩ := Dp.lstv h
    exact rd_lstL (.inl (Evl.ex_l e h1)) fun l hl => q l vs hl h2
  · obtain ⟨a, vs, rfl, h1, h2⟩ := Dp.tupv h
    exact rd_lstL (.inr (Evl.ex_t e h1)) fun l hl => q l vs hl h2
end
theorem rd_par3 {i j l : Nat} {ta : TA} {D : Ends} {σ : L2.St} {H : Hp} (h : ta σ H fun vs H1 => ∃ u v w, vs = [u, v, w] ∧ D.nx (((σ.set i (some u)).set j (some v)).set l (some w)) H1) : tPar3 i j l ta D σ H := h
theorem rd_v3 {u v w : V} {P : V → V → V → Prop} (h : P u v w) : ∃ u' v' w', [u, v, w] = [u', v', w'] ∧ P u' v' w' := ⟨u, v, w, rfl, h⟩
end AT

set_option Elab.async false
set_option linter.all false
set_option maxRecDepth 100000
set_option maxHeartbeats 4000000
/-! own words, fifth part: dicts whose keys are tuples, lists unpacked, while -/
namespace AT
open PySem PySem.Spec PyProof.Rows L2
/-- {k: v}, the key a tuple -/
def tDisp1T (tk tv : TE) : TE := fun σ H Q => ∀ p, H p = none → tk σ (upd H p (.dT [])) fun x H1 => tv σ H1 fun y H2 => H2 p = some (.dT []) ∧ ∃ (b : Addr) (k : List Key), x = .ref b ∧ H2 b = some (.tup (k.map kV)) ∧ Q (.ref p) (upd H2 p (.dT [(k, y)]))
section
variable {X : Cx} {pos : Pos} {k v : Expr} {tk tv : TE}
theorem pe_disp1T (hu : X.A.units + 1 < cLine) (hk : PE X k tk) (hv : PE X v tv) : PE X (.Dict [some k] [v] pos) (tDisp1T tk tv) := by
  refine ⟨fun pins s σ H Q I q => ?_⟩
  have hn := I.hok.fresh (Nat.le_refl s.heap.objs.size)
  have I1 := I.laid (a := s.heap.objs.size) (o := .dT []) (t' := s.toks) (fun _ _ z => Heap.get?_push_of_some _ z) (Nat.le_refl _) (dt_empty s.heap I.big)
  have hz := zip_pairTrees [some k] [v] X.env pos rfl rfl
  have hl : (pairTrees [some k] [v] X.env pos).length = 1 := pairTrees_length [some k] [v] X.env pos rfl rfl
  have hne : pairTrees [some k] [v] X.env pos ≠ [] := fun z => by rw [z] at hl; cases hl
  have room : (tupleKind (mixKind X.prog X.w)).room X.A := Nat.lt_of_succ_lt hu
  rw [arm_eval_Dict, hz, dictDisplay_pairs _ hne (by rw [hl]; decide)]
  refine wpAny_bind (wpAny_standAt (wpAny_bind ?_))
  refine wpAny_subDictH (knd := tupleKind (mixKind X.prog X.w)) room (by rw [hl]; decide) ?_
  refine pairTrees_cons_walk (thn (hk.run pins _ σ _ _ I1 (q _ hn)) fun u s1 ⟨x, H1, I1', rx, q1⟩ => thn (hv.run pins s1 σ H1 _ I1' q1) fun w2 s2 ⟨y, H2, I2, ry, q2⟩ => pairTrees_nil_walk ?_)
  obtain ⟨e, b, ks, rfl, eb, q3⟩ := q2
  cases (show u = Value.ref b from rx)
  obtain ⟨z, hd, xs0, r0, dd⟩ := dt_of I2.hok e
  cases r0
  refine ⟨[(ks, b, w2)], ⟨rfl, rfl, key_of I2.hok eb, True.intro⟩, dd, fun h' tk dd' hs => wpAny_pure ⟨.ref s.heap.objs.size, _, ?_, rfl, q3⟩⟩
  have e1 : storedAllH [] [(ks, b, w2)] = [(ks, b, w2)] := rfl
  rw [e1] at dd'
  obtain ⟨o, es, ep, ho, h2, h3, h4, h5, h6⟩ := dd'
  refine d_write I2 (by rw [e]; exact True.intro) hs ⟨o, ho⟩ ⟨by show 1 ≤ sizeLine; decide, hd, [(ks, b, w2)], .cons ⟨rfl, ?_, ry⟩ .nil, o, es, ep, ho, h2, h3, h4, h6⟩
  show upd H2 s.heap.objs.size _ b = _
  rw [upd_ne (ne_of eb e (fun z => nomatch z))]
  exact eb
end
section
variable {X : Cx} (K : PySem.W.Frag) (hK : X.K = K := by rfl)
include hK
theorem kGl {e : Expr} {n : Nat} {t : TGs} (h : PG X e (gLst X.K n t)) : PG X e (gLst K n t) := hK ▸ h
end
section
variable {K : PySem.W.Frag} {σ : L2.St} {H : Hp} {Q : VK} {D : Ends} {td ty tv tk : TE} {tt : TT} {tb : TS}
theorem rd_dget (h : td σ H fun x H1 => ty σ H1 fun y H2 => ∃ a v, x = .ref a ∧ DGet H2 a y (some v) ∧ Q v H2) : tDGet td ty σ H Q := h
theorem rd_din (h : ty σ H fun y H1 => td σ H1 fun x H2 => ∃ a o, x = .ref a ∧ DGet H2 a y o ∧ Q (.bl o.isSome) H2) : tDIn ty td σ H Q := h
theorem rd_dnin (h : ty σ H fun y H1 => td σ H1 fun x H2 => ∃ a o, x = .ref a ∧ DGet H2 a y o ∧ Q (.bl (!o.isSome)) H2) : tDNotIn ty td σ H Q := h
theorem rd_dput (h : tv σ H fun v H1 => td σ H1 fun x H2 => ty σ H2 fun y H3 => ∃ a H4, x = .ref a ∧ DPut H3 a y v H4 ∧ D.nx σ H4) : sDPut td ty tv D σ H := h
theorem rd_disp1T (h : ∀ p, H p = none → tk σ (upd H p (.dT [])) fun x H1 => tv σ H1 fun y H2 => H2 p = some (.dT []) ∧ ∃ (b : Addr) (k : List Key), x = .ref b ∧ H2 b = some (.tup (k.map kV)) ∧ Q (.ref p) (upd H2 p (.dT [(k, y)]))) : tDisp1T tk tv σ H Q := h
theorem rd_dnK (h : ∀ p, H p = none → Q (.ref p) (upd H p (.dK []))) : tDNewK σ H Q := h
theorem rd_dnT (h : ∀ p, H p = none → Q (.ref p) (upd H p (.dT []))) : tDNewT σ H Q := h
theorem rd_wh (W : Nat → L2.St → Hp → Prop) (m0 : Nat) (h0 : W m0 σ H) (hs : ∀ m σ' H', W m σ' H' → tt σ' H' fun b H1 => if b = true then ∃ N : L2.St → Hp → Prop, (∀ σ2 H2, N σ2 H2 → ∃ m', m' < m ∧ W m' σ2 H2) ∧ tb { D with nx := N, ct := N, bk := D.nx } σ' H1 else D.nx σ' H1) : tWhile tt tb D σ H := ⟨W, ⟨m0, h0⟩, hs⟩
end
end AT

set_option Elab.async false
set_option linter.all false
set_option maxRecDepth 100000
set_option maxHeartbeats 4000000
/-! own words, sixth part: enumerate over tuples and texts -/
namespace AT
open PySem PySem.Spec PyProof.Rows L2
open AutoSeq1 (wpAny_loadPart')
section
theorem tupIn {h : Heap} {a : Addr} {its : Array Value} (p : IsTup h a its) : h.IsTuple a its := by
  obtain ⟨o, e1, e2, n, e3⟩ := p
  exact ⟨o, e1, e2, n, e3⟩
/-- a tuple, item by item -/
theorem draws_tup {P : Program} {w : World} {B : Around} (calm : B.handled = none) (z q : Addr) (hq : q ≠ z) (vs : Array Value) :
    Draws P w B z [z, q] vs.size (fun k v => vs[k]? = some v) (fun k g => g.IsTupleIter z q k ∧ g.IsTuple q vs) := by
  refine ⟨fun _ _ st => ?_, fun _ _ _ st hk => ?_, fun k s Q E hk st hQ => ?_, fun s Q E st hE => ?_⟩
  · obtain ⟨⟨o, e, _⟩, _⟩ := st
    exact ⟨o, e⟩
  · exact ⟨Heap.IsTupleIter.at st.1 fun o e => hk z List.mem_cons_self o e, Heap.IsTuple.at st.2 fun o e => hk q (List.mem_cons_of_mem _ List.mem_cons_self) o e⟩
  · have hx : vs[k]? = some vs[k] := by simp [hk]
    exact RZ.nextOf_tuple_item st.1 st.2 hx fun g g1 g2 => hQ _ g s.toks hx ⟨g1, Heap.IsTuple.extBut st.2 g2.extBut hq⟩ g2
  · exact RZ.nextOf_tuple_end calm st.1 st.2 (by simp) hE
theorem enumNewT (q : Addr) (vs : Array Value) (k : Nat) (od : Option Addr) (sl : Array (Option Value)) :
    Meets (Builtin.«enumerate.__new__» ⟨[.type "enumerate", .ref q], []⟩) (fun _ R s => s.heap.get? q = some ⟨.type "tuple", od, .seq vs k, sl⟩ ∧
      R (.ok (.ret (.ref (s.heap.push { cls := .type "tuple_iterator", data := .fields #[.ref q, .int 0 0] }).objs.size)))
        ⟨(s.heap.push { cls := .type "tuple_iterator", data := .fields #[.ref q, .int 0 0] }).push { cls := .type "enumerate", data := .fields #[.none, .bool false, .ref s.heap.objs.size, rawInt 0, .none, .none] }, s.gens, s.drawn, s.toks, s.os⟩) :=
  .of_wp fun prog w A R s h => by
    obtain ⟨hp, g, d, tk, os⟩ := s
    obtain ⟨hl, h⟩ := h
    have sub := sub_enumerate
    have tup : Heap.IsTuple (Shared.heap ⟨hp, g, d, tk, os⟩) q vs := ⟨_, hl, rfl, k, rfl⟩
    wp_walk using wpAny_loadPart' hl
    refine wpAny_stack_any fun _ => wpAny_pure ?_
    split
    · rename_i c _ _ _ _ _
      cases (c == Value.type "enumerate") <;>
        (wp_walk using wpAny_loadPart' hl, wpAny_pyIter_tuple tup
         exact ⟨_, rfl, h⟩)
    · wp_walk using wpAny_loadPart' hl, wpAny_pyIter_tuple tup
      exact ⟨_, rfl, h⟩
theorem callEnumT {P : Program} {w : World} {B : Around} {E : Value → Shared → Prop} {s : Shared} {q : Addr} {vs : Array Value} {Q : Value → Shared → Prop} (tup : s.heap.IsTuple q vs)
    (hQ : ∀ g, IsEnum g (s.heap.objs.size + 1) s.heap.objs.size 0 .none → g.IsTupleIter s.heap.objs.size q 0 → (∀ b o, s.heap.get? b = some o → g.get? b = some o) → Q (.ref (s.heap.objs.size + 1)) { s with heap := g }) :
    wpAny (model P w) B (call (.type "enumerate") [.ref q]) Q E s := by
  obtain ⟨⟨c, od, dt, sl⟩, hl, hc, k, hd⟩ := tup
  obtain rfl : c = .type "tuple" := hc
  obtain rfl : dt = .seq vs k := hd
  refine callType_new F.called_enumerate (by decide) (F.typeCall_enumerate_1 _) (F.newCall_enumerate_1 _) (fun x => F.args_object_init_2 x _) F.entry_enumerate_new (enumNewT q vs k od sl) ⟨hl, ?_⟩
  have size1 : (s.heap.push { cls := .type "tuple_iterator", data := .fields #[.ref q, .int 0 0] }).objs.size = s.heap.objs.size + 1 := Heap.size_push ..
  show _ ∧ _
  rw [size1]
  have made : IsEnum ((s.heap.push { cls := .type "tuple_iterator", data := .fields #[.ref q, .int 0 0] }).push { cls := .type "enumerate", data := .fields #[.none, .bool false, .ref s.heap.objs.size, rawInt 0, .none, .none] }) (s.heap.objs.size + 1) s.heap.objs.size 0 .none := by
    have e := Heap.get?_push_size (s.heap.push { cls := .type "tuple_iterator", data := .fields #[.ref q, .int 0 0] }) (o := { cls := .type "enumerate", data := .fields #[.none, .bool false, .ref s.heap.objs.size, rawInt 0, .none, .none] }) rfl
    rw [size1] at e
    exact e
  exact ⟨⟨_, made, rfl⟩, hQ _ made ⟨_, Heap.get?_push_of_some _ (Heap.get?_push_size _ rfl), rfl, rfl⟩ fun b o z => Heap.get?_push_of_some _ (Heap.get?_push_of_some _ z)⟩
/-- the tuple at q, each item in a new pair -/
def ItEt (K : PySem.W.Frag) (q : Addr) : It where
  go := fun i H => ∃ (xs : List V) (x : V), SqT K H q xs ∧ xs[i]? = some x
  yld := fun i H v H' => ∃ T x, v = .ref T ∧ H T = none ∧ H' = upd H T (.tup [.int (i : Nat), x]) ∧ ∀ xs, SqT K H q xs → xs[i]? = some x
  stop := fun i H => ∃ xs : List V, SqT K H q xs ∧ xs.length = i
theorem turn_enumT {P : Program} {w : World} {K : PySem.W.Frag} {tgs : List Expr} {kk : Nat} {tp : Pos} (q e z : Addr) :
    Turn P w K (.Tuple tgs kk tp) (ItEt K q) [e, z] e (fun i g => (∃ old, IsEnum g e z ((i : Nat) : Int) old) ∧ g.IsTupleIter z q i ∧ e ≠ z ∧ q ≠ z ∧ q ≠ e) := by
  refine ⟨List.mem_cons_self, fun i g st b hb => ?_, fun i g g' st k => ?_, ?_, ?_, fun B i s Q E st h => ?_⟩
  · obtain ⟨⟨old, he⟩, ⟨o, ho, hc, hd⟩, _⟩ := st
    rcases List.mem_cons.mp hb with y | y
    · rw [y]; exact ⟨_, he, fun v t => nomatch t⟩
    · rw [List.mem_singleton.mp y]; exact ⟨o, ho, fun v t => by rw [hd] at t; cases t⟩
  · obtain ⟨⟨old, he⟩, hz, ne⟩ := st
    exact ⟨⟨old, k e List.mem_cons_self _ he⟩, Heap.IsTupleIter.at hz fun o t => k z (List.mem_cons_of_mem _ List.mem_cons_self) o t, ne⟩
  · intro X hP hw hK hc i pins s σ H E I hf st hg
    subst hP hw hK
    obtain ⟨⟨old, he⟩, hz, ne, n1, n2⟩ := st
    obtain ⟨xs, x, hq, hx⟩ := hg
    obtain ⟨its, rv, p, len⟩ := I.tuple hq
    obtain ⟨u, hu, ru⟩ := rv.get hx
    have lt : i < its.toArray.size := by
      have := (List.getElem?_eq_some_iff.mp hu).1
      simpa using this
    have heL : e < s.heap.objs.size := Heap.lt_size he
    have hzL : z < s.heap.objs.size := by obtain ⟨_, t, _⟩ := hz; exact Heap.lt_size t
    refine wpAny_pyNext_enum_itemD (draws_tup (P := X.prog) (w := X.w) (B := X.A.in1) (show X.A.in1.handled = none from I.ok.hd hc) z q n1 its.toArray) he ⟨hz, tupIn p⟩ lt ne (by simp [ne, Ne.symm n2]) fun u' g tk hu' ho st' hT hsz hk => ?_
    have eu : u' = u := by
      have a : its.toArray[i]? = some u := by simpa using hu
      rw [a] at hu'
      exact (Option.some.inj hu').symm
    subst eu
    refine ⟨_, rfl, wpAny_letOwnedTupleGo_enum (s := { s with heap := g, toks := tk + 1 }) ho fun g2 he' sb => ?_⟩
    have hT2 : g2.get? s.heap.objs.size = some { cls := .type "tuple", data := .seq #[.int i tk, u'] } := (sb.2 _ (Nat.ne_of_gt heL)).trans hT
    have fresh : ObjOk X.prog X.w (upd H s.heap.objs.size (.tup [.int (i : Nat), x])) g2 s.heap.objs.size (.tup [.int (i : Nat), x]) := ⟨by show 2 ≤ sizeLine; decide, [.int i tk, u'], .cons ⟨_, rfl⟩ (.cons ru .nil), ⟨_, hT2, rfl, _, rfl⟩⟩
    have I1 : Inv X pins σ (upd H s.heap.objs.size (.tup [.int (i : Nat), x])) { s with heap := g2, toks := tk + 1 } :=
      I.turnedNew (ch := [e, z]) (fun b ob hb t => (sb.2 b (fun y => hb (by simp [y]))).trans (hk b ob (fun y => hb (by simp [y])) (fun y => hb (by simp [y])) t)) hf (Nat.le_refl _) fresh
    refine ⟨.ref s.heap.objs.size, _, I1, rfl, ⟨_, x, rfl, I.hok.fresh (Nat.le_refl _), rfl, fun ys hy => by rw [I.tuple_inj hy hq]; exact hx⟩, ⟨⟨u', ?_⟩, Heap.IsTupleIter.at st'.1 fun o t => (sb.2 z (Ne.symm ne)).trans t, ne, n1, n2⟩, fun b hb => ?_⟩
    · have e1 : ((i + 1 : Nat) : Int) = (i : Int) + 1 := by omega
      rw [e1]
      exact he'
    · have hb' : b < s.heap.objs.size := by
        rcases List.mem_cons.mp hb with y | y
        · rw [y]; exact heL
        · rw [List.mem_singleton.mp y]; exact hzL
      rw [upd_ne (Nat.ne_of_lt hb')]
      exact (hf b hb).1
  · intro X hP hw hK hc i pins s σ H E I hf st hg
    subst hP hw hK
    obtain ⟨⟨old, he⟩, hz, ne, n1, n2⟩ := st
    obtain ⟨xs, hq, hx⟩ := hg
    obtain ⟨its, rv, p, len⟩ := I.tuple hq
    obtain ⟨f0, f1, f2, f3, f4, f5⟩ := hf z (List.mem_cons_of_mem _ List.mem_cons_self)
    have hl : i = its.toArray.size := by
      have := rv.length
      simp
      omega
    have he0 : IsEnum s.heap e z ((its.toArray.size : Nat) : Int) old := hl ▸ he
    have hz0 : s.heap.IsTupleIter z q its.toArray.size := hl ▸ hz
    refine wpAny_pyNext_enum_endD (draws_tup (P := X.prog) (w := X.w) (B := X.A.in1) (show X.A.in1.handled = none from I.ok.hd hc) z q n1 its.toArray) he0 ⟨hz0, tupIn p⟩ fun g eb => ⟨rfl, I.turned (t' := s.toks) (fun b o hb t => eb b o hb t) f0 f1 f3 f4 f5⟩
  · obtain ⟨⟨_, he⟩, _⟩ := st
    exact wpAny_pyIter_enum he h
def iEnumT (K : PySem.W.Frag) (ta : TA) : TI := fun σ H R => ta σ H fun vs H1 => ∃ q xs, vs = [.ref q] ∧ SqT K H1 q xs ∧ R (ItEt K q) H1
theorem pi_enumT {X : Cx} {e : Expr} {ta : TA} {p pos tp : Pos} {tgs : List Expr} {kk : Nat} (hg : Gl X "enumerate") (hm : X.mg "enumerate" = none) (ha : PA X [e] ta) (hs : starEach [e] X.env = [(false, eval e X.env)] := by rfl) :
    PI X (.Tuple tgs kk tp) (.Call (.Name "enumerate" p) [e] [] pos) (iEnumT X.K ta) := by
  refine ⟨fun pins s σ H R I h => Call_ (ld_blt I hg hm boot_enumerate (PyProof.Rows.callWith_type1 (thn (ha.run pos pins s σ H _ I h) fun us s1 ⟨vs, H1, I1, r1, q1⟩ => ?_) hs rfl))⟩
  obtain ⟨a, xs, ex, hq, q⟩ := q1
  subst ex
  obtain ⟨u, rfl, ru⟩ := vals1 r1
  cases (show u = Value.ref a from ru)
  obtain ⟨its, rv, p', hz⟩ := I1.tuple hq
  have old : a < s1.heap.objs.size := by obtain ⟨o, e1, _⟩ := p'; exact Heap.lt_size e1
  refine callEnumT (tupIn p') fun g he hit hk => wpAny_pyIter_enum he ?_
  have I2 : Inv X pins σ H1 { s1 with heap := g } := I1.kept (t' := s1.toks) hk
  refine ⟨s1.heap.objs.size + 1, [s1.heap.objs.size + 1, s1.heap.objs.size], _, _, H1, rfl, I2, turn_enumT a (s1.heap.objs.size + 1) s1.heap.objs.size, ⟨⟨.none, he⟩, hit, Nat.succ_ne_self _, Nat.ne_of_lt old, Nat.ne_of_lt (Nat.lt_succ_of_lt old)⟩, fun b hb => ?_, q⟩
  have hle : s1.heap.objs.size ≤ b := by
    rcases List.mem_cons.mp hb with y | y
    · rw [y]; exact Nat.le_add_right _ _
    · rw [List.mem_singleton.mp y]; exact Nat.le_refl _
  exact I1.fpOk hle (I1.hok.fresh hle)
theorem walk_enumT {K : PySem.W.Frag} {q : Addr} {xs : List V} : Walk (ItEt K q) xs.length (fun H => SqT K H q xs) (YPair (fun i => some (.int (i : Nat))) (fun i => xs[i]?)) := by
  refine ⟨fun i _ hi h => ⟨xs, xs[i], h, by simp [hi]⟩, fun _ h => ⟨xs, h, rfl⟩, fun i H v H' _ h y => ?_⟩
  obtain ⟨T, x, h1, h2, h3, h4⟩ := y
  exact ⟨T, .int (i : Nat), x, h1, h2, h3, rfl, h4 xs h⟩
/-- enumerate of a list or a tuple -/
def iEnumA (K : PySem.W.Frag) (ta : TA) : TI := fun σ H R => iEnum K ta σ H R ∨ iEnumT K ta σ H R
theorem pi_enumA {X : Cx} {e : Expr} {ta : TA} {p pos tp : Pos} {tgs : List Expr} {kk : Nat} (hg : Gl X "enumerate") (hm : X.mg "enumerate" = none) (ha : PA X [e] ta) (hs : starEach [e] X.env = [(false, eval e X.env)] := by rfl) :
    PI X (.Tuple tgs kk tp) (.Call (.Name "enumerate" p) [e] [] pos) (iEnumA X.K ta) := PI.or (pi_enum hg hm ha hs) (pi_enumT hg hm ha hs)
end
section
variable {X : Cx} (K : PySem.W.Frag) (hK : X.K = K := by rfl)
include hK
theorem kEn {tg e : Expr} {ta : TA} (h : PI X tg e (iEnumA X.K ta)) : PI X tg e (iEnumA K ta) := hK ▸ h
end
end AT

set_option Elab.async false
set_option linter.all false
set_option maxRecDepth 100000
set_option maxHeartbeats 8000000
/-! own words, seventh part: a name that is set to a dict comprehension on its own line -/
namespace AT
open PySem L2 PySem.Spec PyProof.Rows
/-- whatever the block of the comprehension is -/
abbrev InBlk (X : Cx) (sc : Scope) (R : Cx → Prop) : Prop := ∀ s H C cl fp, R (X.blk s H sc (compEnvC sc cl C X.env) fp)
/-- the comprehension, with one for -/
abbrev DC1 (a b t e : Expr) (cs : List Expr) (sc : Scope) (o : Pos) : Expr := .DictComp a b [⟨t, e, cs, 0⟩] sc o
theorem ps_setDc {X : Cx} {i : Nat} {n : Str} {np o so : Pos} {a b t e : Expr} {cs : List Expr} {sc : Scope} {own : List (Str × Nat)} {wi : TI} {g : TG} {tt : TT} {ta tb : TE}
    (calm : X.calm = true) (nd : X.N.Nodup) (at' : X.N[i]? = some n) (loc : X.env.scope.names.lookup n = some .local) (sw : swapsWith (DC1 a b t e cs sc o) (some (.Name n np)) so.line X.env = pure true)
    (pi : PI X t e wi) (bk : BlkOk X.N X.env.scope sc own) (pg : InBlk X sc fun Y => PG Y t g) (pt : InBlk X sc fun Y => PTs Y cs tt) (pa : InBlk X sc fun Y => PE Y a ta) (pb : InBlk X sc fun Y => PE Y b tb)
    (fo : ∀ x, foldedSetIterable e X.env x = pure x := by intro _; rfl) : PS X (.Assign [.Name n np] (DC1 a b t e cs sc o) so) (tAsg (tDc wi g tt ta tb (own.map (·.2))) (gName i)) :=
  ⟨fun P s σ H D J w => by
    rw [exec_Assign_Name_used n np _ so sw]
    apply wpAny_bind; apply wpAny_standAt; apply wpAny_bind
    refine wpAny_bind (thn ?core fun _ s2 h2 => wpAny_pure (wpAny_pure h2))
    refine dc_core (Qf := fun _ s2 => SP X P D .next s2) (Q := fun x H1 => gName i x σ H1 D.nx) calm nd J pi bk pg pt pa pb fo w fun L C s2 m H2 J2 h2 ns fp => ?_
    refine wpAny_assign_Name (store_ok2 (v := V.ref L) J2 nd at' (.inl loc) rfl (fun s3 J3 ⟨z, but, or⟩ => ⟨m, ns.sameBut but (or.elim (fun y => y ▸ fp.2.1) fun y q => fp.2.2.2.2.1 n z y q.symm), fun h4 but4 => ?_⟩) (.inr loc))
    exact ⟨_, H2, J3.turned (t' := s3.toks) (fun c u hc y => (but4.2 c hc).trans y) fp.1 fp.2.1 fp.2.2.2.1 fp.2.2.2.2.1 fp.2.2.2.2.2, h2⟩⟩
theorem sw_trueD {a b : Expr} {gs : List Comprehension} {sc : Scope} {o np : Pos} {n : Str} {l : Nat} {env : Env} (fn : env.scope.kind = .function) (loc : env.scope.names.lookup n = some .local) (ln : (np.line == o.line) = true)
    (no : (sc.names.any fun (m, k) => m == n && (k == .local || k == .cell)) = false) : swapsWith (.DictComp a b gs sc o) (some (.Name n np)) l env = pure true := by
  have k1 : env.kindOf n = some .local := loc
  have k2 : env.blockKind = .function := by simp only [Env.blockKind, fn]; decide
  simp only [swapsWith, k1, k2, no, Expr.pos, ln]
  rfl
end AT

set_option Elab.async false
set_option linter.all false
set_option maxRecDepth 100000
set_option maxHeartbeats 4000000
/-! own words, eighth part: defs and lambdas with captured names as values, called by whoever holds them -/
namespace AT
open PySem PySem.Spec PyProof.Rows L2 LamX NdefX
/-! ### cells that stand still -/
def frC (c : Addr) (o : Obj) : HO := .frz o (.ext fun h => h.get? c = some o)
theorem frC_ok {P : Program} {w : World} {H : Hp} {h : Heap} {c : Addr} {o : Obj} (e : h.get? c = some o) : ObjOk P w H h c (frC c o) :=
  ⟨e, e, ⟨o, e⟩, fun _ _ q k => k o q⟩
def fz (as : List Addr) (O : Addr → Obj) (H : Hp) : Hp := fun b => if b ∈ as then some (frC b (O b)) else H b
def rz (as : List Addr) (H H' : Hp) : Hp := fun b => if b ∈ as then H b else H' b
section
variable {as : List Addr} {O : Addr → Obj} {H H' : Hp} {b : Addr} {P : Program} {w : World} {h h' : Heap} {fs : List Addr}
theorem fz_in (hb : b ∈ as) : fz as O H b = some (frC b (O b)) := if_pos hb
theorem fz_at (hb : b ∉ as) : fz as O H b = H b := if_neg hb
theorem rz_in (hb : b ∈ as) : rz as H H' b = H b := if_pos hb
theorem rz_at (hb : b ∉ as) : rz as H H' b = H' b := if_neg hb
theorem fz_ex (W : ∀ c ∈ as, H c = none) : Ex H (fz as O H) := fun b o e => by
  rw [fz_at fun z => by rw [W b z] at e; cases e]
  exact e
theorem fz_hid (W : ∀ c ∈ as, H c = none) : hid as (fz as O H) = H := by
  funext b
  by_cases hb : b ∈ as
  · rw [hid_in hb, W b hb]
  · rw [hid_at hb, fz_at hb]
theorem rz_ex (e : Ex (hid as H) H') : Ex H (rz as H H') := fun b o q => by
  by_cases hb : b ∈ as
  · rw [rz_in hb]; exact q
  · rw [rz_at hb]; exact e b o (by rw [hid_at hb]; exact q)
theorem hok_fz (ok : HOk P w H h) (W : ∀ c ∈ as, h.get? c = some (O c) ∧ H c = none) : HOk P w (fz as O H) h := fun a o e => by
  have nin : ∀ {b u}, H b = some u → b ∉ as := fun {b u} q z => by rw [(W b z).2] at q; cases q
  by_cases ha : a ∈ as
  · rw [fz_in ha] at e
    cases e
    exact frC_ok (W a ha).1
  · rw [fz_at ha] at e
    exact (ok a o e).stay (fun _ _ _ z => z) (fun b q => by rw [fz_at (nin q)]; exact q) fun b xs q => by rw [fz_at (nin q)]; exact q
theorem hok_hid (ok : HOk P w H h) (W : ∀ c ∈ as, ∃ o u, H c = some (.frz o u)) : HOk P w (hid as H) h := fun a o e => by
  have nin : ∀ {b u}, H b = some u → (∀ o v, u ≠ .frz o v) → b ∉ as := fun {b u} q n z => by
    obtain ⟨o, v, e⟩ := W b z
    rw [q] at e
    exact n o v (Option.some.inj e)
  refine (ok a o (hid_some e).2).stay (fun _ _ _ z => z) (fun b q => ?_) fun b xs q => ?_
  · rw [hid_at (nin q fun o v z => by cases z)]; exact q
  · rw [hid_at (nin q fun o v z => by cases z)]; exact q
/-- behind a call that was told of the frame's own cells -/
theorem un_hid (W : ∀ c ∈ as, h.get? c = some (O c) ∧ H c = none) (u : Un fs [] (fz as O H) H' h h') (ok : HOk P w H' h') : Un fs [] H (hid as H') h h' := by
  have same : ∀ c, c ∈ as → h'.get? c = some (O c) := fun c hc => (ok c _ (u.frzs c _ _ (fz_in hc))).1
  have nin : ∀ {b v}, H b = some v → b ∉ as := fun {b v} q z => by rw [(W b z).2] at q; cases q
  have here : ∀ {b o}, h.get? b = some o → b ∈ as → h'.get? b = some o := fun {b o} e hb => by
    have q := (W b hb).1
    rw [e] at q
    rw [same b hb, Option.some.inj q]
  refine ⟨fun b o e n nf nx => ?_, fun b o e n nf nx => ?_, fun b o e n nx => ?_, u.there, fun b xs q => ?_, fun b o v q => ?_, fun b ps q => ?_⟩
  · by_cases hb : b ∈ as
    · exact here e hb
    · exact u.keep b o e (by rw [fz_at hb]; exact n) nf nx
  · by_cases hb : b ∈ as
    · exact ⟨o.slots, here e hb⟩
    · exact u.slot b o e (by rw [fz_at hb]; exact n) nf nx
  · by_cases hb : b ∈ as
    · exact hid_in hb
    · rw [hid_at hb]; exact u.free b o e (by rw [fz_at hb]; exact n) nx
  · rw [hid_at (nin q)]; exact u.tups b xs (by rw [fz_at (nin q)]; exact q)
  · rw [hid_at (nin q)]; exact u.frzs b o v (by rw [fz_at (nin q)]; exact q)
  · obtain ⟨m, z⟩ := u.tbls b ps (by rw [fz_at (nin q)]; exact q)
    exact ⟨m, by rw [hid_at (nin q)]; exact z⟩
/-- behind the call of a function whose cells stood still -/
theorem un_rz (W : ∀ c ∈ as, ∃ o, H c = some (frC c o) ∧ h.get? c = some o ∧ c ∉ fs) (u : Un fs [] (hid as H) H' h h') : Un fs [] H (rz as H H') h h' := by
  have nin : ∀ {b : Addr}, H b = none → b ∉ as := fun {b} q z => by
    obtain ⟨o, e, _⟩ := W b z
    rw [q] at e; cases e
  refine ⟨fun b o e n nf nx => ?_, fun b o e n nf nx => ?_, fun b o e n nx => ?_, u.there, fun b xs q => ?_, fun b o v q => ?_, fun b ps q => ?_⟩
  · exact u.keep b o e (by rw [hid_at (nin n)]; exact n) nf nx
  · exact u.slot b o e (by rw [hid_at (nin n)]; exact n) nf nx
  · rw [rz_at (nin n)]; exact u.free b o e (by rw [hid_at (nin n)]; exact n) nx
  all_goals by_cases hb : b ∈ as
  · rw [rz_in hb]; exact q
  · rw [rz_at hb]; exact u.tups b xs (by rw [hid_at hb]; exact q)
  · rw [rz_in hb]; exact q
  · rw [rz_at hb]; exact u.frzs b o v (by rw [hid_at hb]; exact q)
  · rw [rz_in hb]; exact ⟨#[], by rw [q]; simp⟩
  · rw [rz_at hb]; exact u.tbls b ps (by rw [hid_at hb]; exact q)
theorem hok_rz (W : ∀ c ∈ as, ∃ o, H c = some (frC c o) ∧ h.get? c = some o ∧ c ∉ fs) (u : Un fs [] (hid as H) H' h h') (ok : HOk P w H' h') : HOk P w (rz as H H') h' := fun a o e => by
  have gone : ∀ c, c ∈ as → H' c = none := fun c hc => by
    obtain ⟨o, _, e2, _⟩ := W c hc
    exact u.free c o e2 (hid_in hc) (by simp)
  have nin : ∀ {b v}, H' b = some v → b ∉ as := fun {b v} q z => by rw [gone b z] at q; cases q
  by_cases ha : a ∈ as
  · obtain ⟨o', e1, e2, nf⟩ := W a ha
    rw [rz_in ha, e1] at e
    cases e
    exact frC_ok (u.keep a o' e2 (hid_in ha) nf (by simp))
  · rw [rz_at ha] at e
    exact (ok a o e).stay (fun _ _ _ z => z) (fun b q => by rw [rz_at (nin q)]; exact q) fun b xs q => by rw [rz_at (nin q)]; exact q
end
/-! ### what holds a function -/
/-- what never changes while it is tracked so -/
def isX : HO → Prop
  | .ext _ => True
  | .frz _ _ => True
  | _ => False
def StX (H H' : Hp) : Prop := ∀ b o, H b = some o → isX o → H' b = some o
theorem StX.of_ex {H H' : Hp} (e : Ex H H') : StX H H' := fun b o q _ => e b o q
theorem StX.of_kp {S : List Addr} {H H' : Hp} (k : Kp S H H') (n : ∀ b ∈ S, ∀ o, H b = some o → ¬ isX o) : StX H H' := fun b o q x => k b o (fun z => n b z o q x) q
/-- f is a function that keeps sp where G stands -/
structure FV (P : Program) (w : World) (K : PySem.W.Frag) (mg : Str → Option Value) (base : Heap) (k : Nat) (f : Addr) (G : Hp → Prop) (sp : List V → Hp → VK → Prop) : Prop where
  fn : ∀ (H : Hp) (h : Heap), HOk P w H h → G H → PySem.W.FnAt f h
  st : ∀ H H', StX H H' → G H → G H'
  run : ∀ (A : Around) (outer : List Env) (s : Shared) (H : Hp) (us : List Value) (vs : List V) (Q : VK), Room k A → Env0 P w K mg base A outer s H → G H → Vals vs us → sp vs H Q →
    codeAny (model P w) A (.call (.ref f) ⟨us, []⟩) (CR L2.CX0 outer P w H s Q L2.E0) s
theorem FV.mono {P : Program} {w : World} {K : PySem.W.Frag} {mg : Str → Option Value} {base : Heap} {j k : Nat} {f : Addr} {G : Hp → Prop} {sp : List V → Hp → VK → Prop} (F : FV P w K mg base j f G sp) (h : j ≤ k) : FV P w K mg base k f G sp :=
  ⟨F.fn, F.st, fun A outer s H us vs Q hr => F.run A outer s H us vs Q (hr.mono h)⟩
def tCallQ (P : Program) (w : World) (K : PySem.W.Frag) (mg : Str → Option Value) (base : Heap) (k i : Nat) (t : TA) : TE := fun σ H Q => ∃ (f : Addr) (G : Hp → Prop) (sp : List V → Hp → VK → Prop), σ[i]? = some (some (.ref f)) ∧ FV P w K mg base k f G sp ∧ G H ∧ t σ H fun vs H1 => G H1 ∧ sp vs H1 Q
section
variable {X : Cx} {k i : Nat} {x : Str} {p pos : Pos} {e : Expr} {es : List Expr} {t : TA}
theorem run_fv {pins : List (Addr × Obj)} {σ : L2.St} {H : Hp} {s : Shared} {Q : VK} {f : Addr} {G : Hp → Prop} {sp : List V → Hp → VK → Prop} {us : List Value} {vs : List V} (F : FV X.prog X.w X.K X.mg X.base k f G sp) (hr : Room k X.A) (I : Inv X pins σ H s) (g : G H) (r : Vals vs us) (q : sp vs H Q) :
    wpAny (model X.prog X.w) X.A (call (.ref f) us) (EP X pins σ Q) X.xe s := by
  refine wpAny_call (codeAny_mono (F.run X.A X.stack s H us vs Q hr I.env0 g r q) fun res s' z => ?_)
  match res, z with
  | .error e, z => exact z.elim
  | .ok (.ret u), z => exact I.after z
  | .ok .next, z => exact z.elim
  | .ok .brk, z => exact z.elim
  | .ok .cont, z => exact z.elim
/-- x(..), x a name that holds a function -/
theorem pe_callQ (hr : Room k X.A) (hN : X.N[i]? = some x) (hv : Vis X.env.scope x) (ha : PA X (e :: es) t) (hd : (x == ("__debug__" : Str)) = false := by decide) (hcd : (x == ("__classdict__" : Str)) = false := by decide)
    (he : starEach (e :: es) X.env = (false, eval e X.env) :: starEach es X.env := by rfl) (hpl : (backTo pos (starEach es X.env)).any (·.1) = false := by rfl) : PE X (.Call (.Name x p) (e :: es) [] pos) (tCallQ X.prog X.w X.K X.mg X.base k i t) := by
  constructor
  intro pins s σ H Q I q
  obtain ⟨f, G, sp, hs, F, g, ht⟩ := q
  have hx := (pe_var (pos := p) hN hv hd hcd).run pins s σ H (fun v H1 => v = .ref f ∧ H1 = H) I ⟨_, hs, rfl, rfl⟩
  refine wpAny_Call_Name_kw (thn hx fun u s1 z => ?_)
  obtain ⟨v, H1, I1, rv, ev, eH⟩ := z
  subst ev eH
  obtain rfl : u = .ref f := rv
  refine PySem.W.callWith_F (first := []) (F.fn _ _ I1.hok g) (thn (ha.run pos pins s1 σ _ _ I1 ht) fun us s2 z => ?_) he hpl
  obtain ⟨vs, H2, I2, r, g2, q⟩ := z
  exact ⟨F.fn _ _ I2.hok g2, run_fv F hr I2 g2 r q⟩
end
/-! ### a frame's own cells, told to a callee -/
def ca (X : Cx) : List Addr := X.env.cells.filterMap fun p => X.env.cells.lookup p.1
theorem mem_ca {X : Cx} {c : Addr} : c ∈ ca X ↔ ∃ y, X.env.cells.lookup y = some c := by
  unfold ca
  rw [List.mem_filterMap]
  constructor
  · rintro ⟨p, _, e⟩
    exact ⟨_, e⟩
  · rintro ⟨y, e⟩
    exact ⟨(y, c), PySem.mem_of_lookup e, e⟩
structure OwnC (X : Cx) (σ : L2.St) (O : Addr → Obj) (H : Hp) : Prop where
  inj : ∀ x y c, X.env.cells.lookup x = some c → X.env.cells.lookup y = some c → x = y
  has : ∀ x, (X.env.kindOf x = some .cell ∨ X.env.kindOf x = some .free) → ∃ c, X.env.cells.lookup x = some c
  non : ∀ c ∈ ca X, H c = none
  dat : ∀ c ∈ ca X, ∃ v, (O c).data = .cell v
  val : ∀ (i : Nat) y v c, X.N[i]? = some y → σ[i]? = some (some v) → (X.env.scope.names.lookup y = some .cell ∨ X.env.scope.names.lookup y = some .free) → X.env.cells.lookup y = some c → ∃ u, L2.RelV v u ∧ (O c).data = .cell (some u)
def tCallZ (X : Cx) (sp : Sp) (t : TA) : TE := fun σ H Q => t σ H fun vs H1 => ∀ O, OwnC X σ O H1 → sp vs (fz (ca X) O H1) (fun v H2 => Q v (hid (ca X) H2)) L2.E0
section
variable {X : Cx} {k : Nat} {f : Addr} {fd : FuncData} {ps : List Str} {sp : Sp} {x : Str} {p pos : Pos} {e : Expr} {es : List Expr} {t : TA}
theorem own_of {pins : List (Addr × Obj)} {σ : L2.St} {H : Hp} {s : Shared} (I : Inv X pins σ H s) (hfn : ∀ y, X.fn y = true) :
    ∃ O : Addr → Obj, OwnC X σ O H ∧ (∀ c ∈ ca X, s.heap.get? c = some (O c) ∧ H c = none) ∧ (∀ c ∈ ca X, X.base.get? c = none) ∧ ∀ c ∈ ca X, c ∉ frs X.stack := by
  have at_ : ∀ c ∈ ca X, ∃ o v, s.heap.get? c = some o ∧ o.data = .cell v := fun c hc => by
    obtain ⟨y, e⟩ := mem_ca.mp hc
    obtain ⟨v, o, ho, hd⟩ := I.cell y c e
    exact ⟨o, v, ho, hd⟩
  have up : ∀ c ∈ ca X, X.s_0.heap.objs.size ≤ c := fun c hc => by
    obtain ⟨y, e⟩ := mem_ca.mp hc
    exact I.ok.cab y c (hfn y) e
  have nn : ∀ c ∈ ca X, H c = none := fun c hc => by
    obtain ⟨y, e⟩ := mem_ca.mp hc
    exact I.freeC y c e
  let O : Addr → Obj := fun c => (s.heap.get? c).getD default
  have hO : ∀ {c o}, s.heap.get? c = some o → O c = o := fun {c o} e => by
    show (s.heap.get? c).getD default = o
    rw [e]; rfl
  refine ⟨O, ⟨I.ok.inj, I.ok.has, nn, fun c hc => ?_, fun i y v c e1 e2 hk e3 => ?_⟩, fun c hc => ?_, fun c hc => ?_, fun c hc z => ?_⟩
  · obtain ⟨o, v, ho, hd⟩ := at_ c hc
    exact ⟨v, by rw [hO ho]; exact hd⟩
  · obtain ⟨m, _, hl⟩ := I.loc
    obtain ⟨u, r, l⟩ := hl i y v e1 e2 (hk.elim (fun z => .inr (.inl z)) fun z => .inr (.inr z))
    rcases l with ⟨z, _⟩ | ⟨_, c', e', o, ho, hd⟩
    · have z' : X.env.scope.names.lookup y = some .local := z
      rcases hk with hk | hk <;> rw [hk] at z' <;> cases z'
    · rw [e3] at e'
      cases e'
      exact ⟨u, r, by rw [hO ho]; exact hd⟩
  · obtain ⟨o, v, ho, hd⟩ := at_ c hc
    exact ⟨by rw [hO ho]; exact ho, nn c hc⟩
  · exact Heap.get?_none_of_le (Nat.le_trans I.ok.bsz (up c hc))
  · rcases List.mem_cons.mp (I.stkSub _ z) with e | hb
    · obtain ⟨y, e2⟩ := mem_ca.mp hc
      exact I.cne y c e2 e
    · obtain ⟨_, o, ho, _⟩ := I.ok.funs.mem hb
      exact Nat.lt_irrefl _ (Nat.lt_of_lt_of_le (Heap.lt_size ho) (up c hc))
/-- a call that hands on functions which captured this frame's names -/
theorem pe_callZ (F : FnOk X.prog X.w X.K X.mg X.base L2.CX0 k f fd ps sp) (hr : Room k X.A) (B : Own X.K X.mg x f fd ps) (hfn : ∀ y, X.fn y = true) (ha : PA X (e :: es) t) (hg : Gl X x := by rfl)
    (hdb : (x == ("__debug__" : Str)) = false := by decide) (he : starEach (e :: es) X.env = (false, eval e X.env) :: starEach es X.env := by rfl) (hpl : (backTo pos (starEach es X.env)).any (·.1) = false := by rfl) :
    PE X (.Call (.Name x p) (e :: es) [] pos) (tCallZ X sp t) := by
  constructor
  intro pins s σ H Q I q
  refine wpAny_Call_Name_kw (ld_glob I hg B.g ?_ hdb)
  refine PySem.W.callWith_K (h₀ := X.base) I.ok.mod.kin B.k (thn (ha.run pos pins s σ H _ I q) fun us s2 z => ?_) he hpl
  obtain ⟨vs, H2, I2, r, q2⟩ := z
  refine ⟨I2.kIn, ?_⟩
  obtain ⟨O, ow, W, nb, nf⟩ := own_of I2 hfn
  have q3 := q2 O ow
  have hl : us.length = ps.length := by rw [← r.length]; exact F.len _ _ _ _ q3
  have e0 := I2.env0
  have e1 : Env0 X.prog X.w X.K X.mg X.base X.A X.stack s2 (fz (ca X) O H2) := by
    refine ⟨e0.frames, e0.mod, fun b o z => ⟨(e0.bs b o z).1, ?_⟩, e0.bsz, e0.funs, fun b hb => ?_, hok_fz e0.hok W, e0.bare⟩
    · rw [fz_at fun m => by rw [nb b m] at z; cases z]
      exact (e0.bs b o z).2
    · rw [fz_at fun m => nf b m hb]
      exact e0.frf b hb
  have hb0 := B.b s2 us I2.kIn (by rw [List.append_nil]; exact hl)
  rw [List.append_nil] at hb0
  refine wpAny_call (codeAny_mono (F.run X.A X.stack s2 _ ⟨us, []⟩ us vs _ L2.E0 hr e1 hb0 r q3) fun res s' z => ?_)
  match res, z with
  | .error e, z => exact z.elim
  | .ok (.ret u), z =>
    obtain ⟨v, H', os, bare, un, hok, rv, qv⟩ := z
    refine I2.after ⟨v, hid (ca X) H', os, bare, un_hid W un hok, hok_hid hok fun c hc => ⟨_, _, un.frzs c _ _ (fz_in hc)⟩, rv, qv⟩
  | .ok .next, z => exact z.elim
  | .ok .brk, z => exact z.elim
  | .ok .cont, z => exact z.elim
end
/-! ### what a made function leans on -/
structure Clo (H : Hp) (f : Addr) (o : HO) (c : Addr) (q : Str) (cl : List (Str × Addr)) (fr : List Str) (ws : List (Option V)) : Prop where
  fn : H f = some o
  code : H c = some (CodeO c q)
  cel : ∀ a ∈ cl.map (·.2), ∃ u, H a = some (frC a u) ∧ ∃ v, u.data = .cell v
  inj : ∀ x y a, cl.lookup x = some a → cl.lookup y = some a → x = y
  len : ws.length = fr.length
  has : ∀ (i : Nat) (y : Str), fr[i]? = some y → ∃ a, cl.lookup y = some a ∧ ∀ v, ws[i]? = some (some v) → ∃ u o, H a = some (frC a o) ∧ L2.RelV v u ∧ o.data = .cell (some u)
theorem Clo.st {H H' : Hp} {f c : Addr} {o : HO} {q : Str} {cl : List (Str × Addr)} {fr : List Str} {ws : List (Option V)} (h : Clo H f o c q cl fr ws) (ho : isX o) (s : StX H H') : Clo H' f o c q cl fr ws :=
  ⟨s _ _ h.fn ho, s _ _ h.code True.intro, fun a ha => let ⟨u, e, r⟩ := h.cel a ha; ⟨u, s _ _ e True.intro, r⟩, h.inj, h.len, fun i y e => let ⟨a, e1, r⟩ := h.has i y e; ⟨a, e1, fun v ev => let ⟨u, o, e2, r2⟩ := r v ev; ⟨u, o, s _ _ e2 True.intro, r2⟩⟩⟩
/-- of the frame that made it -/
theorem clo_made {X : Cx} {σ : L2.St} {O : Addr → Obj} {H : Hp} {scope : Scope} {f c : Addr} {o : HO} {q : Str} {fr : List Str} {js : List Nat} (ow : OwnC X σ O H) (hf : H f = some o) (hc : H c = some (CodeO c q)) (hb : ndefB X.env.scope scope fr = true) (hjs : js.map (fun j => X.N[j]?) = fr.map some) :
    Clo (fz (ca X) O H) f o c q (cloFrom X.env.cells scope.names []) fr (js.map (slotAt σ)) := by
  have hfree : ∀ y ∈ scope.names, y.2 = .free → ∃ a, X.env.cells.lookup y.1 = some a := fun y hy e => ow.has _ (ndef_free hb y hy e)
  have up : ∀ {a u}, H a = some u → fz (ca X) O H a = some u := fun {a u} e => fz_ex ow.non a u e
  refine ⟨up hf, up hc, fun a ha => ?_, fun x y a e1 e2 => ow.inj x y a (clo_cm hfree e1) (clo_cm hfree e2), ?_, fun i y e => ?_⟩
  · obtain ⟨⟨y, a'⟩, hm, rfl⟩ := List.mem_map.mp ha
    obtain ⟨h1, h2⟩ := (cloFrom_mem hm).resolve_left (by simp)
    obtain ⟨a1, ha1⟩ := hfree _ h1 rfl
    have ha1 : X.env.cells.lookup y = some a1 := ha1
    have e : a' = a1 := by rw [h2, ha1]; rfl
    subst e
    have hi : a' ∈ ca X := mem_ca.mpr ⟨y, ha1⟩
    exact ⟨O a', fz_in hi, ow.dat a' hi⟩
  · have q := congrArg List.length hjs
    rw [List.length_map, List.length_map] at q
    rw [List.length_map]; exact q
  · have e2 : (js.map fun j => X.N[j]?)[i]? = some (some y) := by rw [hjs, List.getElem?_map, e]; rfl
    rw [List.getElem?_map] at e2
    obtain ⟨j, ej, hj⟩ : ∃ j, js[i]? = some j ∧ X.N[j]? = some y := by
      cases ej : js[i]? with
      | none => rw [ej] at e2; cases e2
      | some j => rw [ej] at e2; exact ⟨j, rfl, Option.some.inj e2⟩
    have hy : (y, NameKind.free) ∈ scope.names := ndef_fr hb y (List.mem_of_getElem? e)
    have hk := ndef_free hb _ hy rfl
    obtain ⟨a, ha⟩ := ow.has y hk
    refine ⟨a, clo_has hfree hy ha, fun v ev => ?_⟩
    rw [List.getElem?_map, ej] at ev
    obtain ⟨u, r, d⟩ := ow.val j y v a hj (slotAt_some (Option.some.inj ev)) hk ha
    exact ⟨u, O a, fz_in (mem_ca.mpr ⟨y, ha⟩), r, d⟩
section
variable {P : Program} {w : World} {K : PySem.W.Frag} {mg : Str → Option Value} {base : Heap} {A : Around} {outer : List Env} {s : Shared} {H : Hp}
theorem env0_hid {as : List Addr} (e0 : Env0 P w K mg base A outer s H) (W : ∀ c ∈ as, ∃ o u, H c = some (.frz o u)) : Env0 P w K mg base A outer s (hid as H) := by
  refine ⟨e0.frames, e0.mod, fun b o z => ⟨(e0.bs b o z).1, ?_⟩, e0.bsz, e0.funs, fun b hb => ?_, hok_hid e0.hok W, e0.bare⟩
  · by_cases hb : b ∈ as
    · exact hid_in hb
    · rw [hid_at hb]; exact (e0.bs b o z).2
  · by_cases m : b ∈ as
    · exact hid_in m
    · rw [hid_at m]; exact e0.frf b hb
theorem Clo.cells {f c : Addr} {o : HO} {q : Str} {cl : List (Str × Addr)} {fr : List Str} {ws : List (Option V)} (h : Clo H f o c q cl fr ws) (hok : HOk P w H s.heap) : CellsAt cl fr ws s.heap (hid (cl.map (·.2)) H) := by
  refine ⟨h.len, fun y a e => ?_, h.inj, fun i y e => ?_⟩
  · have ha : a ∈ cl.map (·.2) := List.mem_map.mpr ⟨(y, a), PySem.mem_of_lookup e, rfl⟩
    obtain ⟨u, e1, v, hd⟩ := h.cel a ha
    exact ⟨hid_in ha, v, u, (hok a _ e1).1, hd⟩
  · obtain ⟨a, e1, r⟩ := h.has i y e
    refine ⟨a, e1, fun v ev => ?_⟩
    obtain ⟨u, o, e2, rv, hd⟩ := r v ev
    exact ⟨u, rv, o, (hok a _ e2).1, hd⟩
/-- back from the function's own heap -/
theorem cr_rz {as : List Addr} {Q : VK} {res : Result} {s' : Shared} (e0 : Env0 P w K mg base A outer s H) (W : ∀ c ∈ as, ∃ o, H c = some (frC c o)) (z : CR L2.CX0 outer P w (hid as H) s (fun v H' => (∀ b ∈ as, H' b = none) → Q v (rz as H H')) L2.E0 res s') : CR L2.CX0 outer P w H s Q L2.E0 res s' := by
  match res, z with
  | .error e, z => exact z
  | .ok .next, z => exact z
  | .ok .brk, z => exact z
  | .ok .cont, z => exact z
  | .ok (.ret u), z =>
    obtain ⟨v, H', os, bare, un, hok, rv, q⟩ := z
    have W' : ∀ c ∈ as, ∃ o, H c = some (frC c o) ∧ s.heap.get? c = some o ∧ c ∉ frs outer := fun c hc => by
      obtain ⟨o, e⟩ := W c hc
      exact ⟨o, e, (e0.hok c _ e).1, fun m => by rw [e0.frf c m] at e; cases e⟩
    exact ⟨v, rz as H H', os, bare, un_rz W' un, hok_rz W' un hok, rv, q fun c hc => let ⟨o, _, e2, _⟩ := W' c hc; un.free c o e2 (hid_in hc) (by simp)⟩
end
section
variable {P : Program} {w : World} {K : PySem.W.Frag} {mg : Str → Option Value} {base : Heap} {k : Nat} {f : Addr} {ps fr : List Str} {ws : List (Option V)}
/-- a nested def as a value -/
theorem FV.of_nok {F : NF} {sp : List (Option V) → Sp} (N : NOk P w K mg base L2.CX0 k f F ps fr sp) :
    FV P w K mg base k f (fun H => Clo H f (FnO f F) F.c F.qual F.cl fr ws) (fun vs H Q => sp ws vs (hid (F.cl.map (·.2)) H) (fun v H' => (∀ b ∈ F.cl.map (·.2), H' b = none) → Q v (rz (F.cl.map (·.2)) H H')) L2.E0) := by
  refine ⟨fun H h ok g => ?_, fun H H' st g => g.st True.intro st, fun A outer s H us vs Q hr e0 g r q => ?_⟩
  · obtain ⟨od, sl, doc, pm, ctv, ho⟩ := fnO_at ok g.fn
    exact ⟨_, od, _, sl, ho⟩
  · have W : ∀ c ∈ F.cl.map (·.2), ∃ o, H c = some (frC c o) := fun c hc => let ⟨u, e, _⟩ := g.cel c hc; ⟨u, e⟩
    have nin : ∀ {b φ}, H b = some (.ext φ) → b ∉ F.cl.map (·.2) := fun {b φ} e m => by
      obtain ⟨u, z⟩ := W b m
      rw [e] at z; cases z
    have e1 := env0_hid e0 fun c hc => let ⟨u, e⟩ := W c hc; ⟨_, _, e⟩
    refine codeAny_mono (N.run A outer s _ us vs ws _ L2.E0 hr e1 ?_ ?_ (g.cells e0.hok) r q) fun res s' z => cr_rz e0 W z
    · rw [hid_at (nin g.fn)]; exact g.fn
    · rw [hid_at (nin g.code)]; exact g.code
/-! ### lambdas -/
/-- the object at f is the lambda F, its body an expression -/
def FnE (f : Addr) (F : NF) (body : Expr) : HO := .ext fun h => ∃ pm ctv, h.get? f = some (PySem.W.kla_obj F.name F.qual F.params body F.scope F.cl pm F.c ctv)
theorem FV.of_lam {N : List Str} {F : NF} {body : Expr} {sp : List (Option V) → Sp} (S : NScope N ps fr F.scope) (hb : ∀ (pm ctv : Value) (us : List Value), us.length = ps.length → bindArgs (PySem.W.kla_fn F.name F.qual F.params body F.scope F.cl pm (.ref F.c) ctv) ⟨us, []⟩ = pure (ps.zip us))
    (len : ∀ ws vs H Q E, sp ws vs H Q E → vs.length = ps.length)
    (hbody : ∀ (A : Around) (outer : List Env) (s : Shared) (H : Hp) (vs : List V) (Q : VK), Room k (A.deeper (envF F f s.heap.objs.size)) → ws.length = fr.length → sp ws vs H Q L2.E0 → ∃ t, PE (ncx L2.CX0 P w K mg base N F f A outer s H L2.E0) body t ∧ t (startF N vs ws) H Q) :
    FV P w K mg base (k + 1) f (fun H => Clo H f (FnE f F body) F.c F.qual F.cl fr ws) (fun vs H Q => sp ws vs (hid (F.cl.map (·.2)) H) (fun v H' => (∀ b ∈ F.cl.map (·.2), H' b = none) → Q v (rz (F.cl.map (·.2)) H H')) L2.E0) := by
  refine ⟨fun H h ok g => ?_, fun H H' st g => g.st True.intro st, fun A outer s H us vs Q hr e0 g r q => ?_⟩
  · obtain ⟨⟨pm, ctv, ho⟩, _⟩ := ok f _ g.fn
    exact ⟨_, _, _, _, ho⟩
  · have W : ∀ c ∈ F.cl.map (·.2), ∃ o, H c = some (frC c o) := fun c hc => let ⟨u, e, _⟩ := g.cel c hc; ⟨u, e⟩
    have e1 := env0_hid e0 fun c hc => let ⟨u, e⟩ := W c hc; ⟨_, _, e⟩
    obtain ⟨⟨pm, ctv, ho⟩, _⟩ := e0.hok f _ g.fn
    have hco := codeO_at e0.hok g.code
    have hl := len _ _ _ _ _ q
    have lim : s.heap.NoLimit := e0.mod.nolimit.keeps fun b o e => (e0.bs b o e).1
    have C := g.cells e0.hok
    suffices h : codeAny (model P w) A (.call (.ref f) ⟨us, []⟩) (CR L2.CX0 outer P w (hid (F.cl.map (·.2)) H) s (fun v H' => (∀ b ∈ F.cl.map (·.2), H' b = none) → Q v (rz (F.cl.map (·.2)) H H')) L2.E0) s from codeAny_mono h fun res s' z => cr_rz e0 W z
    refine PySem.W.kla_callFunE hr.depth ho rfl S.co S.gen rfl hco ?_
    rw [hb pm ctv us (by rw [← r.length]; exact hl)]
    refine wpAny_pure (wpAny_newFunctionEnv S.nocell (fun y hy => S.par y.1 (List.of_mem_zip (show (y.1, y.2) ∈ ps.zip us from hy)).1) (fun h₁ hns hsb => ⟨lim.fresh _ hsb, ?_⟩) S.kind)
    have kp : ∀ b o, s.heap.get? b = some o → h₁.get? b = some o := fun b o e => hsb.extBut b o (Nat.ne_of_lt (Heap.lt_size e)) (Heap.get?_push_of_some _ e)
    obtain ⟨t, ht, hq⟩ := hbody A outer s _ vs _ (hr.deeper _) g.len q
    have I := inv_startN (N := N) (F := F) (f := f) (CX := L2.CX0) (E := L2.E0) (tk := s.toks + (ps.zip us).length) S hr.hd e1 hl r C hns kp
    refine PySem.W.kla_codeExpr (wpAny_mono (ht.run [] _ _ _ _ I hq) (fun v s' z => ?_) fun e s' z => z)
    obtain ⟨v', H', J, rv, qv⟩ := z
    exact ⟨v', H', J.os, J.bare, J.base, J.hok, rv, qv⟩
end
end AT

set_option Elab.async false
set_option linter.all false
set_option maxRecDepth 100000
set_option maxHeartbeats 4000000
/-! own words, ninth part: making defs and lambdas within a def -/
namespace AT
open PySem PySem.Spec PyProof.Rows L2 LamX NdefX
/-- the makers' tables: one table of names for the whole text -/
def Tbs (nm : Nat → Nat → Str) (Ps : List Addr) (H : Hp) : Prop := ∀ P ∈ Ps, TabN H P nm
theorem Tbs.ex {nm : Nat → Nat → Str} {Ps : List Addr} {H H' : Hp} (t : Tbs nm Ps H) (e : Ex H H') : Tbs nm Ps H' := fun P hP => (t P hP).ext e
theorem TabN.isT {nm : Nat → Nat → Str} {H : Hp} {P : Addr} (t : TabN H P nm) : ∃ ps, H P = some (.tbl ps) := let ⟨ps, e, _⟩ := t; ⟨ps, e⟩
/-- kept by what changes other things -/
theorem Tbs.kp {nm : Nat → Nat → Str} {Ps S : List Addr} {H H' : Hp} (t : Tbs nm Ps H) (k : Kp S H H') (n : ∀ b ∈ S, ∀ o, H b = some o → ¬ isX o ∧ ∀ ps, o ≠ .tbl ps) : Tbs nm Ps H' := fun P hP => by
  obtain ⟨ps, e, h1, h2⟩ := t P hP
  refine ⟨ps, k P _ (fun z => (n P z _ e).2 _ rfl) e, h1, fun pos cv hc => ?_⟩
  obtain ⟨c, e1, e2⟩ := h2 pos cv hc
  exact ⟨c, e1, k c _ (fun z => (n c z _ e2).1 True.intro) e2⟩
section
variable {X : Cx} {pins : List (Addr × Obj)} {σ : L2.St} {H : Hp} {s : Shared} {nm : Nat → Nat → Str} {Ps : List Addr} {c P c' : Addr} {ps : Array Value} {pos : Pos} {q : Str} {ho : HO} {o : Obj} {h' : Heap} {tk : Tok}
/-- the code object found: the function alone is new -/
theorem inv_hit (I : Inv X pins σ H s) (hx : ∀ b o, s.heap.get? b = some o → h'.get? b = some o) (hsz : s.heap.objs.size ≤ h'.objs.size) (new : ∀ H1, ObjOk X.prog X.w H1 (h'.push o) h'.objs.size ho) :
    Inv X pins σ (upd H h'.objs.size ho) { s with heap := h'.push o, toks := tk } ∧ H h'.objs.size = none :=
  ⟨I.laid (fun b u e => Heap.get?_push_of_some _ (hx b u e)) hsz (new _), I.hok.fresh hsz⟩
/-- the code object made: the table grows, the code object and the function are new -/
theorem inv_made (I : Inv X pins σ H s) (T : Tbs nm Ps H) (hm : P ∈ Ps) (hP : H P = some (.tbl ps)) (ht : TriplesOk ps.toList) (ha : ∀ (p : Pos) cv, codeAmong p ps.toList = some cv → ∃ c, cv = .ref c ∧ H c = some (CodeO c (nm p.line p.col))) (hn : nm pos.line pos.col = q)
    (hx : Heap.ExtBut P s.heap h') (hge : s.heap.objs.size ≤ c') (hlt : c' < h'.objs.size) (hrec : h'.CodeRec (.ref c') q) (htb : h'.get? P = some (PySem.W.tabObj (ps ++ #[rawInt pos.line, rawInt pos.col, .ref c'])))
    (new : ∀ H1, ObjOk X.prog X.w H1 (h'.push o) h'.objs.size ho) :
    ∃ H1, Inv X pins σ H1 { s with heap := h'.push o, toks := tk } ∧ Kp [P] H H1 ∧ Tbs nm Ps H1 ∧ H h'.objs.size = none ∧ H1 h'.objs.size = some ho ∧ H1 c' = some (CodeO c' q) := by
  obtain ⟨c2, oc, vs, t, e2, hoc, hd, hv⟩ := hrec
  cases e2
  have nC : H c' = none := I.hok.fresh hge
  have hsz : s.heap.objs.size ≤ h'.objs.size := Nat.le_trans hge (Nat.le_of_lt hlt)
  have nF : H h'.objs.size = none := I.hok.fresh hsz
  have I1 := inv_table (t' := tk) (more := #[rawInt pos.line, rawInt pos.col, .ref c']) (h' := h') I hP (fun b o hb e => hx b o hb e) htb hge ⟨oc, vs, t, hoc, hd, hv⟩
  have hF1 : ∀ b, b ≠ P → b ≠ c' → upd (upd H P (.tbl (ps ++ #[rawInt pos.line, rawInt pos.col, .ref c']))) c' (CodeO c' q) b = H b := fun b h1 h2 => by rw [upd_ne h2, upd_ne h1]
  have nPc : P ≠ c' := ne_of_none hP nC
  have nPf : P ≠ h'.objs.size := ne_of_none hP nF
  have ncf : c' ≠ h'.objs.size := Nat.ne_of_lt hlt
  have I2 := I1.laid (a := h'.objs.size) (o := ho) (h' := h'.push o) (t' := tk) (fun b u e => Heap.get?_push_of_some _ e) (Nat.le_refl _) (new _)
  generalize hH2 : upd (upd (upd H P (.tbl (ps ++ #[rawInt pos.line, rawInt pos.col, .ref c']))) c' (CodeO c' q)) h'.objs.size ho = H2 at I2
  have old : ∀ b u, b ≠ P → H b = some u → H2 b = some u := fun b u hb e => by
    rw [← hH2, upd_ne (ne_of_none e nF), hF1 b hb (ne_of_none e nC)]
    exact e
  have atP : H2 P = some (.tbl (ps ++ #[rawInt pos.line, rawInt pos.col, .ref c'])) := by rw [← hH2, upd_ne nPf, upd_ne nPc, upd_same]
  have atc : H2 c' = some (CodeO c' q) := by rw [← hH2, upd_ne ncf, upd_same]
  have code : ∀ {b r}, H b = some (CodeO b r) → H2 b = some (CodeO b r) := fun {b r} e => old b _ (fun z => by rw [z, hP] at e; exact codeO_ne _ (Option.some.inj e).symm) e
  refine ⟨H2, I2, fun b u hb e => old b u (fun z => hb (by rw [z]; exact List.mem_cons_self)) e, fun R hR => ?_, nF, by rw [← hH2, upd_same], atc⟩
  by_cases hb : R = P
  · subst hb
    refine ⟨_, atP, ?_, fun p' cv hcv => ?_⟩
    · rw [Array.toList_append]; exact PySem.TriplesOk_snoc _ _ _ _ ht
    · rw [Array.toList_append] at hcv
      rcases among_app2 _ ht hcv with z | ⟨z, z1, z2⟩
      · obtain ⟨c0, e1, e2⟩ := ha p' cv z
        exact ⟨c0, e1, code e2⟩
      · exact ⟨c', z, by rw [← z1, ← z2, hn]; exact atc⟩
  · obtain ⟨ps', a1, a2, a3⟩ := T R hR
    refine ⟨ps', old R _ hb a1, a2, fun p' cv hcv => ?_⟩
    obtain ⟨c0, e1, e2⟩ := a3 p' cv hcv
    exact ⟨c0, e1, code e2⟩
end
/-! ### the statement «def name(..): ..» in a def -/
def tNdf (nm : Nat → Nat → Str) (Ps : List Addr) (P : Addr) (i : Nat) (mk : Addr → NF) : TS := fun D σ H => Tbs nm Ps H ∧ ∀ (f c' : Addr) (H1 : Hp), Kp [P] H H1 → Tbs nm Ps H1 → H f = none → H1 f = some (FnO f (mk c')) → H1 c' = some (CodeO c' (mk c').qual) → D.nx (σ.set i (some (.ref f))) H1
section
variable {X : Cx} {nm : Nat → Nat → Str} {Ps : List Addr} {c P : Addr}
theorem fnO_new {P : Program} {w : World} {F : NF} {h : Heap} {doc pm ctv : Value} {f : Addr} (e : h.get? f = some ({ cls := .type "function", data := .func (F.fd doc pm ctv) } : Obj)) (H1 : Hp) : ObjOk P w H1 h f (FnO f F) :=
  ⟨⟨_, _, doc, pm, ctv, e⟩, ⟨_, e⟩, fun _ _ ⟨od, sl, d, p, t, z⟩ st => ⟨od, sl, d, p, t, st _ z⟩⟩
theorem fnE_new {P : Program} {w : World} {F : NF} {body : Expr} {h : Heap} {pm ctv : Value} {f : Addr} (e : h.get? f = some (PySem.W.kla_obj F.name F.qual F.params body F.scope F.cl pm F.c ctv)) (H1 : Hp) : ObjOk P w H1 h f (FnE f F body) :=
  ⟨⟨pm, ctv, e⟩, ⟨_, e⟩, fun _ _ ⟨p, t, z⟩ st => ⟨p, t, st _ z⟩⟩
theorem ps_ndf {st : Stmt} {name : Str} {pos : Pos} {i : Nat} (hst : st = .FunctionDef name (C8.fnArgs st) (C8.fnBody st) [] none [] (C8.fnScope st) none name pos) (TB : TabB X.base X.mg c P) (hcode : X.env.code = .ref c) (hm : P ∈ Ps) (hn : nm pos.line pos.col = X.env.qual ++ name) {fr : List Str} (hfr : ndefB X.env.scope (C8.fnScope st) fr = true)
    (hd0 : (C8.fnArgs st).defaults = []) (hk0 : (C8.fnArgs st).kw_defaults = []) (ha : annTrees (C8.fnArgs st) none X.env = []) (hN : X.N.Nodup) (hi : X.N[i]? = some name) (hx : Loc X.env.scope name) (hf : X.fn name = true ∨ X.env.scope.names.lookup name = some .local) :
    PS X st (tNdf nm Ps P i (NF.of st name (X.env.qual ++ name) (cloFrom X.env.cells (C8.fnScope st).names []))) := by
  rw [hst]
  constructor
  intro pins s σ H D I q
  obtain ⟨T, q⟩ := q
  have hq : qualnameIn X.env name name = X.env.qual ++ name := by
    have hk : X.env.kindOf name = some .local ∨ X.env.kindOf name = some .cell := hx
    unfold qualnameIn
    rcases hk with k | k
    · rw [k]; rfl
    · rw [k]; exact if_neg (by decide)
  refine PySem.W.nestDef_K hd0 hk0 ha ?_
  rw [hq]
  have hfree : ∀ y ∈ (C8.fnScope st).names, y.2 = .free → ∃ a, X.env.cells.lookup y.1 = some a := fun y hy e => I.ok.has _ (ndef_free hfr y hy e)
  obtain ⟨ps, hP, ht, hal⟩ := T P hm
  have bP : s.heap.BuiltinsAt X.mg P := TB.bm.keeps I.bk
  have hP' : s.heap.get? P = some { cls := .none, data := .fields ps } := I.hok P _ hP
  have gl := I.mod.glob.keeps I.bk
  have cd := TB.code.keeps I.bk
  have go : ∀ (f c' : Addr) (H1 : Hp) (s' : Shared), Inv X pins σ H1 s' → Kp [P] H H1 → Tbs nm Ps H1 → H f = none → H1 f = some (FnO f (NF.of st name (X.env.qual ++ name) (cloFrom X.env.cells (C8.fnScope st).names []) c')) → H1 c' = some (CodeO c' (X.env.qual ++ name)) →
      wpAny (model X.prog X.w) X.A (storeName X.env name (.ref f)) (fun _ s'' => SP X pins D .next s'') X.xe s' := fun f c' H1 s' I1 k t n h1 h2 =>
    store_ok I1 hN hi hx (v := .ref f) rfl (fun s'' J => ⟨_, H1, J, q f c' H1 k t n h1 h2⟩) hf
  cases hc : codeAmong pos ps.toList with
  | some cv =>
    obtain ⟨c', rfl, hco⟩ := hal pos cv hc
    rw [hn] at hco
    refine PySem.W.makeFunction_hit (mg := X.mg) (closure_ok hfree) I.ok.glob gl hcode cd hP' ht hc bP fun ctv doc h' tk hx2 hsz => ?_
    obtain ⟨J, nF⟩ := inv_hit (tk := tk) (ho := FnO h'.objs.size (NF.of st name (X.env.qual ++ name) (cloFrom X.env.cells (C8.fnScope st).names []) c')) I hx2 hsz fun H1 => fnO_new (doc := doc) (pm := (X.mg "__name__").getD .none) (ctv := ctv) (Heap.get?_push_size _ rfl) H1
    have e := Evl.Ex.new (o := FnO h'.objs.size (NF.of st name (X.env.qual ++ name) (cloFrom X.env.cells (C8.fnScope st).names []) c')) nF
    exact go _ c' _ _ J (Kp.of_ex e) (T.ex e) nF upd_same (e _ _ hco)
  | none =>
    refine PySem.W.makeFunction_K (mg := X.mg) (closure_ok hfree) I.ok.glob gl hcode cd hP' ht hc TB.gP bP fun c' ctv doc h' tk hx2 hge hlt hrec htb => ?_
    obtain ⟨H1, J, k, t, n, h1, h2⟩ := inv_made (tk := tk) (ho := FnO h'.objs.size (NF.of st name (X.env.qual ++ name) (cloFrom X.env.cells (C8.fnScope st).names []) c')) I T hm hP ht hal hn hx2 hge hlt hrec htb fun H1 => fnO_new (doc := doc) (pm := (X.mg "__name__").getD .none) (ctv := ctv) (Heap.get?_push_size _ rfl) H1
    exact go _ c' _ _ J k t n h1 h2
/-! ### a lambda -/
def tLmd (nm : Nat → Nat → Str) (Ps : List Addr) (P : Addr) (mk : Addr → NF) (body : Expr) : TE := fun σ H Q => Tbs nm Ps H ∧ ∀ (f c' : Addr) (H1 : Hp), Kp [P] H H1 → Tbs nm Ps H1 → H f = none → H1 f = some (FnE f (mk c') body) → H1 c' = some (CodeO c' (mk c').qual) → Q (.ref f) H1
theorem pe_lmd {params : Arguments} {body : Expr} {scope : Scope} {pos : Pos} (TB : TabB X.base X.mg c P) (hcode : X.env.code = .ref c) (hm : P ∈ Ps) (hn : nm pos.line pos.col = X.env.qual ++ "<lambda>") {fr : List Str} (hfr : ndefB X.env.scope scope fr = true) (hdef : defaultsOf params X.env = ([], [])) :
    PE X (.Lambda params body scope pos) (tLmd nm Ps P (fun c' => ⟨"<lambda>", X.env.qual ++ "<lambda>", params, [], scope, cloFrom X.env.cells scope.names [], c'⟩) body) := by
  constructor
  intro pins s σ H Q I q
  obtain ⟨T, q⟩ := q
  refine PySem.W.kla_eval hdef ?_
  have hfree : ∀ y ∈ scope.names, y.2 = .free → ∃ a, X.env.cells.lookup y.1 = some a := fun y hy e => I.ok.has _ (ndef_free hfr y hy e)
  obtain ⟨ps, hP, ht, hal⟩ := T P hm
  have bP : s.heap.BuiltinsAt X.mg P := TB.bm.keeps I.bk
  have hP' : s.heap.get? P = some { cls := .none, data := .fields ps } := I.hok P _ hP
  have gl := I.mod.glob.keeps I.bk
  have cd := TB.code.keeps I.bk
  cases hc : codeAmong pos ps.toList with
  | some cv =>
    obtain ⟨c', rfl, hco⟩ := hal pos cv hc
    rw [hn] at hco
    refine PySem.W.kla_makeFunctionHit (mg := X.mg) (closure_ok hfree) I.ok.glob gl hcode cd hP' ht hc bP fun ctv h' tk hx2 hsz => ?_
    obtain ⟨J, nF⟩ := inv_hit (tk := tk) (ho := FnE h'.objs.size ⟨"<lambda>", X.env.qual ++ "<lambda>", params, [], scope, cloFrom X.env.cells scope.names [], c'⟩ body) I hx2 hsz fun H1 => fnE_new (pm := (X.mg "__name__").getD .none) (ctv := ctv) (Heap.get?_push_size _ rfl) H1
    have e := Evl.Ex.new (o := FnE h'.objs.size ⟨"<lambda>", X.env.qual ++ "<lambda>", params, [], scope, cloFrom X.env.cells scope.names [], c'⟩ body) nF
    exact ⟨.ref _, _, J, rfl, q _ c' _ (Kp.of_ex e) (T.ex e) nF upd_same (e _ _ hco)⟩
  | none =>
    refine PySem.W.kla_makeFunction (mg := X.mg) (closure_ok hfree) I.ok.glob gl hcode cd hP' ht hc TB.gP bP fun c' ctv h' tk hx2 hge hlt hrec htb => ?_
    obtain ⟨H1, J, k, t, n, h1, h2⟩ := inv_made (tk := tk) (ho := FnE h'.objs.size ⟨"<lambda>", X.env.qual ++ "<lambda>", params, [], scope, cloFrom X.env.cells scope.names [], c'⟩ body) I T hm hP ht hal hn hx2 hge hlt hrec htb fun H1 => fnE_new (pm := (X.mg "__name__").getD .none) (ctv := ctv) (Heap.get?_push_size _ rfl) H1
    exact ⟨.ref _, H1, J, rfl, q _ c' H1 k t n h1 h2⟩
end
/-! ### a maker of the text -/
structure FunT (K : PySem.W.Frag) (x qual : Str) (st : Stmt) (f : Addr) (fd : FuncData) (c : Addr) : Prop where
  ex : ∃ (oc : Value) (od : Option Addr) (kV doc pm : Value) (an : Option Addr) (ct : Value) (osl : Array (Option Value)), fd = PySem.W.fnOf x qual (defArgs st) (defBody st) (defScope st) .none kV doc pm an (.ref c) ct ∧ K.lookup f = some ⟨oc, od, .func fd, osl⟩ ∧ PySem.W.codeIn K (.ref c) qual = true
theorem funT_mk {K : PySem.W.Frag} {x qual : Str} {st : Stmt} {f c : Addr} {oc : Value} {od an : Option Addr} {osl : Array (Option Value)} {kV doc pm cd ct : Value} (l : K.lookup f = some ⟨oc, od, .func (PySem.W.fnOf x qual (defArgs st) (defBody st) (defScope st) .none kV doc pm an cd ct), osl⟩) (ec : cd = .ref c)
    (h : PySem.W.codeIn K cd qual = true) : FunT K x qual st f (PySem.W.fnOf x qual (defArgs st) (defBody st) (defScope st) .none kV doc pm an cd ct) c := by
  subst ec
  exact ⟨oc, od, kV, doc, pm, an, ct, osl, rfl, l, h⟩
/-- a maker, by its body -/
theorem FunT.ok {P : Program} {w : World} {K : PySem.W.Frag} {mg : Str → Option Value} {base : Heap} {x qual : Str} {st : Stmt} {f c : Addr} {fd : FuncData} {N ps : List Str} {k : Nat} {sp : Sp} (F : FunT K x qual st f fd c) (S : FnScope N ps (defScope st)) (len : ∀ vs H Q E, sp vs H Q E → vs.length = ps.length)
    (hb : ∀ (A : Around) (outer : List Env) (s : Shared) (H : Hp) (vs : List V) (Q : VK) (E : XK), Room k (A.deeper (PyProof.Rows.envOfC qual (defScope st) s.heap.objs.size f (.ref c))) → sp vs H Q E →
      ∃ t, PSs (cxOf L2.CX0 P w K mg base N qual (defScope st) f (.ref c) A outer s H E).nox (defBody st) t ∧ t { nx := fun _ H' => Q .non H', rt := Q } (L2.start N vs) H) : FnOk P w K mg base L2.CX0 (k + 1) f fd ps sp := by
  obtain ⟨oc, od, kV, doc, pm, an, ct, osl, rfl, lk, hcd⟩ := F.ex
  refine fn_of lk hcd S len fun A outer s H vs Q E hr hsp => ?_
  obtain ⟨t, h, q⟩ := hb A outer s H vs Q E hr hsp
  exact ⟨t, PSs.nox h, q⟩
/-- a nested def, by its body -/
theorem nok_by {P : Program} {w : World} {K : PySem.W.Frag} {mg : Str → Option Value} {base : Heap} {N ps fr : List Str} {F : NF} {f : Addr} {k : Nat} {sp : List (Option V) → Sp} (S : NScope N ps fr F.scope)
    (hb : ∀ (doc pm ctv : Value) (us : List Value), us.length = ps.length → bindArgs (F.fd doc pm ctv) ⟨us, []⟩ = pure (ps.zip us)) (len : ∀ ws vs H Q E, sp ws vs H Q E → vs.length = ps.length)
    (hbody : ∀ (A : Around) (outer : List Env) (s : Shared) (H : Hp) (vs : List V) (ws : List (Option V)) (Q : VK) (E : XK), Room k (A.deeper (envF F f s.heap.objs.size)) → ws.length = fr.length → sp ws vs H Q E →
      ∃ t, PSs (ncx L2.CX0 P w K mg base N F f A outer s H E).nox F.body t ∧ t { nx := fun _ H' => Q .non H', rt := Q } (startF N vs ws) H) : NOk P w K mg base L2.CX0 (k + 1) f F ps fr sp := by
  refine nok_of S hb len fun A outer s H vs ws Q E hr _ _ hl hsp => ?_
  obtain ⟨t, h, q⟩ := hbody A outer s H vs ws Q E hr hl hsp
  exact ⟨t, PSs.nox h, q⟩
def inBody (st : Stmt) (i : Nat) : Stmt := (defBody st).getD i (.Pass ⟨0, 0, 0, 0⟩)
/-- which table the code object at c has -/
def tabOf (K : PySem.W.Frag) (c : Addr) : Addr := match K.lookup c with
  | some ⟨_, _, .fields vs, _⟩ => match (vs[11]? : Option PySem.Value) with
    | some (.ref p) => p
    | _ => 0
  | _ => 0
theorem tab_is {K : PySem.W.Frag} {c : Addr} (h : PySem.W.codeHdIn K c (tabOf K c) = true) : PySem.W.codeHdIn K c (tabOf K c) = true := h
theorem mem_dec {p : Addr} {l : List Addr} (h : decide (p ∈ l) = true) : p ∈ l := of_decide_eq_true h
end AT

set_option Elab.async false
set_option linter.all false
set_option maxRecDepth 100000
set_option maxHeartbeats 4000000
/-! own words, tenth part: enumerate over a text; sep.join(reversed(a list)) -/
namespace AT
open PySem PySem.Spec PyProof.Rows L2
section
abbrev SgnP (x : Str) : Nat → Value → Prop := fun i v => ∃ c u, x.cps[i]? = some c ∧ v = .str ⟨#[c]⟩ u
theorem draws_sgn {P : Program} {w : World} {B : Around} (calm : B.handled = none) (z : Addr) (x : Str) (t : Tok) : Draws P w B z [z] x.cps.size (SgnP x) (fun i g => g.IsStrIter z (strIterType x) x t i) := by
  unfold strIterType
  cases x.cps.all (· < 128) with
  | true => exact Draws.strAscii calm z x t
  | false => exact Draws.strWide calm z x t
/-- the text x, each sign in a new pair with its place -/
def ItEs (x : Str) : It where
  go := fun i _ => i < x.cps.size
  yld := fun i H v H' => ∃ T c, v = .ref T ∧ H T = none ∧ x.cps[i]? = some c ∧ H' = upd H T (.tup [.int (i : Nat), .str ⟨#[c]⟩])
  stop := fun i _ => x.cps.size ≤ i
theorem turn_enumS {P : Program} {w : World} {K : PySem.W.Frag} {tgs : List Expr} {kk : Nat} {tp : Pos} (x : Str) (t : Tok) (e z : Addr) :
    Turn P w K (.Tuple tgs kk tp) (ItEs x) [e, z] e (fun i g => (∃ old, IsEnum g e z ((i : Nat) : Int) old) ∧ g.IsStrIter z (strIterType x) x t i ∧ e ≠ z ∧ i ≤ x.cps.size) := by
  refine ⟨List.mem_cons_self, fun i g st b hb => ?_, fun i g g' st k => ?_, ?_, ?_, fun B i s Q E st h => ?_⟩
  · obtain ⟨⟨old, he⟩, ⟨o, ho, hc, hd⟩, _⟩ := st
    rcases List.mem_cons.mp hb with y | y
    · rw [y]; exact ⟨_, he, fun v t => nomatch t⟩
    · rw [List.mem_singleton.mp y]; exact ⟨o, ho, fun v t => by rw [hd] at t; cases t⟩
  · obtain ⟨⟨old, he⟩, ⟨o, ho, r⟩, ne, hi⟩ := st
    exact ⟨⟨old, k e List.mem_cons_self _ he⟩, ⟨o, k z (List.mem_cons_of_mem _ List.mem_cons_self) _ ho, r⟩, ne, hi⟩
  · intro X hP hw hK hc i pins s σ H E I hf st hg
    subst hP hw hK
    obtain ⟨⟨old, he⟩, hz, ne, hi⟩ := st
    have lt : i < x.cps.size := hg
    have heL : e < s.heap.objs.size := Heap.lt_size he
    have hzL : z < s.heap.objs.size := by obtain ⟨_, q, _⟩ := hz; exact Heap.lt_size q
    refine wpAny_pyNext_enum_itemD (draws_sgn (P := X.prog) (w := X.w) (B := X.A.in1) (show X.A.in1.handled = none from I.ok.hd hc) z x t) he hz lt ne (by simp [ne]) fun u' g tk hu' ho st' hT hsz hk => ?_
    obtain ⟨c, tu, hc1, rfl⟩ := hu'
    refine ⟨_, rfl, wpAny_letOwnedTupleGo_enum (s := { s with heap := g, toks := tk + 1 }) ho fun g2 he' sb => ?_⟩
    have hT2 : g2.get? s.heap.objs.size = some { cls := .type "tuple", data := .seq #[.int i tk, .str ⟨#[c]⟩ tu] } := (sb.2 _ (Nat.ne_of_gt heL)).trans hT
    have new : ObjOk X.prog X.w (upd H s.heap.objs.size (.tup [.int (i : Nat), .str ⟨#[c]⟩])) g2 s.heap.objs.size (.tup [.int (i : Nat), .str ⟨#[c]⟩]) :=
      ⟨by show 2 ≤ sizeLine; decide, [.int i tk, .str ⟨#[c]⟩ tu], .cons ⟨_, rfl⟩ (.cons ⟨_, rfl⟩ .nil), ⟨_, hT2, rfl, _, rfl⟩⟩
    have I1 : Inv X pins σ (upd H s.heap.objs.size (.tup [.int (i : Nat), .str ⟨#[c]⟩])) { s with heap := g2, toks := tk + 1 } :=
      I.turnedNew (ch := [e, z]) (fun b ob hb t => (sb.2 b (fun y => hb (by simp [y]))).trans (hk b ob (fun y => hb (by simp [y])) (fun y => hb (by simp [y])) t)) hf (Nat.le_refl _) new
    refine ⟨.ref s.heap.objs.size, _, I1, rfl, ⟨_, c, rfl, I.hok.fresh (Nat.le_refl _), hc1, rfl⟩, ⟨⟨.str ⟨#[c]⟩ tu, ?_⟩, ?_, ne, lt⟩, fun b hb => ?_⟩
    · have e1 : ((i + 1 : Nat) : Int) = (i : Int) + 1 := by omega
      rw [e1]
      exact he'
    · obtain ⟨o, q, r⟩ := st'
      exact ⟨o, (sb.2 z (Ne.symm ne)).trans q, r⟩
    · have hb' : b < s.heap.objs.size := by
        rcases List.mem_cons.mp hb with y | y
        · exact y ▸ heL
        · exact List.mem_singleton.mp y ▸ hzL
      rw [upd_ne (Nat.ne_of_lt hb')]
      exact (hf b hb).1
  · intro X hP hw hK hc i pins s σ H E I hf st hg
    subst hP hw hK
    obtain ⟨⟨old, he⟩, hz, ne, hi⟩ := st
    obtain ⟨f0, f1, f2, f3, f4, f5⟩ := hf z (List.mem_cons_of_mem _ List.mem_cons_self)
    have hl : i = x.cps.size := Nat.le_antisymm hi hg
    rw [hl] at he hz
    refine wpAny_pyNext_enum_endD (draws_sgn (P := X.prog) (w := X.w) (B := X.A.in1) (show X.A.in1.handled = none from I.ok.hd hc) z x t) he hz fun g eb => ⟨rfl, I.turned (t' := s.toks) (fun b o hb t => eb b o hb t) f0 f1 f3 f4 f5⟩
  · obtain ⟨⟨_, he⟩, _⟩ := st
    exact wpAny_pyIter_enum he h
def iEnumS (ta : TA) : TI := fun σ H R => ta σ H fun vs H1 => ∃ x, vs = [.str x] ∧ R (ItEs x) H1
theorem pi_enumS {X : Cx} {e : Expr} {ta : TA} {p pos tp : Pos} {tgs : List Expr} {kk : Nat} (hg : Gl X "enumerate") (hm : X.mg "enumerate" = none) (ha : PA X [e] ta) (hs : starEach [e] X.env = [(false, eval e X.env)] := by rfl) :
    PI X (.Tuple tgs kk tp) (.Call (.Name "enumerate" p) [e] [] pos) (iEnumS ta) := by
  constructor
  intro pins s σ H R I h
  refine Call_ (ld_blt I hg hm boot_enumerate (PyProof.Rows.callWith_type1 (thn (ha.run pos pins s σ H _ I h) fun us s1 z => ?_) hs rfl))
  obtain ⟨vs, H1, I1, r1, x, ex, q⟩ := z
  subst ex
  obtain ⟨u, rfl, ru⟩ := vals1 r1
  obtain ⟨t, rfl⟩ := ru
  refine call_enumerate_str fun g he hit hsz hk => wpAny_pyIter_enum he ?_
  have I2 : Inv X pins σ H1 { s1 with heap := g } := I1.kept (t' := s1.toks) hk
  refine ⟨s1.heap.objs.size + 1, [s1.heap.objs.size + 1, s1.heap.objs.size], _, _, H1, rfl, I2, turn_enumS x t (s1.heap.objs.size + 1) s1.heap.objs.size, ⟨⟨.none, he⟩, hit, Nat.succ_ne_self _, Nat.zero_le _⟩, fun b hb => ?_, q⟩
  have hle : s1.heap.objs.size ≤ b := by
    rcases List.mem_cons.mp hb with y | y
    · rw [y]; exact Nat.le_succ _
    · rw [List.mem_singleton.mp y]; exact Nat.le_refl _
  exact I1.fpOk hle (I1.hok.fresh hle)
theorem walk_enumS {x : Str} : Walk (ItEs x) x.cps.size (fun _ => True) (fun i H v H' => ∃ T c, v = .ref T ∧ H T = none ∧ x.cps[i]? = some c ∧ H' = upd H T (.tup [.int (i : Nat), .str ⟨#[c]⟩])) :=
  ⟨fun i _ hi _ => hi, fun _ _ => Nat.le_refl _, fun i H v H' _ _ y => y⟩
/-- enumerate of a list, a tuple or a text -/
def iEnumX (K : PySem.W.Frag) (ta : TA) : TI := fun σ H R => iEnumS ta σ H R ∨ iEnumA K ta σ H R
theorem pi_enumX {X : Cx} {e : Expr} {ta : TA} {p pos tp : Pos} {tgs : List Expr} {kk : Nat} (hg : Gl X "enumerate") (hm : X.mg "enumerate" = none) (ha : PA X [e] ta) (hs : starEach [e] X.env = [(false, eval e X.env)] := by rfl) :
    PI X (.Tuple tgs kk tp) (.Call (.Name "enumerate" p) [e] [] pos) (iEnumX X.K ta) := PI.or (pi_enumS hg hm ha hs) (pi_enumA hg hm ha hs)
end
/-! ### sep.join(reversed(a list)) -/
section
variable {P : Program} {w : World} {A : Around} {E : Value → Shared → Prop} {s : Shared}
theorem join_rev {x : Str} {t : Tok} {it l : Addr} {its : Array Value} {ys : List Str} {Q : Value → Shared → Prop} (calm : A.handled = none) (hit : s.heap.IsRevIter it l ((its.size : Int) - 1)) (hl : s.heap.IsList l its) (hne : l ≠ it) (hn : its.size ≤ sizeLine)
    (hP : ∀ acc : Array Value, ItemsOf (fun i v => its[its.size - 1 - i]? = some v) acc its.size → StrsAre acc.toList ys) (hok : (ys.map (·.length)).sum + ys.length * x.length ≤ 16777216)
    (hq : ∀ h' tk t', (∀ b o, b ≠ it → s.heap.get? b = some o → h'.get? b = some o) → Q (.str (Txt.join x ys) t') { s with heap := h', toks := tk }) : wpAny (model P w) A (call (.builtin "str.join") [.str x t, .ref it]) Q E s := by
  refine wpAny_call (codeAny_call_builtin F.slot_str_join.plain F.entry_str_join (F.slot_str_join.check _ _ _ _ _ _ _ _ (typeIs_str _ _ _) (F.args_str_join_2 _ _) ?_))
  rw [join_tree_other]
  have ty : s.TypeIs (.ref it) "list_reverseiterator" := hit.typeIs
  refine wpAny_bind (wpAny_typeOf ty ?_)
  rw [if_neg (by decide)]
  refine wpAny_bind (wpAny_tryCatch (wpAny_pyIter_revIter hit ?_))
  have calm1 : A.in1.in1.handled = none := calm
  refine wpAny_bind (RT.collect_rev (A := A.in1) calm hit hl hne hn fun h' tk acc kp items => ?_)
  obtain ⟨ps, hps, es⟩ := strsAre_values (hP acc items)
  subst es
  rw [hps]
  have fit := joinOk_of hok
  unfold JoinOk at fit
  rw [Bool.not_eq_true'] at fit
  have g : Gives (PySem.joinTail x (strValues ps)) (joinMade x ps) := by
    have made := PySem.gives_joinTail x ps fit
    rcases ps with _ | ⟨one, _ | ⟨two, rest⟩⟩
    · exact made
    · exact made
    · exact made
  exact g P w A (wants Q E) _ (PySem.post_join ps ⟨PySem.joinFit_length fit, fun t' k => hq h' k t' kp⟩)
end
theorem strs_rev {ys : List Str} {its : List Value} {acc : Array Value} (r : Vals (ys.map V.str) its) (h : ItemsOf (fun i v => its.toArray[its.toArray.size - 1 - i]? = some v) acc its.toArray.size) : StrsAre acc.toList ys.reverse := by
  have r2 := RT.vals_rev r h
  rw [← List.map_reverse] at r2
  generalize ys.reverse = zs at r2
  generalize acc.toList = us at r2
  clear h r
  induction zs generalizing us with
  | nil => cases r2; exact .nil
  | cons z zs ih =>
    cases r2 with
    | cons r1 r3 =>
      obtain ⟨t, rfl⟩ := r1
      exact .cons z t (ih _ r3)
def tJoinRev (K : PySem.W.Frag) (to : TE) (ta : TA) : TE := fun σ H Q => to σ H fun v H1 => (∃ a : Str, v = .str a) ∧ ta σ H1 fun vs H2 => ∃ (a : Str) (q : Addr) (ys : List Str), v = .str a ∧ vs = [.ref q] ∧ SqL K H2 q (ys.map V.str) ∧
  (ys.map (·.length)).sum + ys.length * a.length ≤ 16777216 ∧ Q (.str (Txt.join a ys.reverse)) H2
theorem pe_joinRev {X : Cx} {o e : Expr} {to : TE} {ta : TA} {apos pos p2 pos2 : Pos} (calm : X.calm = true) (ho : PE X o to) (hg : Gl X "reversed") (hm : X.mg "reversed" = none) (ha : PA X [e] ta) (hs : starEach [e] X.env = [(false, eval e X.env)] := by rfl)
    (hs1 : starEach [.Call (.Name "reversed" p2) [e] [] pos2] X.env = [(false, eval (.Call (.Name "reversed" p2) [e] [] pos2) X.env)] := by rfl) (hbase : attributeBase o "join" X.env (eval o X.env) = eval o X.env := by rfl) (hline : (apos.endLine == pos.line) = true := by rfl) :
    PE X (.Call (.Attribute o "join" apos) [.Call (.Name "reversed" p2) [e] [] pos2] [] pos) (tJoinRev X.K to ta) := by
  constructor
  intro pins s σ H Q I h
  refine PySem.Call_method1 hbase hs1 hline (thn (ho.run pins s σ H _ I h) fun v s1 z => ?_)
  obtain ⟨x, H1, I1, r1, ⟨a, rfl⟩, q1⟩ := z
  obtain ⟨t, rfl⟩ := _root_.id r1
  refine ⟨"str", _, F.plainAttrs_str, F.slot_str_join, F.type_str_join, typeIs_str _ _ _, (fun _ e => nomatch e), Calls.callWith_builtin rfl (Calls.evalArgs_plain (Calls.spliced_cons ?_))⟩
  refine Call_ (ld_blt I1 hg hm PyProof.Rows.boot_reversed (PyProof.Rows.callWith_type1 (thn (ha.run pos2 pins s1 σ H1 _ I1 q1) fun us s2 z => ?_) hs rfl))
  obtain ⟨vs, H2, I2, r2, a', q, ys, ea, ev, hq, hz, q2⟩ := z
  cases ea
  subst ev
  obtain ⟨u, rfl, ru⟩ := vals1 r2
  cases (show u = Value.ref q from ru)
  obtain ⟨its, rv, p', hl⟩ := I2.list hq
  refine call_reversed_list p'.isList (Calls.spliced_nil ?_)
  have hol : q < s2.heap.objs.size := by obtain ⟨o, z, _⟩ := p'.isList; exact Heap.lt_size z
  have k0 : ∀ b o, s2.heap.get? b = some o → (s2.heap.push (revObj q ((its.toArray.size : Int) - 1))).get? b = some o := fun b o z => Heap.get?_push_of_some _ z
  have J : Inv X pins σ H2 { s2 with heap := s2.heap.push (revObj q ((its.toArray.size : Int) - 1)) } := I2.kept (t' := s2.toks) k0
  obtain ⟨f0, f1, f2, f3, f4, f5⟩ := I2.fpOk (H' := H2) (b := s2.heap.objs.size) (Nat.le_refl _) (I2.hok.fresh (Nat.le_refl _))
  refine join_rev (s := { s2 with heap := s2.heap.push (revObj q ((its.toArray.size : Int) - 1)) }) (ys := ys.reverse) (I2.ok.hd calm) ⟨_, Heap.get?_push_size _ rfl, rfl, rfl⟩ (p'.isList.push _) (Nat.ne_of_lt hol) ?_ (fun acc hi => strs_rev rv hi) ?_ fun h' tk t' kp => ?_
  · rw [List.size_toArray, ← rv.length]; exact hl
  · rw [List.map_reverse, List.sum_reverse, List.length_reverse]; exact hz
  · exact ⟨.str _, H2, J.turned (t' := tk) (fun b o hb z => kp b o hb z) f0 f1 f3 f4 f5, ⟨t', rfl⟩, q2⟩
section
variable {X : Cx} (K : PySem.W.Frag) (hK : X.K = K := by rfl)
include hK
theorem kJr {e : Expr} {to : TE} {ta : TA} (h : PE X e (tJoinRev X.K to ta)) : PE X e (tJoinRev K to ta) := hK ▸ h
end
section
variable {σ : L2.St} {H : Hp} {Q : VK} {D : Ends} {t : TA} {to : TE} {ta : TA} {nm : Nat → Nat → Str} {Ps : List Addr} {P : Addr} {i : Nat} {mk : Addr → NdefX.NF} {X : Cx} {sp : Sp} {R : It → Hp → Prop}
theorem rd_ndf (T : Tbs nm Ps H) (h : ∀ (f c' : Addr) (H1 : Hp), Kp [P] H H1 → Tbs nm Ps H1 → H f = none → H1 f = some (NdefX.FnO f (mk c')) → H1 c' = some (LamX.CodeO c' (mk c').qual) → D.nx (σ.set i (some (.ref f))) H1) : tNdf nm Ps P i mk D σ H := ⟨T, h⟩
theorem rd_callZ (h : t σ H fun vs H1 => ∀ O, OwnC X σ O H1 → sp vs (fz (ca X) O H1) (fun v H2 => Q v (hid (ca X) H2)) L2.E0) : tCallZ X sp t σ H Q := h
theorem rd_enS (h : ta σ H fun vs H1 => ∃ x, vs = [.str x] ∧ R (ItEs x) H1) : iEnumS ta σ H R := h
end
section
variable {X : Cx}
/-- t.index(True), t a tuple of truth values -/
def rIdxB (K : PySem.W.Frag) : V → List V → Hp → VK → Prop := fun x xs H Q => ∃ (p : Addr) (bs : List Bool) (j : Nat), x = .ref p ∧ xs = [.bl true] ∧ SqT K H p (bs.map V.bl) ∧ bs[j]? = some true ∧ (∀ m, m < j → bs[m]? ≠ some true) ∧ Q (.int (j : Nat)) H
theorem flat_bls : ∀ bs : List Bool, (bs.map V.bl).all flatV = true
  | [] => rfl
  | _ :: bs => flat_bls bs
theorem mt_tupIdxB : MtR X "tuple.index" (rIdxB X.K) := by
  intro pins s σ H x xs v us Q I rx rs h
  obtain ⟨p, bs, j, rfl, rfl, hq, hj, no, q⟩ := h
  cases rx
  obtain ⟨u, rfl, ru⟩ := vals1 rs
  cases (show u = Value.bool true from ru)
  obtain ⟨its, r, ⟨⟨cls, dd, dt, sl⟩, ho, hc, n, hd⟩, hz⟩ := I.tuple hq
  simp only at hc hd
  subst hc hd
  have len : its.toArray.size = bs.length := by
    have := r.length
    rw [List.length_map] at this
    rw [List.size_toArray]; exact this.symm
  have jl : j < its.toArray.size := by rw [len]; exact (List.getElem?_eq_some_iff.mp hj).1
  have here : ∀ (m : Nat) (hm : m < its.toArray.size), ∃ b, bs[m]? = some b ∧ its.toArray[m] = Value.bool b := fun m hm => by
    have hm' : m < bs.length := len ▸ hm
    obtain ⟨z, hz1, hz2⟩ := r.get (i := m) (x := .bl bs[m]) (by simp [hm'])
    refine ⟨bs[m], List.getElem?_eq_getElem hm', ?_⟩
    cases (show z = Value.bool bs[m] from hz2)
    simpa using (List.getElem?_eq_some_iff.mp hz1).2
  refine call_meets PySem.F.slot_tuple_index ⟨_, ho, rfl⟩ PySem.F.entry_tuple_index (PySem.F.args_tuple_index_2 _ _) (TI.tuple_indexAt p its.toArray n dd sl (.bool true) (eqU (.bl true)) j jl ?_ ?_) ⟨ho, fun z hz => mem_eqAt (x := .bl true) rfl rfl r (flat_bls bs) z (by simpa using hz), ⟨.int (j : Nat), H, I.tok _, ⟨_, rfl⟩, q⟩⟩
  · obtain ⟨b, h1, h2⟩ := here j jl
    rw [hj] at h1
    cases h1
    rw [h2]
    rfl
  · intro m hm hmj
    obtain ⟨b, h1, h2⟩ := here m hm
    rw [h2]
    cases b with
    | true => exact absurd h1 (no m hmj)
    | false => rfl
end
section
variable {X : Cx} (K : PySem.W.Frag) (hK : X.K = K := by rfl)
include hK
theorem kIdxB : MtR X "tuple.index" (rIdxB K) := hK ▸ mt_tupIdxB
end
theorem PE.or {X : Cx} {e : Expr} {t t' : TE} (h : PE X e t) (h' : PE X e t') : PE X e (fun σ H Q => t σ H Q ∨ t' σ H Q) := by
  constructor
  intro pins s σ H Q I q
  exact q.elim (h.run pins s σ H Q I) (h'.run pins s σ H Q I)
/-! ### what stands still hides no data -/
section
variable {K : PySem.W.Frag} {S : List Addr} {H H' : Hp}
theorem rz_hid : rz S H (hid S H) = H := by
  funext b
  by_cases hb : b ∈ S
  · rw [rz_in hb]
  · rw [rz_at hb, hid_at hb]
/-- all of S are things that no data leans on -/
def NoD (S : List Addr) (H : Hp) : Prop := ∀ b ∈ S, ∀ o, H b = some o → (∀ xs, o ≠ .lst xs) ∧ (∀ xs, o ≠ .tup xs) ∧ (∀ u xs, o ≠ .frz u (.lst xs)) ∧ ∀ u xs, o ≠ .frz u (.tup xs)
theorem NoD.of_fr (W : ∀ b ∈ S, ∃ o, H b = some (frC b o)) : NoD S H := fun b hb o e => by
  obtain ⟨u, z⟩ := W b hb
  rw [z] at e
  cases e
  exact ⟨fun xs z => (nomatch z), fun xs z => (nomatch z), (fun u xs z => by cases z), (fun u xs z => by cases z)⟩
theorem sqt_noD (h : NoD S H) {a : Addr} {vs : List V} (q : SqT K H a vs) : SqT K (hid S H) a vs := by
  rcases q with (q | ⟨o, q⟩) | q
  · exact .inl (.inl (by rw [hid_at fun hb => (h a hb _ q).2.1 _ rfl]; exact q))
  · exact .inl (.inr ⟨o, by rw [hid_at fun hb => (h a hb _ q).2.2.2 _ _ rfl]; exact q⟩)
  · exact .inr q
theorem sql_noD (h : NoD S H) {a : Addr} {vs : List V} (q : SqL K H a vs) : SqL K (hid S H) a vs := by
  rcases q with (q | ⟨o, q⟩) | q
  · exact .inl (.inl (by rw [hid_at fun hb => (h a hb _ q).1 _ rfl]; exact q))
  · exact .inl (.inr ⟨o, by rw [hid_at fun hb => (h a hb _ q).2.2.1 _ _ rfl]; exact q⟩)
  · exact .inr q
mutual
theorem Dp.hidF (h : NoD S H) : ∀ (d : PyData) {v : V}, Dp K H v d → Dp K (hid S H) v d
  | .none, _, q => by cases q; exact .non
  | .bool b, _, q => by cases q; exact .bl b
  | .int i, _, q => by cases q; exact .int i
  | .str x, _, q => by cases q; exact .str x
  | .list ds, _, q => by
    cases q with
    | lst hs ha => exact .lst (sql_noD h hs) (DpAll.hidF h ds ha)
  | .tuple ds, _, q => by
    cases q with
    | tup hs ha => exact .tup (sqt_noD h hs) (DpAll.hidF h ds ha)
  | .dict _, _, q => by cases q
theorem DpAll.hidF (h : NoD S H) : ∀ (ds : List PyData) {vs : List V}, DpAll K H vs ds → DpAll K (hid S H) vs ds
  | [], _, q => by cases q; exact .nil
  | d :: ds, _, q => by
    cases q with
    | cons h1 h2 => exact .cons (Dp.hidF h d h1) (DpAll.hidF h ds h2)
end
end
section
variable {nm : Nat → Nat → Str} {Ps S : List Addr} {H H' : Hp}
/-- the tables are no data -/
theorem Tbs.noD (t : Tbs nm Ps H) : NoD Ps H := fun b hb o e => by
  obtain ⟨ps, z⟩ := TabN.isT (t b hb)
  rw [z] at e
  cases e
  exact ⟨fun xs z => (nomatch z), fun xs z => (nomatch z), fun u xs z => (nomatch z), fun u xs z => (nomatch z)⟩
theorem kp_one {P : Addr} (hP : P ∈ Ps) (k : Kp [P] H H') : Kp Ps H H' := k.sub fun b hb => by rw [List.mem_singleton.mp hb]; exact hP
end
/-! ### made functions, for those who get them -/
section
open LamX NdefX
/-- the promise, the function's cells out of sight -/
def spC (as : List Addr) (sp : Sp) : List V → Hp → VK → Prop := fun vs H Q => (∀ b ∈ as, ∃ o, H b = some (frC b o)) → sp vs (hid as H) (fun v H' => (∀ b ∈ as, H' b = none) → Q v (rz as H H')) L2.E0
theorem FV.weak {P : Program} {w : World} {K : PySem.W.Frag} {mg : Str → Option Value} {base : Heap} {k : Nat} {f : Addr} {G : Hp → Prop} {sp sp' : List V → Hp → VK → Prop} (F : FV P w K mg base k f G sp) (h : ∀ vs H Q, G H → sp' vs H Q → sp vs H Q) : FV P w K mg base k f G sp' :=
  ⟨F.fn, F.st, fun A outer s H us vs Q hr e0 g r q => F.run A outer s H us vs Q hr e0 g r (h vs H Q g q)⟩
variable {X : Cx} {σ : L2.St} {O : Addr → Obj} {H : Hp} {f c : Addr} {name q : Str} {params : Arguments} {scope : Scope} {N ps fr : List Str} {js : List Nat} {k : Nat} {sp : List (Option V) → Sp}
theorem lam_made {body : Expr} (ow : OwnC X σ O H) (hf : H f = some (FnE f ⟨name, q, params, [], scope, cloFrom X.env.cells scope.names [], c⟩ body)) (hc : H c = some (CodeO c q)) (js : List Nat) (hb : ndefB X.env.scope scope fr = true) (hjs : js.map (fun j => X.N[j]?) = fr.map some) (S : NScope N ps fr scope)
    (hbind : ∀ (cl : List (Str × Addr)) (pm ctv : Value) (us : List Value), us.length = ps.length → bindArgs (PySem.W.kla_fn name q params body scope cl pm (.ref c) ctv) ⟨us, []⟩ = pure (ps.zip us)) (len : ∀ ws vs H Q E, sp ws vs H Q E → vs.length = ps.length)
    (hbody : ∀ (cl : List (Str × Addr)) (A : Around) (outer : List Env) (s : Shared) (H : Hp) (vs : List V) (ws : List (Option V)) (Q : VK), Room k (A.deeper (envF ⟨name, q, params, [], scope, cl, c⟩ f s.heap.objs.size)) → ws.length = fr.length → sp ws vs H Q L2.E0 →
      ∃ t, PE (ncx L2.CX0 X.prog X.w X.K X.mg X.base N ⟨name, q, params, [], scope, cl, c⟩ f A outer s H L2.E0) body t ∧ t (startF N vs ws) H Q) :
    ∃ (G : Hp → Prop) (as : List Addr), FV X.prog X.w X.K X.mg X.base (k + 1) f G (spC as (sp (js.map (slotAt σ)))) ∧ G (fz (ca X) O H) := by
  have F := FV.of_lam (P := X.prog) (w := X.w) (K := X.K) (mg := X.mg) (base := X.base) (f := f) (F := ⟨name, q, params, [], scope, cloFrom X.env.cells scope.names [], c⟩) (body := body) (ws := js.map (slotAt σ)) (sp := sp) S (hbind _) len fun A outer s H vs Q hr hl h => hbody _ A outer s H vs _ Q hr hl h
  exact ⟨_, _, F.weak fun vs H' Q g h => h fun b hb => let ⟨u, e, _⟩ := g.cel b hb; ⟨u, e⟩, clo_made ow hf hc hb hjs⟩
theorem ndf_made {body : List Stmt} (ow : OwnC X σ O H) (hf : H f = some (FnO f ⟨name, q, params, body, scope, cloFrom X.env.cells scope.names [], c⟩)) (hc : H c = some (CodeO c q)) (js : List Nat) (hb : ndefB X.env.scope scope fr = true) (hjs : js.map (fun j => X.N[j]?) = fr.map some)
    (Nk : ∀ cl, NOk X.prog X.w X.K X.mg X.base L2.CX0 k f ⟨name, q, params, body, scope, cl, c⟩ ps fr sp) :
    ∃ (G : Hp → Prop) (as : List Addr), FV X.prog X.w X.K X.mg X.base k f G (spC as (sp (js.map (slotAt σ)))) ∧ G (fz (ca X) O H) := by
  have F := FV.of_nok (ws := js.map (slotAt σ)) (Nk (cloFrom X.env.cells scope.names []))
  exact ⟨_, _, F.weak fun vs H' Q g h => h fun b hb => let ⟨u, e, _⟩ := g.cel b hb; ⟨u, e⟩, clo_made ow hf hc hb hjs⟩
end
theorem Tbs.kpX {nm : Nat → Nat → Str} {Ps : List Addr} {P : Addr} {H H' : Hp} (t : Tbs nm Ps H) (hP : P ∈ Ps) (k : Kp [P] H H') {b : Addr} {o : HO} (e : H b = some o) (x : isX o) : H' b = some o := by
  obtain ⟨ps, z⟩ := TabN.isT (t P hP)
  refine k b o (fun m => ?_) e
  rw [List.mem_singleton.mp m, z] at e
  cases e
  exact x
/-- the data that stands while a table grows -/
theorem Tbs.kpD {nm : Nat → Nat → Str} {Ps : List Addr} {P : Addr} {H H' : Hp} (t : Tbs nm Ps H) (hP : P ∈ Ps) (k : Kp [P] H H') {b : Addr} {o : HO} (e : H b = some o) (x : ∀ ps, o ≠ .tbl ps) : H' b = some o := by
  obtain ⟨ps, z⟩ := TabN.isT (t P hP)
  refine k b o (fun m => ?_) e
  rw [List.mem_singleton.mp m, z] at e
  cases e
  exact absurd rfl (x ps)
/-- out of the callee's heap, the cells left behind -/
theorem fz_out {as : List Addr} {O : Addr → Obj} {H H' : Hp} (n : ∀ c ∈ as, H c = none) (e : Ex (fz as O H) H') : Ex H (hid as H') := fun b o z => by
  have nb : b ∉ as := fun m => by rw [n b m] at z; cases z
  rw [hid_at nb]
  exact e b o (by rw [fz_at nb]; exact z)
section
open LamX NdefX
/-- what stands but for the cells -/
def StE (H H' : Hp) : Prop := ∀ b φ, H b = some (.ext φ) → H' b = some (.ext φ)
theorem StE.hid {S : List Addr} {H : Hp} (W : ∀ b ∈ S, ∃ o, H b = some (frC b o)) : StE H (hid S H) := fun b φ e => by
  rw [hid_at fun m => by obtain ⟨o, z⟩ := W b m; rw [z] at e; cases e]
  exact e
theorem StE.of_ex {H H' : Hp} (e : Ex H H') : StE H H' := fun b φ z => e b _ z
theorem StE.trans {H H1 H2 : Hp} (a : StE H H1) (b : StE H1 H2) : StE H H2 := fun x φ z => b x φ (a x φ z)
/-- a lambda that captured nothing -/
theorem lam_free {P : Program} {w : World} {K : PySem.W.Frag} {mg : Str → Option Value} {base : Heap} {f c : Addr} {name q : Str} {params : Arguments} {scope : Scope} {N ps : List Str} {k : Nat} {sp : Sp} {body : Expr} {H : Hp} {cl : List (Str × Addr)} (hf : H f = some (FnE f ⟨name, q, params, [], scope, cl, c⟩ body)) (hc : H c = some (CodeO c q)) (hcl : cl = [])
    (S : NScope N ps [] scope) (hbind : ∀ (pm ctv : Value) (us : List Value), us.length = ps.length → bindArgs (PySem.W.kla_fn name q params body scope [] pm (.ref c) ctv) ⟨us, []⟩ = pure (ps.zip us)) (len : ∀ vs H Q E, sp vs H Q E → vs.length = ps.length)
    (hbody : ∀ (A : Around) (outer : List Env) (s : Shared) (H : Hp) (vs : List V) (Q : VK), Room k (A.deeper (envF ⟨name, q, params, [], scope, [], c⟩ f s.heap.objs.size)) → sp vs H Q L2.E0 →
      ∃ t, PE (ncx L2.CX0 P w K mg base N ⟨name, q, params, [], scope, [], c⟩ f A outer s H L2.E0) body t ∧ t (startF N vs []) H Q) :
    ∃ G : Hp → Prop, FV P w K mg base (k + 1) f G (fun vs H Q => sp vs H Q L2.E0) ∧ G H ∧ ∀ H H', StE H H' → G H → G H' := by
  subst hcl
  have F := FV.of_lam (P := P) (w := w) (K := K) (mg := mg) (base := base) (f := f) (F := ⟨name, q, params, [], scope, [], c⟩) (body := body) (fr := []) (ws := []) (sp := fun _ => sp) S hbind (fun _ => len) fun A outer s H vs Q hr _ h => hbody A outer s H vs Q hr h
  have all : ∀ H, H f = some (FnE f ⟨name, q, params, [], scope, [], c⟩ body) ∧ H c = some (CodeO c q) → Clo H f (FnE f ⟨name, q, params, [], scope, [], c⟩ body) c q [] [] [] := fun H h =>
    ⟨h.1, h.2, (fun a ha => nomatch ha), (fun x y a e => nomatch e), rfl, fun i y e => by rw [List.getElem?_nil] at e; cases e⟩
  refine ⟨fun H => H f = some (FnE f ⟨name, q, params, [], scope, [], c⟩ body) ∧ H c = some (CodeO c q), ⟨fun H h ok g => F.fn H h ok (all H g), fun H H' st g => ⟨st _ _ g.1 True.intro, st _ _ g.2 True.intro⟩, fun A outer s H us vs Q hr e0 g r q => F.run A outer s H us vs Q hr e0 (all H g) r ?_⟩, ⟨hf, hc⟩, fun H H' st g => ⟨st _ _ g.1, st _ _ g.2⟩⟩
  show sp vs (hid [] H) (fun v H' => (∀ b ∈ ([] : List Addr), H' b = none) → Q v (rz [] H H')) L2.E0
  have e1 : (fun (v : V) (H' : Hp) => (∀ b ∈ ([] : List Addr), H' b = none) → Q v (rz [] H H')) = Q := by
    funext v H'
    have e2 : rz [] H H' = H' := by
      funext b
      exact rz_at (by simp)
    rw [e2]
    exact propext ⟨fun h => h fun b hb => (nomatch hb), fun h _ => h⟩
  rw [hid_nil, e1]
  exact q
end
theorem Tbs.hidC {nm : Nat → Nat → Str} {Ps as : List Addr} {H : Hp} (t : Tbs nm Ps H) (W : ∀ b ∈ as, ∃ o, H b = some (frC b o)) : Tbs nm Ps (hid as H) := fun P hP => by
  obtain ⟨ps, e, h1, h2⟩ := t P hP
  refine ⟨ps, by rw [hid_at fun m => by obtain ⟨o, z⟩ := W P m; rw [e] at z; cases z]; exact e, h1, fun pos cv hc => ?_⟩
  obtain ⟨c, e1, e2⟩ := h2 pos cv hc
  exact ⟨c, e1, by rw [hid_at fun m => by obtain ⟨o, z⟩ := W c m; rw [e2] at z; cases z]; exact e2⟩
/-- back from a callee that may make functions -/
theorem out_T {nm : Nat → Nat → Str} {Ps as : List Addr} {O : Addr → Obj} {H H' : Hp} (n : ∀ c ∈ as, H c = none) (t : Tbs nm Ps H) (k : Kp Ps (fz as O H) H') (t' : Tbs nm Ps H') : Kp Ps H (hid as H') ∧ Tbs nm Ps (hid as H') := by
  have np : ∀ b ∈ as, b ∉ Ps := fun b hb hP => by
    obtain ⟨ps, z⟩ := TabN.isT (t b hP)
    rw [n b hb] at z; cases z
  refine ⟨fun b o hb e => ?_, t'.hidC fun b hb => ⟨O b, k b _ (np b hb) (fz_in hb)⟩⟩
  have nb : b ∉ as := fun m => by rw [n b m] at e; cases e
  rw [hid_at nb]
  exact k b o hb (by rw [fz_at nb]; exact e)
theorem rd_neB {K : PySem.W.Frag} {x y : Bool} {H : Hp} {Q : VK} (h : Q (.bl (x != y)) H) : oNe K (.bl x) (.bl y) H Q := .inl ⟨rfl, by
  have e : (!decide (V.bl x = V.bl y)) = (x != y) := by cases x <;> cases y <;> rfl
  rw [e]; exact h⟩
theorem rd_eqB {K : PySem.W.Frag} {x y : Bool} {H : Hp} {Q : VK} (h : Q (.bl (x == y)) H) : oEq K (.bl x) (.bl y) H Q := .inl ⟨rfl, by
  have e : decide (V.bl x = V.bl y) = (x == y) := by cases x <;> cases y <;> rfl
  rw [e]; exact h⟩
/-! ### tuples that are known to the object: their methods -/
/-- a tuple with no dict of its own -/
def TupF (H : Hp) (p : Addr) (xs : List V) : Prop := ∃ o : Obj, H p = some (.frz o (.tup xs)) ∧ o.cls = .type "tuple" ∧ o.dict = none
theorem TupF.sq {K : PySem.W.Frag} {H : Hp} {p : Addr} {xs : List V} (h : TupF H p xs) : SqT K H p xs := let ⟨o, e, _⟩ := h; .inl (.inr ⟨o, e⟩)
theorem TupF.ex {H H' : Hp} {p : Addr} {xs : List V} (h : TupF H p xs) (e : Ex H H') : TupF H' p xs := let ⟨o, z, r⟩ := h; ⟨o, e _ _ z, r⟩
/-- tuple(a list): the new tuple, known to the object -/
def cTupF (K : PySem.W.Frag) : List V → Hp → VK → Prop := fun xs H Q => ∃ p ys, xs = [.ref p] ∧ SqL K H p ys ∧ ∀ l o, H l = none → o.cls = .type "tuple" → o.dict = none → Q (.ref l) (upd H l (.frz o (.tup ys)))
theorem call_tupF {X : Cx} : CallR X (.type "tuple") (cTupF X.K) := by
  intro pins s σ H xs us Q I r h
  obtain ⟨p, ys, rfl, hq, q⟩ := h
  obtain ⟨u, rfl, ru⟩ := vals1 r
  cases (show u = Value.ref p from ru)
  obtain ⟨its, rv, pl, hz⟩ := I.list hq
  have len := rv.length
  refine call_tuple_list pl.isList (fun h' kp => ?_) (by rw [List.size_toArray]; omega)
  have J : Inv X pins σ H { s with heap := h' } := I.kept (t' := s.toks) kp
  have got : (h'.push { cls := .type "tuple", data := .seq its.toArray }).get? h'.objs.size = some { cls := .type "tuple", data := .seq its.toArray } := Heap.get?_push_size _ rfl
  refine ⟨.ref h'.objs.size, _, J.laid (t' := s.toks) (o := .frz { cls := .type "tuple", data := .seq its.toArray } (.tup ys)) (fun b o e => Heap.get?_push_of_some _ e) (Nat.le_refl _) ⟨got, hz, its, rv, IsTup.new _ _⟩, rfl, q _ _ (J.hok.fresh (Nat.le_refl _)) rfl rfl⟩
/-- o.m(..), o a tuple that is known to the object -/
def tBMF (r : V → List V → Hp → VK → Prop) (to : TE) (t : TA) : TE := fun σ H Q => to σ H fun x H1 => (∃ p xs, x = .ref p ∧ TupF H1 p xs) ∧ t σ H1 fun vs H2 => r x vs H2 Q
theorem pe_bmF {X : Cx} {o e : Expr} {es : List Expr} {name : Str} {id : String} {r : V → List V → Hp → VK → Prop} {to : TE} {t : TA} {apos cpos : Pos} (pa : PlainAttrs "tuple") (slot : Slot "tuple" name id) (hty : typeOf (.builtin id) = pure (.type "method_descriptor")) (hm : MtR X id r) (ho : PE X o to) (ha : PA X (e :: es) t)
    (hbase : attributeBase o name X.env (eval o X.env) = eval o X.env := by rfl)
    (hfew : ((backTo cpos (starEach (e :: es) X.env)).all (fun x => !x.1) && (backToKw cpos (keywordEach [] X.env)).all (fun x => x.1.isSome) && decide ((e :: es).length + ([] : List Keyword).length + (if ([] : List Keyword).isEmpty then 0 else 1) < 30)) = true := by rfl)
    (hline : (apos.endLine == cpos.line) = true := by rfl) (hs : starEach (e :: es) X.env = (false, eval e X.env) :: starEach es X.env := by rfl) (hpl : (backTo cpos (starEach es X.env)).any (·.1) = false := by rfl) :
    PE X (.Call (.Attribute o name apos) (e :: es) [] cpos) (tBMF r to t) := by
  constructor
  intro pins s σ H Q I h
  refine wpAny_Call_method_late hbase hfew hline rfl (thn (ho.run pins s σ H _ I h) fun v s1 z => ?_)
  obtain ⟨x, H1, I1, r1, ⟨p, xs, rfl, u, hp, hc, hd⟩, q1⟩ := z
  have hv : v = Value.ref p := r1
  obtain ⟨got, _⟩ := I1.hok p _ hp
  refine ⟨"tuple", id, pa, slot, hty, by rw [hv]; exact ⟨u, got, hc⟩, fun a e => ?_, ?_⟩
  · rw [hv] at e
    cases e
    exact ⟨u, got, hd⟩
  have hA := ha.run cpos pins s1 σ H1 _ I1 q1
  rw [hs] at hA ⊢
  refine Calls.callWith_builtin (by show (false || (backTo cpos (starEach es X.env)).any (·.1)) = false; rw [hpl]; rfl) (Calls.evalArgs_plain ?_)
  exact thn hA fun us s2 z => by
    obtain ⟨vs, H2, I2, r2, q2⟩ := z
    exact hm pins s2 σ H2 _ vs v us Q I2 r1 r2 q2
section
variable {X : Cx} (K : PySem.W.Frag) (hK : X.K = K := by rfl)
include hK
theorem kTupF : CallR X (.type "tuple") (cTupF K) := hK ▸ call_tupF
end
theorem rd_bmF {r : V → List V → Hp → VK → Prop} {to : TE} {t : TA} {σ : L2.St} {H : Hp} {Q : VK} (h : to σ H fun x H1 => (∃ p xs, x = .ref p ∧ TupF H1 p xs) ∧ t σ H1 fun vs H2 => r x vs H2 Q) : tBMF r to t σ H Q := h
end AT

set_option Elab.async false
set_option linter.all false
set_option maxRecDepth 100000
set_option maxHeartbeats 4000000
local macro_rules | `(tactic| walk_at "rd1") => `(tactic| with_reducible first
  | refine AT.rd_seq ?_ | refine AT.rd_is ?_ | refine AT.rd_asg ?_ | refine AT.rd_name ?_ | refine AT.rd_var (by with_unfolding_all rfl) ?_ | refine AT.rd_c ?_ | refine AT.rd_op ?_ | refine AT.rd_ret ?_ | refine AT.rd_retN ?_ | refine AT.rd_if ?_ | refine AT.rd_ife ?_ | refine AT.rd_next ?_ | refine AT.rd_drop ?_
  | refine AT.rd_test ?_ | refine AT.rd_tB ?_ | refine AT.rd_bl ?_ | refine AT.rd_not ?_ | refine AT.rd_and ?_ | refine AT.rd_or ?_ | refine AT.rd_nil ?_ | refine AT.rd_cons ?_ | refine AT.rd_lst ?_ | refine AT.rd_tup ?_ | refine AT.rd_cb ?_ | refine AT.rd_chain ?_
  | refine AT.rd_called ?_ | refine AT.rd_calledR ?_ | refine AT.rd_raised ?_ | refine AT.rd_iteT ?_ | refine AT.rd_iteF ?_ | refine AT.rd_iteNF ?_ | refine AT.rd_iteNT ?_ | refine AT.rd_addI ?_ | refine AT.rd_subI ?_ | refine AT.rd_lt ?_ | refine AT.rd_le ?_ | refine AT.rd_gt ?_ | refine AT.rd_ge ?_ | refine AT.rd_eqI ?_ | refine AT.rd_neI ?_ | refine AT.rd_eqS ?_ | refine AT.rd_neS ?_
  | refine AT.rd_int ?_ | refine AT.rd_abs ?_ | refine AT.rd_inS ?_ | refine AT.rd_niS ?_ | refine AT.rd_rng1 ?_ | refine AT.rd_rng2 ?_ | refine AT.rd_bm ?_ | refine AT.rd_fld ?_ | refine AT.rd_sfld ?_ | refine AT.rd_makeR ?_ | refine AT.rd_methR ?_ | refine AT.rd_meth ?_ | refine AT.rd_notV ?_ | refine AT.rd_xf ?_ | refine AT.rd_andV ?_ | refine AT.rd_orV ?_ | refine AT.rd_sl ?_ | refine AT.rd_noPart ?_ | refine AT.rd_part ?_ | refine AT.rd_intv ?_ | refine AT.rd_raised1 ?_ | refine AT.rd_gsub ?_ | refine AT.rd_gN ?_ | refine AT.rd_par3 ?_ | refine AT.rd_dget ?_ | refine AT.rd_din ?_ | refine AT.rd_dnin ?_ | refine AT.rd_dput ?_ | refine AT.rd_disp1T ?_ | refine AT.rd_dnK ?_ | refine AT.rd_dnT ?_ | refine AT.rd_v3 ?_ | refine AT.rd_gE ?_ | refine AT.rd_for ?_ | refine AT.rd_lc ?_ | refine AT.rd_lenL (by assumption) ?_ | refine AT.rd_lenT (by assumption) ?_)
local macro_rules | `(tactic| walk_at "rd") => `(tactic| (repeat walk_at "rd1"))
local macro_rules | `(tactic| walk_at "rc1") => `(tactic| with_reducible first
  | refine AT.rd_seqA ?_ | refine AT.rd_is ?_ | refine AT.rd_seqD ?_ | refine AT.rd_asg ?_ | refine AT.rd_name ?_ | refine AT.rd_var (by with_unfolding_all rfl) ?_ | refine AT.rd_c ?_ | refine AT.rd_op ?_ | refine AT.rd_ret ?_ | refine AT.rd_retN ?_ | refine AT.rd_if ?_ | refine AT.rd_next ?_ | refine AT.rd_drop ?_
  | refine AT.rd_test ?_ | refine AT.rd_tB ?_ | refine AT.rd_bl ?_ | refine AT.rd_not ?_ | refine AT.rd_and ?_ | refine AT.rd_or ?_ | refine AT.rd_nil ?_ | refine AT.rd_cons ?_ | refine AT.rd_lst ?_ | refine AT.rd_tup ?_ | refine AT.rd_cb ?_ | refine AT.rd_chain ?_
  | refine AT.rd_called ?_ | refine AT.rd_calledR ?_ | refine AT.rd_raised ?_ | refine AT.rd_iteT ?_ | refine AT.rd_iteF ?_ | refine AT.rd_iteNF ?_ | refine AT.rd_iteNT ?_ | refine AT.rd_addI ?_ | refine AT.rd_subI ?_ | refine AT.rd_lt ?_ | refine AT.rd_le ?_ | refine AT.rd_gt ?_ | refine AT.rd_ge ?_ | refine AT.rd_eqI ?_ | refine AT.rd_neI ?_ | refine AT.rd_eqS ?_ | refine AT.rd_neS ?_
  | refine AT.rd_int ?_ | refine AT.rd_abs ?_ | refine AT.rd_inS ?_ | refine AT.rd_niS ?_ | refine AT.rd_rng1 ?_ | refine AT.rd_rng2 ?_ | refine AT.rd_bm ?_ | refine AT.rd_fld ?_ | refine AT.rd_sfld ?_ | refine AT.rd_makeR ?_ | refine AT.rd_methR ?_ | refine AT.rd_meth ?_ | refine AT.rd_notV ?_ | refine AT.rd_xf ?_ | refine AT.rd_sl ?_ | refine AT.rd_noPart ?_ | refine AT.rd_part ?_ | refine AT.rd_intv ?_ | refine AT.rd_raised1 ?_ | refine AT.rd_gsub ?_ | refine AT.rd_gN ?_ | refine AT.rd_par3 ?_ | refine AT.rd_dget ?_ | refine AT.rd_din ?_ | refine AT.rd_dnin ?_ | refine AT.rd_dput ?_ | refine AT.rd_disp1T ?_ | refine AT.rd_dnK ?_ | refine AT.rd_dnT ?_ | refine AT.rd_v3 ?_ | refine AT.rd_gE ?_ | refine AT.rd_for ?_ | refine AT.rd_lc ?_ | refine AT.rd_lenL (by assumption) ?_ | refine AT.rd_lenT (by assumption) ?_)
local macro_rules | `(tactic| walk_at "rc") => `(tactic| ((repeat walk_at "rc1"); (try with_reducible refine AT.rd_idS ?_)))
local macro_rules | `(tactic| walk_at "rs") => `(tactic| with_reducible refine AT.rd_seq ?_)

namespace AT
open PySem L2
def top (i : Nat) : Stmt := PySem.Challenge.pw_anytext_k13_least_texts.main.body.getD i (.Pass ⟨0, 0, 0, 0⟩)
abbrev s__wall : Stmt := top 0
theorem sc__wall : FnScope ["k"] ["k"] (defScope s__wall) := ⟨rfl, rfl, rfl, by decide +kernel, rfl, by decide +kernel, by decide +kernel⟩
abbrev s_least_way : Stmt := top 8
theorem sc_least_way : FnScope ["letters", "start", "step", "accepts", "known", "keys", "origins", "number", "index", "letter", "key"] ["letters", "start", "step", "accepts"] (defScope s_least_way) := ⟨rfl, rfl, rfl, by decide +kernel, rfl, by decide +kernel, by decide +kernel⟩
abbrev s__text_to : Stmt := top 9
theorem sc__text_to : FnScope ["origins", "number", "found", "letter"] ["origins", "number"] (defScope s__text_to) := ⟨rfl, rfl, rfl, by decide +kernel, rfl, by decide +kernel, by decide +kernel⟩
abbrev s_first_text : Stmt := top 11
theorem sc_first_text : FnScope ["machine"] ["machine"] (defScope s_first_text) := ⟨rfl, rfl, rfl, by decide +kernel, rfl, by decide +kernel, by decide +kernel⟩
abbrev s_is_empty : Stmt := top 12
theorem sc_is_empty : FnScope ["machine"] ["machine"] (defScope s_is_empty) := ⟨rfl, rfl, rfl, by decide +kernel, rfl, by decide +kernel, by decide +kernel⟩
abbrev s_outside : Stmt := top 13
theorem sc_outside : FnScope ["first", "second"] ["first", "second"] (defScope s_outside) := ⟨rfl, rfl, rfl, by decide +kernel, rfl, by decide +kernel, by decide +kernel⟩
abbrev s_parting : Stmt := top 14
theorem sc_parting : FnScope ["first", "second"] ["first", "second"] (defScope s_parting) := ⟨rfl, rfl, rfl, by decide +kernel, rfl, by decide +kernel, by decide +kernel⟩
abbrev s__first_of_two : Stmt := top 15
theorem sc__first_of_two : FnScope ["first", "second", "chosen", "step", "accepts"] ["first", "second", "chosen"] (defScope s__first_of_two) := ⟨rfl, rfl, rfl, by decide +kernel, rfl, by decide +kernel, by decide +kernel⟩
abbrev s_cell : Stmt := top 17
theorem sc_cell : FnScope ["script", "k"] ["script", "k"] (defScope s_cell) := ⟨rfl, rfl, rfl, by decide +kernel, rfl, by decide +kernel, by decide +kernel⟩
abbrev s_numbers : Stmt := top 18
theorem sc_numbers : FnScope ["cell", "many", "rest", "whole", "numbers", "k", "mixed"] ["cell", "many"] (defScope s_numbers) := ⟨rfl, rfl, rfl, by decide +kernel, rfl, by decide +kernel, by decide +kernel⟩
abbrev s_state : Stmt := top 19
theorem sc_state : FnScope ["script", "start", "many", "numbers", "k", "cell"] ["script", "start", "many"] (defScope s_state) := ⟨rfl, rfl, rfl, by decide +kernel, rfl, by decide +kernel, by decide +kernel⟩
abbrev s_next : Stmt := top 20
theorem sc_next : FnScope ["state", "many", "numbers", "place"] ["state", "many"] (defScope s_next) := ⟨rfl, rfl, rfl, by decide +kernel, rfl, by decide +kernel, by decide +kernel⟩
abbrev s_letters : Stmt := top 21
theorem sc_letters : FnScope ["state", "most", "pool", "letters", "k", "letter"] ["state", "most"] (defScope s_letters) := ⟨rfl, rfl, rfl, by decide +kernel, rfl, by decide +kernel, by decide +kernel⟩
abbrev s_texts : Stmt := top 22
theorem sc_texts : FnScope ["letters", "most", "last", "rows", "k", "longer", "text", "letter"] ["letters", "most"] (defScope s_texts) := ⟨rfl, rfl, rfl, by decide +kernel, rfl, by decide +kernel, by decide +kernel⟩
abbrev s_parts : Stmt := top 23
theorem sc_parts : FnScope ["letters", "state", "most", "many", "accepting", "k", "table", "letter"] ["letters", "state", "most"] (defScope s_parts) := ⟨rfl, rfl, rfl, by decide +kernel, rfl, by decide +kernel, by decide +kernel⟩
abbrev s_accepts : Stmt := top 24
theorem sc_accepts : FnScope ["letters", "accepting", "table", "text", "at", "letter"] ["letters", "accepting", "table", "text"] (defScope s_accepts) := ⟨rfl, rfl, rfl, by decide +kernel, rfl, by decide +kernel, by decide +kernel⟩
abbrev s_ring : Stmt := top 25
theorem sc_ring : FnScope ["letters", "many", "wanted", "accepting", "k", "letter"] ["letters", "many", "wanted"] (defScope s_ring) := ⟨rfl, rfl, rfl, by decide +kernel, rfl, by decide +kernel, by decide +kernel⟩
abbrev s_law : Stmt := top 26
theorem sc_law : FnScope ["script", "state", "letters", "one", "two", "first", "second", "due", "text", "in_one", "in_two", "many", "ring", "sizes", "rests", "size", "rings", "k", "lengths", "apart", "alone", "told", "row"] ["script"] (defScope s_law) := ⟨rfl, rfl, rfl, by decide +kernel, rfl, by decide +kernel, by decide +kernel⟩
abbrev s_init : Stmt := inClass (top 2) 0
theorem sc_init : FnScope ["self", "what"] ["self", "what"] (defScope s_init) := ⟨rfl, rfl, rfl, by decide +kernel, rfl, by decide +kernel, by decide +kernel⟩
abbrev s_Machine_init : Stmt := inClass (top 6) 0
theorem sc_Machine_init : FnScope ["self", "letters", "accepting", "table", "row"] ["self", "letters", "accepting", "table"] (defScope s_Machine_init) := ⟨rfl, rfl, rfl, by decide +kernel, rfl, by decide +kernel, by decide +kernel⟩
abbrev s_Machine_check : Stmt := inClass (top 6) 1
theorem sc_Machine_check : FnScope ["self", "states", "row"] ["self"] (defScope s_Machine_check) := ⟨rfl, rfl, rfl, by decide +kernel, rfl, by decide +kernel, by decide +kernel⟩
abbrev s_Machine_run : Stmt := inClass (top 6) 2
theorem sc_Machine_run : FnScope ["self", "text"] ["self", "text"] (defScope s_Machine_run) := ⟨rfl, rfl, rfl, by decide +kernel, rfl, by decide +kernel, by decide +kernel⟩
abbrev s_Machine_run_from : Stmt := inClass (top 6) 3
theorem sc_Machine_run_from : FnScope ["self", "state", "text", "letter"] ["self", "state", "text"] (defScope s_Machine_run_from) := ⟨rfl, rfl, rfl, by decide +kernel, rfl, by decide +kernel, by decide +kernel⟩
abbrev s_Machine_accepts : Stmt := inClass (top 6) 4
theorem sc_Machine_accepts : FnScope ["self", "text"] ["self", "text"] (defScope s_Machine_accepts) := ⟨rfl, rfl, rfl, by decide +kernel, rfl, by decide +kernel, by decide +kernel⟩
abbrev s_Machine_picture : Stmt := inClass (top 6) 5
theorem sc_Machine_picture : FnScope ["self"] ["self"] (defScope s_Machine_picture) := ⟨rfl, rfl, rfl, by decide +kernel, rfl, by decide +kernel, by decide +kernel⟩
abbrev s__first_of_two_step : Stmt := inBody s__first_of_two 0
theorem sc__first_of_two_step : NdefX.NScope ["pair", "index", "first", "second"] ["pair", "index"] ["first", "second"] (C8.fnScope s__first_of_two_step) := NdefX.nscope_by (by decide +kernel)
abbrev s__first_of_two_accepts : Stmt := inBody s__first_of_two 1
theorem sc__first_of_two_accepts : NdefX.NScope ["pair", "chosen", "first", "second"] ["pair"] ["chosen", "first", "second"] (C8.fnScope s__first_of_two_accepts) := NdefX.nscope_by (by decide +kernel)
/-- which name the code object made at a place has -/
def nmT (l c : Nat) : Str := if l = 68 ∧ c = 41 then "first_text.<locals>.<lambda>" else if l = 68 ∧ c = 91 then "first_text.<locals>.<lambda>" else if l = 72 ∧ c = 40 then "outside.<locals>.<lambda>" else if l = 74 ∧ c = 40 then "parting.<locals>.<lambda>" else if l = 77 ∧ c = 4 then "_first_of_two.<locals>.step" else if l = 80 ∧ c = 4 then "_first_of_two.<locals>.accepts" else ""
structure Txt (K : PySem.W.Frag) (mg : Str → Option Value) where
  a__wall : Addr
  d__wall : FuncData
  f__wall : Fun K "_wall" "_wall" s__wall a__wall d__wall
  o__wall : Own K mg "_wall" a__wall d__wall ["k"]
  a_least_way : Addr
  d_least_way : FuncData
  f_least_way : Fun K "least_way" "least_way" s_least_way a_least_way d_least_way
  o_least_way : Own K mg "least_way" a_least_way d_least_way ["letters", "start", "step", "accepts"]
  a__text_to : Addr
  d__text_to : FuncData
  f__text_to : Fun K "_text_to" "_text_to" s__text_to a__text_to d__text_to
  o__text_to : Own K mg "_text_to" a__text_to d__text_to ["origins", "number"]
  a_first_text : Addr
  d_first_text : FuncData
  f_first_text : Fun K "first_text" "first_text" s_first_text a_first_text d_first_text
  o_first_text : Own K mg "first_text" a_first_text d_first_text ["machine"]
  a_is_empty : Addr
  d_is_empty : FuncData
  f_is_empty : Fun K "is_empty" "is_empty" s_is_empty a_is_empty d_is_empty
  o_is_empty : Own K mg "is_empty" a_is_empty d_is_empty ["machine"]
  a_outside : Addr
  d_outside : FuncData
  f_outside : Fun K "outside" "outside" s_outside a_outside d_outside
  o_outside : Own K mg "outside" a_outside d_outside ["first", "second"]
  a_parting : Addr
  d_parting : FuncData
  f_parting : Fun K "parting" "parting" s_parting a_parting d_parting
  o_parting : Own K mg "parting" a_parting d_parting ["first", "second"]
  a__first_of_two : Addr
  d__first_of_two : FuncData
  f__first_of_two : Fun K "_first_of_two" "_first_of_two" s__first_of_two a__first_of_two d__first_of_two
  o__first_of_two : Own K mg "_first_of_two" a__first_of_two d__first_of_two ["first", "second", "chosen"]
  a_cell : Addr
  d_cell : FuncData
  f_cell : Fun K "_law_cell" "_law_cell" s_cell a_cell d_cell
  o_cell : Own K mg "_law_cell" a_cell d_cell ["script", "k"]
  a_numbers : Addr
  d_numbers : FuncData
  f_numbers : Fun K "_law_numbers" "_law_numbers" s_numbers a_numbers d_numbers
  o_numbers : Own K mg "_law_numbers" a_numbers d_numbers ["cell", "many"]
  a_state : Addr
  d_state : FuncData
  f_state : Fun K "_law_state" "_law_state" s_state a_state d_state
  o_state : Own K mg "_law_state" a_state d_state ["script", "start", "many"]
  a_next : Addr
  d_next : FuncData
  f_next : Fun K "_law_next" "_law_next" s_next a_next d_next
  o_next : Own K mg "_law_next" a_next d_next ["state", "many"]
  a_letters : Addr
  d_letters : FuncData
  f_letters : Fun K "_law_letters" "_law_letters" s_letters a_letters d_letters
  o_letters : Own K mg "_law_letters" a_letters d_letters ["state", "most"]
  a_texts : Addr
  d_texts : FuncData
  f_texts : Fun K "_law_texts" "_law_texts" s_texts a_texts d_texts
  o_texts : Own K mg "_law_texts" a_texts d_texts ["letters", "most"]
  a_parts : Addr
  d_parts : FuncData
  f_parts : Fun K "_law_parts" "_law_parts" s_parts a_parts d_parts
  o_parts : Own K mg "_law_parts" a_parts d_parts ["letters", "state", "most"]
  a_accepts : Addr
  d_accepts : FuncData
  f_accepts : Fun K "_law_accepts" "_law_accepts" s_accepts a_accepts d_accepts
  o_accepts : Own K mg "_law_accepts" a_accepts d_accepts ["letters", "accepting", "table", "text"]
  a_ring : Addr
  d_ring : FuncData
  f_ring : Fun K "_law_ring" "_law_ring" s_ring a_ring d_ring
  o_ring : Own K mg "_law_ring" a_ring d_ring ["letters", "many", "wanted"]
  a_law : Addr
  d_law : FuncData
  f_law : Fun K "law" "law" s_law a_law d_law
  o_law : Own K mg "law" a_law d_law ["script"]
  a_init : Addr
  d_init : FuncData
  T_init : Addr
  f_init : FunD K "__init__" "AnytextError.__init__" (defArgs s_init) (defBody s_init) (defScope s_init) [.non] [] a_init d_init
  tI : PySem.W.typeIn K (.ref a_init) = some (.type "function")
  bI : Binds K d_init ["self", "what"] []
  C_AnytextError : Addr
  C_MachineError : Addr
  C_BadMachine : Addr
  g_BadMachine : mg "BadMachine" = some (.ref C_BadMachine)
  x_BadMachine : ErrX K C_BadMachine a_init
  clsB : ClsB K
  C_Machine : Addr
  g_Machine : mg "Machine" = some (.ref C_Machine)
  cl_Machine : Cls K C_Machine
  na_Machine_letters : NoAttr K C_Machine "letters"
  na_Machine_accepting : NoAttr K C_Machine "accepting"
  na_Machine_table : NoAttr K C_Machine "table"
  a_Machine_init : Addr
  d_Machine_init : FuncData
  f_Machine_init : Fun K "__init__" "Machine.__init__" s_Machine_init a_Machine_init d_Machine_init
  b_Machine_init : Binds K d_Machine_init ["self", "letters", "accepting", "table"] []
  mk_Machine : Mk K C_Machine a_Machine_init
  a_Machine_check : Addr
  d_Machine_check : FuncData
  f_Machine_check : Fun K "check" "Machine.check" s_Machine_check a_Machine_check d_Machine_check
  b_Machine_check : Binds K d_Machine_check ["self"] []
  m_Machine_check : Meth K C_Machine "check" a_Machine_check
  a_Machine_run : Addr
  d_Machine_run : FuncData
  f_Machine_run : Fun K "run" "Machine.run" s_Machine_run a_Machine_run d_Machine_run
  b_Machine_run : Binds K d_Machine_run ["self", "text"] []
  m_Machine_run : Meth K C_Machine "run" a_Machine_run
  a_Machine_run_from : Addr
  d_Machine_run_from : FuncData
  f_Machine_run_from : Fun K "run_from" "Machine.run_from" s_Machine_run_from a_Machine_run_from d_Machine_run_from
  b_Machine_run_from : Binds K d_Machine_run_from ["self", "state", "text"] []
  m_Machine_run_from : Meth K C_Machine "run_from" a_Machine_run_from
  a_Machine_accepts : Addr
  d_Machine_accepts : FuncData
  f_Machine_accepts : Fun K "accepts" "Machine.accepts" s_Machine_accepts a_Machine_accepts d_Machine_accepts
  b_Machine_accepts : Binds K d_Machine_accepts ["self", "text"] []
  m_Machine_accepts : Meth K C_Machine "accepts" a_Machine_accepts
  a_Machine_picture : Addr
  d_Machine_picture : FuncData
  f_Machine_picture : Fun K "picture" "Machine.picture" s_Machine_picture a_Machine_picture d_Machine_picture
  b_Machine_picture : Binds K d_Machine_picture ["self"] []
  m_Machine_picture : Meth K C_Machine "picture" a_Machine_picture
  c_first_text : Addr
  P_first_text : Addr
  t_first_text : FunT K "first_text" "first_text" s_first_text a_first_text d_first_text c_first_text
  c_outside : Addr
  P_outside : Addr
  t_outside : FunT K "outside" "outside" s_outside a_outside d_outside c_outside
  c_parting : Addr
  P_parting : Addr
  t_parting : FunT K "parting" "parting" s_parting a_parting d_parting c_parting
  c__first_of_two : Addr
  P__first_of_two : Addr
  t__first_of_two : FunT K "_first_of_two" "_first_of_two" s__first_of_two a__first_of_two d__first_of_two c__first_of_two
  nb_abs : mg "abs" = none
  nb_enumerate : mg "enumerate" = none
  nb_int : mg "int" = none
  nb_len : mg "len" = none
  nb_list : mg "list" = none
  nb_max : mg "max" = none
  nb_min : mg "min" = none
  nb_range : mg "range" = none
  nb_repr : mg "repr" = none
  nb_reversed : mg "reversed" = none
  nb_tuple : mg "tuple" = none
def Ps {K : PySem.W.Frag} {mg : Str → Option Value} (T : Txt K mg) : List Addr := [T.P_first_text, T.P_outside, T.P_parting, T.P__first_of_two]
structure Bs {K : PySem.W.Frag} {mg : Str → Option Value} (T : Txt K mg) (base : Heap) : Prop where
  tb_first_text : LamX.TabB base mg T.c_first_text T.P_first_text
  in_first_text : T.P_first_text ∈ Ps T
  tb_outside : LamX.TabB base mg T.c_outside T.P_outside
  in_outside : T.P_outside ∈ Ps T
  tb_parting : LamX.TabB base mg T.c_parting T.P_parting
  in_parting : T.P_parting ∈ Ps T
  tb__first_of_two : LamX.TabB base mg T.c__first_of_two T.P__first_of_two
  in__first_of_two : T.P__first_of_two ∈ Ps T
section
variable {P : Program} {w : World} {K : PySem.W.Frag} {mg : Str → Option Value} {base : Heap}
/-! ### the helpers that all laws have: cells of the script, numbers, a state, the next drawn number -/
def spCell (K : PySem.W.Frag) : Sp := fun vs H Q _ => ∃ (l : Addr) (ns : List Int) (k : Int), vs = [.ref l, .int k] ∧ SqL K H l (ns.map V.int) ∧ 0 ≤ k ∧ ∀ z, Q (.int z) H
theorem ok_cell (T : Txt K mg) : FnOk P w K mg base CX0 1 T.a_cell T.d_cell ["script", "k"] (spCell K) := by
  refine T.f_cell.ok sc_cell (fun vs H Q E h => ?_) (fun cdv A outer s H vs Q E hr h => ?_)
  · obtain ⟨_, _, _, rfl, _⟩ := h; rfl
  · obtain ⟨l, ns, k, rfl, hs, h0, q⟩ := h
    refine ⟨_, (pss_cons (ps_if (pt_cmpR op_ltP (pv 1) (pe_callB (kLen K) (by rfl) T.nb_len (by decide +kernel) (pa_cons (pv 0) pa_nil)) (by first | rfl | exact nomark _))
    (pss_one (ps_ret (pe_ix (kIx K) (pv 0) (pv 1) (fun _ _ => rfl))))
    pss_nil)
  (pss_one (ps_ret pe_int))), ?_⟩
    walk_at "rd"
    refine rd_iteD (fun h1 => ?_) (fun h1 => ?_)
    · walk_at "rd"
      rw [List.length_map] at h1
      refine rd_ixL (v := .int (ns.getD k.toNat 0)) hs ?_ (q _)
      have e : k = (k.toNat : Int) := (Int.toNat_of_nonneg h0).symm
      rw [e]
      refine atI_nat ?_
      rw [List.getElem?_map, Int.toNat_natCast, List.getD_eq_getElem?_getD, List.getElem?_eq_getElem (show k.toNat < ns.length by omega)]
      rfl
    · walk_at "rd"
      exact q 0
/-- numbers from 0 to 999 -/
def Small (ns : List Int) : Prop := ∀ x ∈ ns, 0 ≤ x ∧ x < 1000
theorem Small.more {ns : List Int} {x : Int} (h : Small ns) (h0 : 0 ≤ x) (h1 : x < 1000) : Small (ns ++ [x]) := fun y hy => by
  rcases List.mem_append.mp hy with hy | hy
  · exact h y hy
  · rw [List.mem_singleton.mp hy]; exact ⟨h0, h1⟩
theorem Small.app {ns ms : List Int} (h : Small ns) (k : Small ms) : Small (ns ++ ms) := fun y hy => (List.mem_append.mp hy).elim (h y) (k y)
theorem fmod_small {a m : Int} (h : 0 < m) : 0 ≤ a.fmod m ∧ a.fmod m < m := by
  rw [Int.fmod_eq_emod_of_nonneg _ (Int.le_of_lt h)]
  exact ⟨Int.emod_nonneg _ (by omega), Int.emod_lt_of_pos _ h⟩
/-- a new list of small numbers -/
def spNumbers : Sp := fun vs H Q _ => ∃ (c m : Int), vs = [.int c, .int m] ∧ 0 ≤ m ∧ m ≤ 1000 ∧ ∀ (p : Addr) (ns : List Int) (H' : Hp), H p = none → Ex H H' → H' p = some (.lst (ns.map V.int)) → (ns.length : Int) = m → Small ns → Q (.ref p) H'
theorem append_int {H' : Hp} {p : Addr} {ns : List Int} {D : VK} {K : PySem.W.Frag} {i : Nat} {x : Int} (hp : H' p = some (.lst (ns.map V.int))) (hi : ns.length = i) (hl : i < 100000) (q : D .non (upd H' p (.lst ((ns ++ [x]).map V.int)))) :
    rAppend (.ref p) [.int x] H' D := ⟨p, ns.map V.int, .int x, rfl, rfl, hp, Nat.lt_of_lt_of_le (by rw [List.length_map, hi]; exact hl) (by decide), by rw [List.map_append] at q; exact q⟩
theorem ok_numbers (T : Txt K mg) : FnOk P w K mg base CX0 1 T.a_numbers T.d_numbers ["cell", "many"] spNumbers := by
  refine T.f_numbers.ok sc_numbers (fun vs H Q E h => ?_) (fun cdv A outer s H vs Q E hr h => ?_)
  · obtain ⟨_, _, rfl, _⟩ := h; rfl
  · obtain ⟨c, m, rfl, h0, h1, q⟩ := h
    refine ⟨_, (pss_cons (ps_set (i := 2) sc_numbers.nd rfl (by first | exact Or.inl rfl | exact Or.inr rfl) (pe_callB call_absP (by rfl) T.nb_abs (by decide +kernel) (pa_cons (pv 0) pa_nil)))
  (pss_cons (ps_set (i := 3) sc_numbers.nd rfl (by first | exact Or.inl rfl | exact Or.inr rfl) (pv 2))
  (pss_cons (ps_set (i := 4) sc_numbers.nd rfl (by first | exact Or.inl rfl | exact Or.inr rfl) (pe_lst pa_nil))
  (pss_cons (ps_for PassesOwn.never rfl (pi_range1 (by rfl) T.nb_range (pa_cons (pv 1) pa_nil)) (pg_name (i := 5) sc_numbers.nd rfl (by first | exact Or.inl rfl | exact Or.inr rfl))
    (pss_one (ps_if (PW.pt (pw_and (pt_cmpR op_geP (pv 3) (pe_op op_powP pe_int pe_int) (by first | rfl | exact nomark _)) (pw_and1 (pt_cmpR op_gtP (pv 2) pe_int (by first | rfl | exact nomark _)))))
    (pss_cons (ps_expr (kBm K rfl (pe_bm PySem.F.plainAttrs_list PySem.F.slot_list_append PySem.F.type_list_append mt_append (pv 4) (pa_cons (pe_op op_modP (pe_callTy call_intP (by rfl) T.nb_int (by decide +kernel) (pa_cons (pv 2) pa_nil)) pe_int) pa_nil))))
  (pss_one (ps_set (i := 2) sc_numbers.nd rfl (by first | exact Or.inl rfl | exact Or.inr rfl) (pe_op op_divP (pv 2) pe_int))))
    (pss_cons (ps_set (i := 6) sc_numbers.nd rfl (by first | exact Or.inl rfl | exact Or.inr rfl) (pe_op op_modP (pe_callTy call_intP (by rfl) T.nb_int (by decide +kernel) (pa_cons (pe_op (kAdd K) (pe_op (kAdd K) (pe_op op_mulPP (pv 3) pe_int) (pe_op op_mulPP (pv 5) pe_int)) pe_int) pa_nil)) pe_int))
  (pss_cons (ps_set (i := 6) sc_numbers.nd rfl (by first | exact Or.inl rfl | exact Or.inr rfl) (pe_op op_modP (pe_callTy call_intP (by rfl) T.nb_int (by decide +kernel) (pa_cons (pe_op (kAdd K) (pe_op (kAdd K) (pe_op op_mulPP (pv 6) (pv 6)) (pe_op op_mulPP pe_int (pv 5))) pe_int) pa_nil)) pe_int))
  (pss_one (ps_expr (kBm K rfl (pe_bm PySem.F.plainAttrs_list PySem.F.slot_list_append PySem.F.type_list_append mt_append (pv 4) (pa_cons (pe_op op_modP (pe_callTy call_intP (by rfl) T.nb_int (by decide +kernel) (pa_cons (pe_op op_divP (pv 6) pe_int) pa_nil)) pe_int) pa_nil))))))))))
  (pss_one (ps_ret (pv 4))))))), ?_⟩
    walk_at "rd"
    refine ⟨by decide, fun p hp => ?_⟩
    walk_at "rd"
    refine ⟨_, rfl, by omega, by omega, fo_range (n := m.toNat) (fun i σ H' => ∃ (r : Int) (ns : List Int) (kk mm : Option V), σ = [some (.int c), some (.int m), some (.int r), some (.int (if c < 0 then -c else c)), some (.ref p), kk, mm] ∧ Ex H H' ∧ H' p = some (.lst (ns.map V.int)) ∧ ns.length = i ∧ Small ns)
      ⟨_, [], none, none, rfl, Evl.Ex.new hp, upd_same, rfl, fun x hx => by cases hx⟩ ?_ ?_⟩
    · rintro i σ H' hi ⟨r, ns, kk, mm, rfl, e, hl, hn, sm⟩
      have tl : tyV K "list" (.ref p) H' := .inl ⟨rfl, _, SqL.of hl⟩
      walk_at "rd"
      refine rd_powI ⟨by decide, by decide, by decide⟩ ?_
      walk_at "rd"
      refine rd_ite (fun h2 => ?_) (fun h2 => ?_)
      · walk_at "rd"
        refine rd_ite (fun h3 => ?_) (fun h3 => ?_)
        · walk_at "rd"
          refine ⟨tl, ?_⟩
          walk_at "rd"
          refine rd_modI (by decide) ?_
          walk_at "rd"
          refine append_int (K := K) hl hn (by omega) ?_
          walk_at "rd"
          refine rd_divI ⟨by decide, by decide⟩ ?_
          walk_at "rd"
          have fm := fmod_small (a := r) (m := 1000) (by decide)
          exact ⟨_, ns ++ [_], _, _, rfl, Evl.Ex.mut e hp, upd_same, by rw [List.length_append, hn]; rfl, sm.more fm.1 fm.2⟩
        · walk_at "rd"
          refine rd_mulN (.inr ⟨by decide, by decide⟩) ?_
          walk_at "rd"
          refine rd_mulN (.inr ⟨by decide, by decide⟩) ?_
          walk_at "rd"
          refine rd_modI (by decide) ?_
          walk_at "rd"
          have fa := fmod_small (a := (if c < 0 then -c else c) * 48271 + (i : Int) * 69621 + 11) (m := 2147483647) (by decide)
          refine rd_mulN (.inl ⟨by omega, by omega⟩) ?_
          walk_at "rd"
          refine rd_mulN (.inl ⟨by decide, by decide⟩) ?_
          walk_at "rd"
          refine rd_modI (by decide) ?_
          walk_at "rd"
          refine ⟨tl, ?_⟩
          walk_at "rd"
          refine rd_divI ⟨by decide, by decide⟩ ?_
          walk_at "rd"
          refine rd_modI (by decide) ?_
          walk_at "rd"
          refine append_int (K := K) hl hn (by omega) ?_
          have fm := fun a : Int => fmod_small (a := a) (m := 1000) (by decide)
          exact ⟨_, ns ++ [_], _, _, rfl, Evl.Ex.mut e hp, upd_same, by rw [List.length_append, hn]; rfl, sm.more (fm _).1 (fm _).2⟩
      · walk_at "rd"
        refine rd_mulN (.inr ⟨by decide, by decide⟩) ?_
        walk_at "rd"
        refine rd_mulN (.inr ⟨by decide, by decide⟩) ?_
        walk_at "rd"
        refine rd_modI (by decide) ?_
        walk_at "rd"
        have fa := fmod_small (a := (if c < 0 then -c else c) * 48271 + (i : Int) * 69621 + 11) (m := 2147483647) (by decide)
        refine rd_mulN (.inl ⟨by omega, by omega⟩) ?_
        walk_at "rd"
        refine rd_mulN (.inl ⟨by decide, by decide⟩) ?_
        walk_at "rd"
        refine rd_modI (by decide) ?_
        walk_at "rd"
        refine ⟨tl, ?_⟩
        walk_at "rd"
        refine rd_divI ⟨by decide, by decide⟩ ?_
        walk_at "rd"
        refine rd_modI (by decide) ?_
        walk_at "rd"
        refine append_int (K := K) hl hn (by omega) ?_
        have fm := fun a : Int => fmod_small (a := a) (m := 1000) (by decide)
        exact ⟨_, ns ++ [_], _, _, rfl, Evl.Ex.mut e hp, upd_same, by rw [List.length_append, hn]; rfl, sm.more (fm _).1 (fm _).2⟩
    · rintro σ H' ⟨r, ns, kk, mm, rfl, e, hl, hn, sm⟩
      walk_at "rd"
      exact q p ns H' hp e hl (by omega) sm
/-- a state: the numbers, the place -/
def StAt (H : Hp) (p : Addr) : Prop := ∃ (l : Addr) (ns : List Int) (place : Int), H p = some (.lst [.ref l, .int place]) ∧ H l = some (.lst (ns.map V.int)) ∧ Small ns ∧ 0 < ns.length ∧ ns.length ≤ 100000 ∧ 0 ≤ place
theorem StAt.ex {H H' : Hp} {p : Addr} (h : StAt H p) (e : Ex H H') : StAt H' p := by
  obtain ⟨l, ns, pl, h1, h2, h3⟩ := h
  exact ⟨l, ns, pl, e _ _ h1, e _ _ h2, h3⟩
def spState (K : PySem.W.Frag) : Sp := fun vs H Q _ => ∃ (l : Addr) (ns : List Int) (st many : Int), vs = [.ref l, .int st, .int many] ∧ SqL K H l (ns.map V.int) ∧ 0 ≤ st ∧ st ≤ 1000 ∧ 0 < many ∧ many ≤ 1000 ∧
  ∀ (p : Addr) (H' : Hp), H p = none → Ex H H' → StAt H' p → Q (.ref p) H'
theorem ok_state (T : Txt K mg) : FnOk P w K mg base CX0 2 T.a_state T.d_state ["script", "start", "many"] (spState K) := by
  refine T.f_state.ok sc_state (fun vs H Q E h => ?_) (fun cdv A outer s H vs Q E hr h => ?_)
  · obtain ⟨_, _, _, _, rfl, _⟩ := h; rfl
  · obtain ⟨l, ns, st, many, rfl, hs, h0, h1, h2, h3, q⟩ := h
    refine ⟨_, (pss_cons (ps_set (i := 3) sc_state.nd rfl (by first | exact Or.inl rfl | exact Or.inr rfl) (pe_lst pa_nil))
  (pss_cons (ps_for PassesOwn.never rfl (pi_range2 (by rfl) T.nb_range (pa_cons (pv 1) (pa_cons (pe_op (kAdd K) (pv 1) (pv 2)) pa_nil))) (pg_name (i := 4) sc_state.nd rfl (by first | exact Or.inl rfl | exact Or.inr rfl))
    (pss_cons (ps_set (i := 5) sc_state.nd rfl (by first | exact Or.inl rfl | exact Or.inr rfl) (pe_callE (ok_cell T) (hr.mono (by decide)) T.o_cell (pa_cons (pv 0) (pa_cons (pv 4) pa_nil))))
  (pss_cons (ps_if (pt_cmpR op_ltP (pe_callB call_absP (by rfl) T.nb_abs (by decide +kernel) (pa_cons (pv 5) pa_nil)) (pe_op op_powP pe_int pe_int) (by first | rfl | exact nomark _))
    (pss_one (ps_set (i := 5) sc_state.nd rfl (by first | exact Or.inl rfl | exact Or.inr rfl) (pe_op (kAdd K) (pe_op op_mulPP (pv 5) pe_int) (pv 4))))
    pss_nil)
  (pss_one (ps_set (i := 3) sc_state.nd rfl (by first | exact Or.inl rfl | exact Or.inr rfl) (pe_op (kAdd K) (pv 3) (pe_callE (ok_numbers T) (hr.mono (by decide)) T.o_numbers (pa_cons (pv 5) (pa_cons pe_int pa_nil)))))))))
  (pss_one (ps_ret (pe_lst (pa_cons (pv 3) (pa_cons pe_int pa_nil))))))), ?_⟩
    walk_at "rd"
    refine ⟨by decide, fun p hp => ?_⟩
    walk_at "rd"
    refine ⟨_, _, rfl, ⟨by omega, by omega, by omega, by omega⟩, fo_range2 (lo := st) (n := (st + many - st).toNat) (fun i σ H' => ∃ (p2 : Addr) (ms : List Int) (kk cc : Option V), σ = [some (.ref l), some (.int st), some (.int many), some (.ref p2), kk, cc] ∧ Ex H H' ∧ H p2 = none ∧ H' p2 = some (.lst (ms.map V.int)) ∧ ms.length = i * 20 ∧ Small ms)
      ⟨p, [], none, none, rfl, Evl.Ex.new hp, hp, upd_same, rfl, fun x hx => by cases hx⟩ ?_ ?_⟩
    · rintro i σ H' hi ⟨p2, ms, kk, cc, rfl, e, hp2, hl, hn, sm⟩
      walk_at "rd"
      refine ⟨l, ns, _, rfl, Evl.ex_l e hs, by omega, fun z => ?_⟩
      walk_at "rd"
      refine rd_powI ⟨by decide, by decide, by decide⟩ ?_
      walk_at "rd"
      have hi2 : i < 1000 := by omega
      have fin : ∀ (z2 : Int) (cc : Option V), cc = some (.int z2) → tAsg (tOp (oAdd K) (tVar 3) (tCalled spNumbers (tCons (tVar 5) (tCons (tC (.int 20)) tNil)))) (gName 3)
          { nx := fun σ H' => ∃ (p2 : Addr) (ms : List Int) (kk cc : Option V), σ = [some (.ref l), some (.int st), some (.int many), some (.ref p2), kk, cc] ∧ Ex H H' ∧ H p2 = none ∧ H' p2 = some (.lst (ms.map V.int)) ∧ ms.length = (i + 1) * 20 ∧ Small ms, rt := Q } [some (.ref l), some (.int st), some (.int many), some (.ref p2), some (.int (st + (i : Int))), cc] H' := by
        rintro z2 cc rfl
        walk_at "rd"
        refine ⟨z2, 20, rfl, by decide, by decide, fun p3 ns3 H3 hp3 e3 hl3 hn3 sm3 => ?_⟩
        refine rd_cat (e3 _ _ hl) hl3 ?_ fun p4 hp4 => ?_
        · rw [List.length_map, List.length_map, hn]
          refine Nat.le_trans (show i * 20 + ns3.length ≤ 100000 by omega) (by decide)
        · walk_at "rd"
          refine ⟨p4, ms ++ ns3, _, _, rfl, ex_upd (e.trans e3) hp4, Evl.fresh_back (e.trans e3) hp4, ?_, ?_, sm.app sm3⟩
          · rw [upd_same, List.map_append]
          · rw [List.length_append, hn]; omega
      refine rd_ite (fun h4 => ?_) (fun h4 => ?_)
      · walk_at "rd"
        refine rd_mulN (.inr ⟨by decide, by decide⟩) ?_
        walk_at "rd1"
        walk_at "rd1"
        walk_at "rd1"
        walk_at "rd1"
        exact fin _ _ rfl
      · exact fin _ _ rfl
    · rintro σ H' ⟨p2, ms, kk, cc, rfl, e, hp2, hl, hn, sm⟩
      walk_at "rd"
      refine ⟨by show 2 ≤ sizeLine; decide, fun p3 hp3 => ?_⟩
      refine q p3 _ (Evl.fresh_back e hp3) (ex_upd e hp3) ⟨p2, ms, 0, upd_same, ?_, sm, by omega, by omega, by decide⟩
      rw [upd_ne (ne_of_none hl hp3)]
      exact hl
/-- the same list within -/
def SameIn (p : Addr) (H H' : Hp) : Prop := ∀ (l : Addr) (n : V), H p = some (.lst [.ref l, n]) → ∃ n', H' p = some (.lst [.ref l, n'])
theorem SameIn.trans {p : Addr} {H H1 H2 : Hp} (a : SameIn p H H1) (b : SameIn p H1 H2) : SameIn p H H2 := fun l n e => by
  obtain ⟨n1, e1⟩ := a l n e
  exact b l n1 e1
theorem SameIn.ex {p : Addr} {H H1 H2 : Hp} (a : SameIn p H H1) (b : Ex H1 H2) : SameIn p H H2 := fun l n e => by
  obtain ⟨n1, e1⟩ := a l n e
  exact ⟨n1, b _ _ e1⟩
/-- the next number below many: any -/
def spNext : Sp := fun vs H Q _ => ∃ (p : Addr) (many : Int), vs = [.ref p, .int many] ∧ 0 < many ∧ StAt H p ∧ ∀ (r : Int) (H' : Hp), 0 ≤ r → r < many → StAt H' p → (∀ b o, b ≠ p → H b = some o → H' b = some o) → ((∀ b, H b = none → H' b = none) ∧ SameIn p H H') → Q (.int r) H'
theorem ok_next (T : Txt K mg) : FnOk P w K mg base CX0 1 T.a_next T.d_next ["state", "many"] spNext := by
  refine T.f_next.ok sc_next (fun vs H Q E h => ?_) (fun cdv A outer s H vs Q E hr h => ?_)
  · obtain ⟨_, _, rfl, _⟩ := h; rfl
  · obtain ⟨p, many, rfl, hm, ⟨l, ns, place, h1, h2, sm, l0, l1, p0⟩, q⟩ := h
    have lp : l ≠ p := fun z => by
      rw [z, h1] at h2
      have y := HO.lst.inj (Option.some.inj h2)
      cases ns with
      | nil => cases l0
      | cons a r => cases y
    refine ⟨_, (pss_cons (ps_set (i := 2) sc_next.nd rfl (by first | exact Or.inl rfl | exact Or.inr rfl) (pe_ix (kIx K) (pv 0) pe_int (fun _ _ => rfl)))
  (pss_cons (ps_set (i := 3) sc_next.nd rfl (by first | exact Or.inl rfl | exact Or.inr rfl) (pe_ix (kIx K) (pv 0) pe_int (fun _ _ => rfl)))
  (pss_cons (ps_asg (pe_op (kAdd K) (pv 3) pe_int) (pg_sub (pv 0) pe_int set_list))
  (pss_one (ps_ret (pe_op op_modP (pe_callTy call_intP (by rfl) T.nb_int (by decide +kernel) (pa_cons (pe_op (kAdd K) (pe_ix (kIx K) (pv 2) (pe_op op_modP (pv 3) (pe_callB (kLen K) (by rfl) T.nb_len (by decide +kernel) (pa_cons (pv 2) pa_nil))) (fun _ _ => rfl)) (pe_op op_mulPP (pe_op op_divP (pv 3) (pe_callB (kLen K) (by rfl) T.nb_len (by decide +kernel) (pa_cons (pv 2) pa_nil))) pe_int)) pa_nil)) (pv 1))))))), ?_⟩
    walk_at "rd"
    refine rd_ixL (v := .ref l) (SqL.of h1) (atI_nat (j := 0) rfl) ?_
    walk_at "rd"
    refine rd_ixL (v := .int place) (SqL.of h1) (atI_nat (j := 1) rfl) ?_
    walk_at "rd"
    refine ⟨p, _, 1, 1, rfl, rfl, h1, rfl, ?_⟩
    have h2' : upd H p (.lst (([.ref l, .int place] : List V).set 1 (.int (place + 1)))) l = some (.lst (ns.map V.int)) := by rw [upd_ne lp]; exact h2
    have hq : SqL K (upd H p (.lst (([.ref l, .int place] : List V).set 1 (.int (place + 1))))) l (ns.map V.int) := SqL.of h2'
    walk_at "rd"
    have lz : ((ns.map V.int).length : Int) = ns.length := by rw [List.length_map]
    refine rd_modI (by rw [lz]; omega) ?_
    rw [lz]
    have fm := fmod_small (a := place) (m := (ns.length : Int)) (by omega)
    have e : place.fmod (ns.length : Int) = ((place.fmod (ns.length : Int)).toNat : Int) := (Int.toNat_of_nonneg fm.1).symm
    refine rd_ixL (v := .int (ns.getD (place.fmod (ns.length : Int)).toNat 0)) hq ?_ ?_
    · rw [e]
      refine atI_nat ?_
      rw [List.getElem?_map, Int.toNat_natCast, List.getD_eq_getElem?_getD, List.getElem?_eq_getElem (show (place.fmod (ns.length : Int)).toNat < ns.length by omega)]
      rfl
    · walk_at "rd"
      refine rd_divI ⟨by rw [lz]; omega, by rw [lz]; omega⟩ ?_
      walk_at "rd"
      refine rd_mulN (.inr ⟨by decide, by decide⟩) ?_
      walk_at "rd"
      refine rd_modI (by omega) ?_
      have fr := fun a : Int => fmod_small (a := a) (m := many) hm
      refine q _ _ (fr _).1 (fr _).2 ⟨l, ns, place + 1, upd_same, h2', sm, l0, l1, by omega⟩ (fun b o hb ho => ?_) ⟨fun b hb => ?_, fun l' n' e => ⟨.int (place + 1), ?_⟩⟩
      · rw [upd_ne hb]; exact ho
      · rw [upd_ne (fun z => by rw [z, h1] at hb; cases hb)]; exact hb
      · rw [h1] at e
        have e2 := HO.lst.inj (Option.some.inj e)
        rw [upd_same, ← (List.cons.inj e2).1]
        rfl
/-! ### letters and texts -/
theorem ok_init (T : Txt K mg) : FnOk P w K mg base CX0 1 T.a_init T.d_init ["self", "what"] (spInit K) := by
  refine T.f_init.ok sc_init (fun vs H Q E h => ?_) (fun cdv A outer s H vs Q E hr h => ?_)
  · obtain ⟨_, _, _, rfl, _⟩ := h; rfl
  · obtain ⟨a, C, v, rfl, T1, nw, ha, q⟩ := h
    refine ⟨_, pss_one (ps_ost (pv 0) (pv 1)), ?_⟩
    exact ⟨_, rfl, _, rfl, a, C, rfl, T1, nw, .inl ⟨ha, q⟩⟩
/-! ### drawn letters -/
/-- the state at p goes on; what stood stands -/
structure Dr (p : Addr) (H H' : Hp) : Prop where
  st : StAt H' p
  old : ∀ b o, b ≠ p → H b = some o → H' b = some o
  inn : SameIn p H H'
theorem Dr.trans {p : Addr} {H H1 H2 : Hp} (a : Dr p H H1) (b : Dr p H1 H2) : Dr p H H2 := ⟨b.st, fun c o hc q => b.old c o hc (a.old c o hc q), a.inn.trans b.inn⟩
theorem Dr.ex {p : Addr} {H H1 H2 : Hp} (a : Dr p H H1) (e : Ex H1 H2) : Dr p H H2 := ⟨a.st.ex e, fun c o hc q => e c o (a.old c o hc q), a.inn.ex e⟩
theorem Dr.refl {p : Addr} {H : Hp} (h : StAt H p) : Dr p H H := ⟨h, fun _ _ _ q => q, fun _ n e => ⟨n, e⟩⟩
theorem StAt.some {H : Hp} {p : Addr} (h : StAt H p) : ∃ o, H p = some o := by
  obtain ⟨l, ns, pl, h1, _⟩ := h
  exact ⟨_, h1⟩
/-- new since H0: all of H0 stands -/
theorem Dr.from {p : Addr} {H0 H H' : Hp} (e : Ex H0 H) (hp : H0 p = none) (d : Dr p H H') : Ex H0 H' := fun b o q => d.old b o (ne_of_none q hp) (e b o q)
abbrev PL : Str := "abcdefghijklmnopqrstuvwxyzABCDEFGHIJKLMNOPQRSTUVWXYZ0123456789<>=:_@#"
theorem okS_PL : okS PL := by unfold okS; decide +kernel
theorem pl_len : PL.length = 69 := by decide +kernel
theorem okS_nil : okS "" := by unfold okS; decide +kernel
theorem str_len (x y : Str) : (x ++ y).length = x.length + y.length := by
  rw [TL.len_tl, TL.len_tl, TL.len_tl, TL.tl_append, List.length_append]
theorem at_str {z : Str} {r : Int} (h0 : 0 ≤ r) (h : r < z.length) : ∃ c, atI z.cps.toList r = some c ∧ c ∈ z.cps.toList := by
  obtain ⟨n, rfl⟩ := Int.eq_ofNat_of_zero_le h0
  have hl : n < z.cps.toList.length := by
    have : z.cps.toList.length = z.length := rfl
    omega
  exact ⟨z.cps.toList[n], atI_nat (List.getElem?_eq_getElem hl), List.getElem_mem hl⟩
/-- an alphabet of at most so many letters -/
structure Alpha (z : Str) (most : Nat) : Prop where
  l0 : 0 < z.length
  l1 : z.length ≤ most
  ok : okS z
  nd : z.cps.toList.Nodup
  pl : ∀ c ∈ z.cps.toList, c ∈ PL.cps.toList
def spLetters : Sp := fun vs H Q _ => ∃ (p : Addr) (most : Nat), vs = [.ref p, .int (most : Int)] ∧ 0 < most ∧ most ≤ 100 ∧ StAt H p ∧ ∀ (z : Str) (H' : Hp), Alpha z most → Dr p H H' → Q (.str z) H'
theorem ok_letters (T : Txt K mg) : FnOk P w K mg base CX0 2 T.a_letters T.d_letters ["state", "most"] spLetters := by
  refine T.f_letters.ok sc_letters (fun vs H Q E h => ?_) (fun cdv A outer s H vs Q E hr h => ?_)
  · obtain ⟨_, _, rfl, _⟩ := h; rfl
  · obtain ⟨p, most, rfl, h0, h1, hS, q⟩ := h
    refine ⟨_, (pss_cons (ps_set (i := 2) sc_letters.nd rfl (by first | exact Or.inl rfl | exact Or.inr rfl) pe_str)
  (pss_cons (ps_set (i := 3) sc_letters.nd rfl (by first | exact Or.inl rfl | exact Or.inr rfl) pe_str)
  (pss_cons (ps_for PassesOwn.never rfl (pi_range1 (by rfl) T.nb_range (pa_cons (pe_op (kAdd K) pe_int (pe_callE (ok_next T) (hr.mono (by decide)) T.o_next (pa_cons (pv 0) (pa_cons (pv 1) pa_nil)))) pa_nil)) (pg_name (i := 4) sc_letters.nd rfl (by first | exact Or.inl rfl | exact Or.inr rfl))
    (pss_cons (ps_set (i := 5) sc_letters.nd rfl (by first | exact Or.inl rfl | exact Or.inr rfl) (pe_ix (kIx K) (pv 2) (pe_callE (ok_next T) (hr.mono (by decide)) T.o_next (pa_cons (pv 0) (pa_cons pe_int pa_nil))) (fun _ _ => rfl)))
  (pss_one (ps_if (pt_cmpR (kNotIn K) (pv 5) (pv 3) (by first | rfl | exact nomark _))
    (pss_one (ps_set (i := 3) sc_letters.nd rfl (by first | exact Or.inl rfl | exact Or.inr rfl) (pe_op (kAdd K) (pv 3) (pv 5))))
    pss_nil))))
  (pss_one (ps_ret (pv 3)))))), ?_⟩
    walk_at "rc"
    walk_at "rs"
    walk_at "rc"
    refine ⟨p, most, rfl, by omega, hS, fun r H1 r0 r1 S1 k1 i1 => ?_⟩
    walk_at "rc"
    refine ⟨1 + r, rfl, by omega, by omega, fo_range (n := (1 + r).toNat) (fun i σ H' => ∃ (z : Str) (kk ll : Option V), σ = [some (.ref p), some (.int (most : Int)), some (.str PL), some (.str z), kk, ll] ∧ (0 < i → 0 < z.length) ∧ z.length ≤ i ∧ okS z ∧ z.cps.toList.Nodup ∧ (∀ c ∈ z.cps.toList, c ∈ PL.cps.toList) ∧ Dr p H H')
      ⟨"", none, none, rfl, fun z => absurd z (Nat.lt_irrefl 0), Nat.le_refl 0, okS_nil, List.nodup_nil, (fun c hc => nomatch hc), ⟨S1, k1, i1.2⟩⟩ ?_ ?_⟩
    · rintro i σ H' hi ⟨z, kk, ll, rfl, g0, g1, g2, g3, g4, g5⟩
      walk_at "rc"
      refine ⟨p, 69, rfl, by decide, g5.st, fun r2 H2 r20 r21 S2 k2 i2 => ?_⟩
      obtain ⟨c, hc, cm⟩ := at_str (z := PL) r20 (by rw [pl_len]; exact r21)
      refine rd_ixS (by rw [pl_len]; decide) hc ?_
      walk_at "rc"
      have d2 : Dr p H H2 := g5.trans ⟨S2, k2, i2.2⟩
      refine rd_iteN (fun h3 => ?_) (fun h3 => ?_)
      · walk_at "rc"
        refine rd_addS (Nat.le_trans (show z.length + 1 ≤ 1000 by omega) (by decide)) ?_
        walk_at "rc"
        have e : (z ++ (⟨#[c]⟩ : Str)).cps.toList = z.cps.toList ++ [c] := TL.tl_append z ⟨#[c]⟩
        refine ⟨_, _, _, rfl, fun _ => by rw [str_len]; exact Nat.succ_pos _, by rw [str_len]; exact Nat.succ_le_succ g1, okS_app g2 (okS_one okS_PL cm), ?_, fun d hd => ?_, d2⟩
        · rw [e]
          exact List.nodup_append.mpr ⟨g3, List.nodup_cons.mpr ⟨List.not_mem_nil, List.nodup_nil⟩, fun a ha b hb q => by
            rw [List.mem_singleton.mp hb] at q
            rw [q] at ha
            exact h3 ha⟩
        · rw [e] at hd
          rcases List.mem_append.mp hd with y | y
          · exact g4 d y
          · rw [List.mem_singleton.mp y]; exact cm
      · walk_at "rc"
        refine ⟨_, _, _, rfl, fun _ => ?_, Nat.le_succ_of_le g1, g2, g3, g4, d2⟩
        cases e : z.cps.toList with
        | nil => rw [e] at h3; cases h3
        | cons a l =>
          have e2 : z.length = z.cps.toList.length := rfl
          rw [e2, e]
          exact Nat.succ_pos _
    · rintro σ H' ⟨z, kk, ll, rfl, g0, g1, g2, g3, g4, g5⟩
      walk_at "rc"
      exact q z H' ⟨g0 (by omega), by omega, g2, g3, g4⟩ g5
/-! ### drawing, with data -/
/-- a list that was not there may change -/
theorem Dr.put {p r : Addr} {H H' : Hp} {o : HO} (hS : StAt H p) (d : Dr p H H') (hr : H r = none) : Dr p H (upd H' r o) := by
  obtain ⟨l, ns, pl, h1, h2, _⟩ := hS
  have nS : ∀ b u, b ≠ r → H' b = some u → upd H' r o b = some u := fun b u hb z => by rw [upd_ne hb]; exact z
  have rp : p ≠ r := ne_of_none h1 hr
  obtain ⟨n1, e1⟩ := d.inn l _ h1
  refine ⟨?_, fun b u hb z => nS _ _ (ne_of_none z hr) (d.old b u hb z), fun l2 n2 e2 => ?_⟩
  · obtain ⟨l3, ns3, pl3, g1, g2, g3⟩ := d.st
    rw [e1] at g1
    have e4 := (List.cons.inj (HO.lst.inj (Option.some.inj g1))).1
    have e5 : l = l3 := by cases e4; rfl
    subst e5
    refine ⟨l, ns3, pl3, nS _ _ rp ?_, nS _ _ (ne_of_none h2 hr) g2, g3⟩
    rw [e1, g1]
  · obtain ⟨n3, e3⟩ := d.inn l2 n2 e2
    exact ⟨n3, nS _ _ rp e3⟩
theorem Dr.back {p r : Addr} {H H' : Hp} (hS : StAt H p) (d : Dr p H H') (h : H' r = none) : H r = none := by
  cases q : H r with
  | none => rfl
  | some o =>
    by_cases e : r = p
    · subst e
      obtain ⟨o2, h2⟩ := d.st.some
      rw [h] at h2; cases h2
    · rw [d.old r o e q] at h; cases h
theorem Dr.kp {p : Addr} {S : List Addr} {H H' : Hp} (d : Dr p H H') (hp : p ∈ S) : Kp S H H' := fun b o hb q => d.old b o (fun z => hb (z ▸ hp)) q
theorem Dr.st' {p c : Addr} {H H' : Hp} (d : Dr p H H') (h : ∃ o, H c = some o) : ∃ o, H' c = some o := by
  obtain ⟨o, h⟩ := h
  by_cases e : c = p
  · rw [e]; exact d.st.some
  · exact ⟨o, d.old c o e h⟩
theorem tr_dr {p : Addr} {S : List Addr} {H : Hp} (hS : StAt H p) (hp : p ∈ S) : Tr S H (Dr p) :=
  ⟨Dr.refl hS, fun d => Dr.refl d.st, fun d h => d.st' h, fun a b => a.trans b, fun h d => d.put hS h, fun d => d.kp hp⟩
theorem map_ofD {α : Type} {f : α → PyData} {S : α → Prop} : ∀ (vs : List PyData), (∀ (i : Nat) v, vs[i]? = some v → ∃ a, v = f a ∧ S a) → ∃ as : List α, vs = as.map f ∧ ∀ a ∈ as, S a
  | [], _ => ⟨[], rfl, fun a h => by cases h⟩
  | v :: vs, h => by
    obtain ⟨a, e, s⟩ := h 0 v rfl
    obtain ⟨as, e2, s2⟩ := map_ofD vs fun i v hv => h (i + 1) v (by simpa using hv)
    exact ⟨a :: as, by rw [e, e2]; rfl, fun b hb => by
      rcases List.mem_cons.mp hb with z | z
      · rw [z]; exact s
      · exact s2 b z⟩
theorem rng_Y {n : Nat} : ∀ (i : Nat) (H : Hp) (x : V) (H' : Hp), i < n → (H' = H ∧ x = V.int (i : Nat)) → H' = H ∧ (x = V.int (i : Nat)) := fun _ _ _ _ _ y => y
/-! ### machines -/
/-- a list or a tuple of these values stands there -/
def SqA (K : PySem.W.Frag) (H : Hp) (a : Addr) (xs : List V) : Prop := SqL K H a xs ∨ SqT K H a xs
theorem SqA.ex {H H' : Hp} {a : Addr} {xs : List V} (h : SqA K H a xs) (e : Ex H H') : SqA K H' a xs := h.elim (fun z => .inl (Evl.ex_l e z)) fun z => .inr (Evl.ex_t e z)
/-- rows of ints: where each stands -/
inductive RowsA (K : PySem.W.Frag) (H : Hp) : List Addr → List (List Int) → Prop
  | nil : RowsA K H [] []
  | cons {r : Addr} {rs : List Addr} {ns : List Int} {tab : List (List Int)} : SqA K H r (ns.map V.int) → RowsA K H rs tab → RowsA K H (r :: rs) (ns :: tab)
inductive RowsT (K : PySem.W.Frag) (H : Hp) : List Addr → List (List Int) → Prop
  | nil : RowsT K H [] []
  | cons {r : Addr} {rs : List Addr} {ns : List Int} {tab : List (List Int)} : SqT K H r (ns.map V.int) → RowsT K H rs tab → RowsT K H (r :: rs) (ns :: tab)
theorem RowsA.len {H : Hp} : ∀ {rs : List Addr} {tab : List (List Int)}, RowsA K H rs tab → rs.length = tab.length
  | _, _, .nil => rfl
  | _, _, .cons _ t => congrArg Nat.succ t.len
theorem RowsT.len {H : Hp} : ∀ {rs : List Addr} {tab : List (List Int)}, RowsT K H rs tab → rs.length = tab.length
  | _, _, .nil => rfl
  | _, _, .cons _ t => congrArg Nat.succ t.len
theorem RowsA.ex {H H' : Hp} (e : Ex H H') : ∀ {rs : List Addr} {tab : List (List Int)}, RowsA K H rs tab → RowsA K H' rs tab
  | _, _, .nil => .nil
  | _, _, .cons h t => .cons (h.ex e) (t.ex e)
theorem RowsT.ex {H H' : Hp} (e : Ex H H') : ∀ {rs : List Addr} {tab : List (List Int)}, RowsT K H rs tab → RowsT K H' rs tab
  | _, _, .nil => .nil
  | _, _, .cons h t => .cons (Evl.ex_t e h) (t.ex e)
theorem RowsA.get {H : Hp} : ∀ {rs : List Addr} {tab : List (List Int)} {i : Nat} {r : Addr}, RowsA K H rs tab → rs[i]? = some r → ∃ ns, tab[i]? = some ns ∧ SqA K H r (ns.map V.int)
  | _, _, _, _, .nil, e => by simp at e
  | _, _, 0, _, .cons h _, e => by simp at e; subst e; exact ⟨_, rfl, h⟩
  | _, _, i + 1, _, .cons _ t, e => by
    obtain ⟨ns, h1, h2⟩ := t.get (i := i) (by simpa using e)
    exact ⟨ns, by simpa using h1, h2⟩
theorem RowsT.get {H : Hp} : ∀ {rs : List Addr} {tab : List (List Int)} {i : Nat} {r : Addr}, RowsT K H rs tab → rs[i]? = some r → ∃ ns, tab[i]? = some ns ∧ SqT K H r (ns.map V.int)
  | _, _, _, _, .nil, e => by simp at e
  | _, _, 0, _, .cons h _, e => by simp at e; subst e; exact ⟨_, rfl, h⟩
  | _, _, i + 1, _, .cons _ t, e => by
    obtain ⟨ns, h1, h2⟩ := t.get (i := i) (by simpa using e)
    exact ⟨ns, by simpa using h1, h2⟩
theorem RowsT.get2 {H : Hp} : ∀ {rs : List Addr} {tab : List (List Int)} {i : Nat} {ns : List Int}, RowsT K H rs tab → tab[i]? = some ns → ∃ r, rs[i]? = some r ∧ SqT K H r (ns.map V.int)
  | _, _, _, _, .nil, e => by simp at e
  | _, _, 0, _, .cons h _, e => by simp at e; subst e; exact ⟨_, rfl, h⟩
  | _, _, i + 1, _, .cons _ t, e => by
    obtain ⟨r, h1, h2⟩ := t.get2 (i := i) (by simpa using e)
    exact ⟨r, by simpa using h1, h2⟩
/-- rows, one by one -/
theorem RowsT.of {H : Hp} : ∀ {tab : List (List Int)} {vs : List V}, vs.length = tab.length → (∀ (i : Nat) v, vs[i]? = some v → ∃ (r : Addr) (ns : List Int), v = V.ref r ∧ tab[i]? = some ns ∧ SqT K H r (ns.map V.int)) → ∃ rs, vs = rs.map V.ref ∧ RowsT K H rs tab
  | [], [], _, _ => ⟨[], rfl, .nil⟩
  | [], _ :: _, h, _ => by cases h
  | _ :: _, [], h, _ => by cases h
  | ns :: tab, v :: vs, h, g => by
    obtain ⟨r, ms, e1, e2, e3⟩ := g 0 v rfl
    have e2' : ns = ms := Option.some.inj e2
    subst e2'
    subst e1
    obtain ⟨rs, e4, e5⟩ := RowsT.of (tab := tab) (vs := vs) (Nat.succ.inj h) fun i v hv => g (i + 1) v (by simpa using hv)
    exact ⟨r :: rs, by rw [e4]; rfl, .cons e3 e5⟩
def mFields (ls : Str) (ta tt : Addr) : List (Str × V) := [("letters", .str ls), ("accepting", .ref ta), ("table", .ref tt)]
/-- a machine stands at m -/
def MachineAt (K : PySem.W.Frag) (C : Addr) (H : Hp) (m : Addr) (ls : Str) (acc : List Bool) (tab : List (List Int)) : Prop := ∃ (dx ta tt : Addr) (rs : List Addr), H m = some (.ins C dx (mFields ls ta tt)) ∧ SqT K H ta (acc.map V.bl) ∧ SqT K H tt (rs.map V.ref) ∧ RowsT K H rs tab
theorem MachineAt.ex {C : Addr} {H H' : Hp} {m : Addr} {ls : Str} {acc : List Bool} {tab : List (List Int)} (h : MachineAt K C H m ls acc tab) (e : Ex H H') : MachineAt K C H' m ls acc tab := by
  obtain ⟨dx, ta, tt, rs, h1, h2, h3, h4⟩ := h
  exact ⟨dx, ta, tt, rs, e _ _ h1, Evl.ex_t e h2, Evl.ex_t e h3, h4.ex e⟩
def goodM (ls : Str) (acc : List Bool) (tab : List (List Int)) : Prop := acc.length ≠ 0 ∧ tab.length = acc.length ∧ ∀ row ∈ tab, row.length = ls.length ∧ ∀ x ∈ row, 0 ≤ x ∧ x < (acc.length : Int)
/-- what stood is as it was, but at m -/
def But (m : Addr) (H H' : Hp) : Prop := ∀ b o, b ≠ m → H b = some o → H' b = some o
theorem But.ex {m : Addr} {H H' H2 : Hp} (h : But m H H') (e : Ex H' H2) : But m H H2 := fun b o hb q => e b o (h b o hb q)
theorem foldl_min_le (n : Int) : ∀ ns : List Int, (∀ x ∈ n :: ns, ns.foldl min n ≤ x) ∧ ns.foldl min n ∈ n :: ns
  | [] => ⟨fun x hx => by rw [List.mem_singleton.mp hx]; exact Int.le_refl _, List.mem_cons_self⟩
  | k :: ns => by
    have ih := foldl_min_le (min n k) ns
    rw [List.foldl_cons]
    have h0 := ih.1 _ List.mem_cons_self
    refine ⟨fun x hx => ?_, ?_⟩
    · rcases List.mem_cons.mp hx with e | hx
      · rw [e]; omega
      · rcases List.mem_cons.mp hx with e | hx
        · rw [e]; omega
        · exact ih.1 x (List.mem_cons_of_mem _ hx)
    · rcases List.mem_cons.mp ih.2 with e | e
      · rw [e]
        rcases Int.le_total n k with z | z
        · rw [Int.min_eq_left z]; exact List.mem_cons_self
        · rw [Int.min_eq_right z]; exact List.mem_cons_of_mem _ List.mem_cons_self
      · exact List.mem_cons_of_mem _ (List.mem_cons_of_mem _ e)
theorem foldl_max_ge (n : Int) : ∀ ns : List Int, (∀ x ∈ n :: ns, x ≤ ns.foldl max n) ∧ ns.foldl max n ∈ n :: ns
  | [] => ⟨fun x hx => by rw [List.mem_singleton.mp hx]; exact Int.le_refl _, List.mem_cons_self⟩
  | k :: ns => by
    have ih := foldl_max_ge (max n k) ns
    rw [List.foldl_cons]
    have h0 := ih.1 _ List.mem_cons_self
    refine ⟨fun x hx => ?_, ?_⟩
    · rcases List.mem_cons.mp hx with e | hx
      · rw [e]; omega
      · rcases List.mem_cons.mp hx with e | hx
        · rw [e]; omega
        · exact ih.1 x (List.mem_cons_of_mem _ hx)
    · rcases List.mem_cons.mp ih.2 with e | e
      · rw [e]
        rcases Int.le_total n k with z | z
        · rw [Int.max_eq_right z]; exact List.mem_cons_of_mem _ List.mem_cons_self
        · rw [Int.max_eq_left z]; exact List.mem_cons_self
      · exact List.mem_cons_of_mem _ (List.mem_cons_of_mem _ e)
section
variable (T : Txt K mg)
def spCheck : Sp := fun vs H Q E => ∃ (m : Addr) (ls : Str) (acc : List Bool) (tab : List (List Int)), vs = [.ref m] ∧ 0 < ls.length ∧ ls.length ≤ 1000000 ∧ MachineAt K T.C_Machine H m ls acc tab ∧ (goodM ls acc tab → Q .non H) ∧ (¬ goodM ls acc tab → ∀ d, H d = none → E (.ref T.C_BadMachine) (some d) (upd H d (.xd [("what", .non)])))
theorem ok_Machine_check : FnOk P w K mg base (L2.CX P w) 4 T.a_Machine_check T.d_Machine_check ["self"] (spCheck T) := by
  refine T.f_Machine_check.okX sc_Machine_check (fun vs H Q E h => ?_) (fun cdv A outer s H vs Q E hr h => ?_)
  · obtain ⟨_, _, _, _, rfl, _⟩ := h; rfl
  · obtain ⟨m, ls, acc, tab, rfl, l0, l1, ⟨dx, ta, tt, rs, hm, hA, hT, hR⟩, qy, qn⟩ := h
    have lz : ls.length ≤ sizeLine := Nat.le_trans l1 (by decide)
    have rl := hR.len
    refine ⟨_, (pss_cons (ps_set (i := 1) sc_Machine_check.nd rfl (by first | exact Or.inl rfl | exact Or.inr rfl) (pe_callB (kLen K) (by rfl) T.nb_len (by decide +kernel) (pa_cons (kFld K rfl (pe_fld (pv 0) rfl)) pa_nil)))
  (pss_cons (ps_if (PW.pt (pw_or (pt_cmpR (kEq K rfl hr.units) (pv 1) pe_int (by first | rfl | exact nomark _)) (pw_or1 (pt_cmpR (kNe K rfl hr.units) (pe_callB (kLen K) (by rfl) T.nb_len (by decide +kernel) (pa_cons (kFld K rfl (pe_fld (pv 0) rfl)) pa_nil)) (pv 1) (by first | rfl | exact nomark _)))))
    (pss_one (ps_raiseW rfl T.x_BadMachine (ok_init T) T.tI T.bI (hr.mono (by decide)) T.g_BadMachine (takes_of rfl rfl rfl rfl) (pa_cons pe_non pa_nil) (MonoA.one mono_c)))
    pss_nil)
  (pss_one (ps_for (passes_of rfl) rfl (kAny K rfl (kFld K rfl (pe_fld (pv 0) rfl))) (pg_name (i := 2) sc_Machine_check.nd rfl (by first | exact Or.inl rfl | exact Or.inr rfl))
    (pss_one (ps_if (PW.pt (pw_or (pt_cmpR (kNe K rfl hr.units) (pe_callB (kLen K) (by rfl) T.nb_len (by decide +kernel) (pa_cons (pv 2) pa_nil)) (pe_callB (kLen K) (by rfl) T.nb_len (by decide +kernel) (pa_cons (kFld K rfl (pe_fld (pv 0) rfl)) pa_nil)) (by first | rfl | exact nomark _)) (pw_or (pt_cmpR op_ltP (pe_callB (kMin K rfl hr.units) (by rfl) T.nb_min (by decide +kernel) (pa_cons (pv 2) pa_nil)) pe_int (by first | rfl | exact nomark _)) (pw_or1 (pt_cmpR op_geP (pe_callB (kMax K rfl hr.units) (by rfl) T.nb_max (by decide +kernel) (pa_cons (pv 2) pa_nil)) (pv 1) (by first | rfl | exact nomark _))))))
    (pss_one (ps_raiseW rfl T.x_BadMachine (ok_init T) T.tI T.bI (hr.mono (by decide)) T.g_BadMachine (takes_of rfl rfl rfl rfl) (pa_cons pe_non pa_nil) (MonoA.one mono_c)))
    pss_nil)))))), ?_⟩
    walk_at "rc"
    refine ⟨m, T.C_Machine, dx, _, _, rfl, hm, T.cl_Machine, T.na_Machine_accepting, rfl, ?_⟩
    walk_at "rc"
    walk_at "rs"
    walk_at "rc"
    refine rd_iteD (fun h1 => ?_) (fun h1 => ?_)
    · walk_at "rc"
      exact qn fun g => g.1 (by rw [List.length_map] at h1; omega)
    · walk_at "rc"
      refine ⟨m, T.C_Machine, dx, _, _, rfl, hm, T.cl_Machine, T.na_Machine_table, rfl, ?_⟩
      walk_at "rc"
      refine rd_iteN (fun h2 => ?_) (fun h2 => ?_)
      · walk_at "rc"
        exact qn fun g => h2 (by rw [List.length_map, List.length_map, rl, g.2.1])
      · rw [List.length_map, List.length_map, rl] at h2
        walk_at "rc"
        refine rd_anyT (a := tt) (xs := rs.map V.ref) (fun Q q => ?_) hT (fo_tup (fun i σ H' => (∃ v, σ = [some (.ref m), some (.int ((acc.map V.bl).length : Nat)), v]) ∧ H' = H ∧ ∀ row ∈ tab.take i, row.length = ls.length ∧ ∀ x ∈ row, 0 ≤ x ∧ x < (acc.length : Int)) ⟨⟨none, rfl⟩, rfl, fun row hrow => by rw [List.take_zero] at hrow; cases hrow⟩ (fun i σ H' _ p => by rw [p.2.1]; exact hT) ?_ ?_)
        · walk_at "rc"
          exact ⟨m, T.C_Machine, dx, _, _, rfl, hm, T.cl_Machine, T.na_Machine_table, rfl, q⟩
        · rintro i x σ H' hi ⟨⟨v, rfl⟩, rfl, hp⟩
          rw [List.getElem?_map] at hi
          cases hri : rs[i]? with
          | none => rw [hri] at hi; cases hi
          | some r =>
            rw [hri] at hi
            obtain rfl : V.ref r = x := Option.some.inj hi
            obtain ⟨ns, ht, hs⟩ := hR.get hri
            have hmem : ns ∈ tab := List.mem_of_getElem? ht
            walk_at "rc"
            refine ⟨m, T.C_Machine, dx, _, _, rfl, hm, T.cl_Machine, T.na_Machine_letters, rfl, ?_⟩
            walk_at "rc"
            refine rd_lenS lz ?_
            walk_at "rc"
            refine rd_iteN (fun h3 => ?_) (fun h3 => ?_)
            · walk_at "rc"
              exact qn fun g => h3 (by rw [List.length_map, (g.2.2 ns hmem).1])
            · rw [List.length_map] at h3
              walk_at "rc"
              cases ns with
              | nil => have z : (0 : Int) = ls.length := h3; omega
              | cons n0 ns =>
                have mn := foldl_min_le n0 ns
                have mx := foldl_max_ge n0 ns
                refine ⟨r, n0, ns, rfl, hs, ?_⟩
                walk_at "rc"
                refine rd_iteD (fun h4 => ?_) (fun h4 => ?_)
                · walk_at "rc"
                  exact qn fun g => by have := ((g.2.2 _ hmem).2 _ mn.2).1; omega
                · walk_at "rc"
                  refine ⟨r, n0, ns, rfl, hs, ?_⟩
                  walk_at "rc"
                  rw [List.length_map]
                  refine rd_iteD (fun h5 => ?_) (fun h5 => ?_)
                  · walk_at "rc"
                    exact qn fun g => by have := ((g.2.2 _ hmem).2 _ mx.2).2; omega
                  · walk_at "rc"
                    refine ⟨⟨_, rfl⟩, rfl, fun row hrow => ?_⟩
                    rw [List.take_succ, ht] at hrow
                    rcases List.mem_append.mp hrow with z | z
                    · exact hp row z
                    · have e : row = n0 :: ns := by simpa using z
                      rw [e]
                      exact ⟨by omega, fun x hx => ⟨by have := mn.1 x hx; omega, by have := mx.1 x hx; omega⟩⟩
        · rintro σ H' ⟨⟨v, rfl⟩, rfl, hp⟩
          rw [List.length_map, rl, List.take_length] at hp
          exact qy ⟨fun z => h1 (by rw [List.length_map, z]; rfl), by omega, hp⟩
/-- Machine(letters, accepting, table) -/
def spMInit : Sp := fun vs H Q E => ∃ (m dx pa pt : Addr) (ls : Str) (acc : List Bool) (rs : List Addr) (tab : List (List Int)), vs = [.ref m, .str ls, .ref pa, .ref pt] ∧ 0 < ls.length ∧ ls.length ≤ 1000000 ∧ H m = some (.ins T.C_Machine dx []) ∧
  SqA K H pa (acc.map V.bl) ∧ SqA K H pt (rs.map V.ref) ∧ RowsA K H rs tab ∧ tab.length < 100000 ∧
  (goodM ls acc tab → ∀ H', But m H H' → MachineAt K T.C_Machine H' m ls acc tab → (SqL K H pa (acc.map V.bl) → ∃ dx' ta tt, H' m = some (.ins T.C_Machine dx' (mFields ls ta tt)) ∧ TupF H' ta (acc.map V.bl)) → Q .non H') ∧ (¬ goodM ls acc tab → ∀ d H', But m H H' → H d = none → H' d = some (.xd [("what", .non)]) → E (.ref T.C_BadMachine) (some d) H')
theorem SqA.tup {pa : Addr} {xs : List V} {H : Hp} {Q : VK} (h : SqA K H pa xs) (q : ∀ ta H', Ex H H' → SqT K H' ta xs → (∀ b, H b = none ∧ H' b ≠ none → b = ta) → Q (.ref ta) H') : cTupOf K [.ref pa] H Q := by
  rcases h with h | h
  · refine rd_tupL h fun l hl => q l _ (Evl.Ex.new hl) (Evl.st_of upd_same) fun b hb => ?_
    by_cases e : b = l
    · exact e
    · rw [upd_ne e] at hb
      exact absurd hb.1 hb.2
  · exact rd_tupT h (q pa _ (Evl.Ex.refl H) h fun b hb => absurd hb.1 hb.2)
theorem SqA.tupF {pa : Addr} {xs : List V} {H : Hp} {Q : VK} (h : SqA K H pa xs) (q : ∀ ta H', Ex H H' → SqT K H' ta xs → (SqL K H pa xs → TupF H' ta xs) → Q (.ref ta) H') : cTupOf K [.ref pa] H Q ∨ cTupF K [.ref pa] H Q := by
  by_cases z : SqL K H pa xs
  · refine .inr ⟨pa, xs, rfl, z, fun l o hl hc hd => ?_⟩
    have tf : TupF (upd H l (.frz o (.tup xs))) l xs := ⟨o, upd_same, hc, hd⟩
    exact q l _ (Evl.Ex.new hl) tf.sq fun _ => tf
  · exact .inl (h.tup fun ta H' e ht _ => q ta H' e ht fun y => absurd y z)
theorem But.of_upd {m : Addr} {H : Hp} {o : HO} : But m H (upd H m o) := fun b u hb q => by rw [upd_ne hb]; exact q
theorem But.trans {m : Addr} {H H1 H2 : Hp} (a : But m H H1) (b : But m H1 H2) : But m H H2 := fun c o hc q => b c o hc (a c o hc q)
theorem Ex.but {m : Addr} {H H' : Hp} (e : Ex H H') : But m H H' := fun b o _ q => e b o q
theorem But.sqt {m a : Addr} {H H' : Hp} {xs : List V} {o : HO} (k : But m H H') (hm : H m = some o) (no : ∀ ys, o ≠ .tup ys) (nf : ∀ ob u, o ≠ .frz ob u) (h : SqT K H a xs) : SqT K H' a xs := by
  rcases h with (h | ⟨ob, h⟩) | h
  · exact .inl (.inl (k _ _ (fun z => by rw [z, hm] at h; exact no _ (Option.some.inj h)) h))
  · exact .inl (.inr ⟨ob, k _ _ (fun z => by rw [z, hm] at h; exact nf _ _ (Option.some.inj h)) h⟩)
  · exact .inr h
theorem But.sql {m a : Addr} {H H' : Hp} {xs : List V} {o : HO} (k : But m H H') (hm : H m = some o) (no : ∀ ys, o ≠ .lst ys) (nf : ∀ ob u, o ≠ .frz ob u) (h : SqL K H a xs) : SqL K H' a xs := by
  rcases h with (h | ⟨ob, h⟩) | h
  · exact .inl (.inl (k _ _ (fun z => by rw [z, hm] at h; exact no _ (Option.some.inj h)) h))
  · exact .inl (.inr ⟨ob, k _ _ (fun z => by rw [z, hm] at h; exact nf _ _ (Option.some.inj h)) h⟩)
  · exact .inr h
theorem But.sqa {m a C dx : Addr} {H H' : Hp} {xs : List V} {fs : List (Str × V)} (k : But m H H') (hm : H m = some (.ins C dx fs)) (h : SqA K H a xs) : SqA K H' a xs :=
  h.elim (fun z => .inl (k.sql hm (fun _ z => by cases z) (fun _ _ z => by cases z) z)) fun z => .inr (k.sqt hm (fun _ z => by cases z) (fun _ _ z => by cases z) z)
theorem But.rowsA {m C dx : Addr} {H H' : Hp} {fs : List (Str × V)} (k : But m H H') (hm : H m = some (.ins C dx fs)) : ∀ {rs : List Addr} {tab : List (List Int)}, RowsA K H rs tab → RowsA K H' rs tab
  | _, _, .nil => .nil
  | _, _, .cons h t => .cons (k.sqa hm h) (k.rowsA hm t)
theorem But.rowsT {m C dx : Addr} {H H' : Hp} {fs : List (Str × V)} (k : But m H H') (hm : H m = some (.ins C dx fs)) : ∀ {rs : List Addr} {tab : List (List Int)}, RowsT K H rs tab → RowsT K H' rs tab
  | _, _, .nil => .nil
  | _, _, .cons h t => .cons (k.sqt hm (fun _ z => by cases z) (fun _ _ z => by cases z) h) (k.rowsT hm t)
theorem sqt_hide {L r : Addr} {H : Hp} {xs vs : List V} (hL : H L = some (.lst vs)) (h : SqT K H r xs) : SqT K (hide L H) r xs := by
  rcases h with (h | ⟨ob, h⟩) | h
  · exact .inl (.inl (by rw [hide_ne (fun z => by rw [z, hL] at h; cases h)]; exact h))
  · exact .inl (.inr ⟨ob, by rw [hide_ne (fun z => by rw [z, hL] at h; cases h)]; exact h⟩)
  · exact .inr h
theorem RowsA.get2 {H : Hp} : ∀ {rs : List Addr} {tab : List (List Int)} {i : Nat}, RowsA K H rs tab → i < rs.length → ∃ r ns, rs[i]? = some r ∧ tab[i]? = some ns ∧ SqA K H r (ns.map V.int)
  | _, _, _, .nil, e => by cases e
  | _, _, 0, .cons h _, _ => ⟨_, _, rfl, rfl, h⟩
  | _, _, i + 1, .cons _ t, e => by
    obtain ⟨r, ns, h1, h2, h3⟩ := t.get2 (i := i) (Nat.lt_of_succ_lt_succ e)
    exact ⟨r, ns, by simpa using h1, by simpa using h2, h3⟩
/-- [tuple(row) for row in table] -/
theorem lc_rows {j : Nat} {σ : L2.St} {H : Hp} {Q : VK} {pt : Addr} {rs : List Addr} {tab : List (List Int)} {te : TE} (he : ∀ Q : VK, Q (.ref pt) H → te σ H Q) (hj : ∀ v : V, ((wipe σ [j]).set j (some v))[j]? = some (some v)) (hn : tab.length < 100000) (hT : SqA K H pt (rs.map V.ref)) (hR : RowsA K H rs tab)
    (h : ∀ L rs2 Hc, H L = none → Ex H Hc → Hc L = some (.lst (rs2.map V.ref)) → RowsT K (hide L Hc) rs2 tab → Q (.ref L) Hc) : iAny K te σ H (lcB (gName j) tYes (tCB (cTupOf K) (tCons (tVar j) tNil)) [j] σ Q) := by
  have rl := hR.len
  have xl : (rs.map V.ref).length = rs.length := List.length_map ..
  have el : ∀ L i Hc, i < (rs.map V.ref).length → H L = none → (∃ vs, Hc L = some (.lst vs)) → Ex H Hc → ∀ N : VK, (∀ v H2, Ex Hc H2 → (∃ (r : Addr) (ns : List Int), v = V.ref r ∧ tab[i]? = some ns ∧ SqT K (hide L H2) r (ns.map V.int)) → N v H2) →
      tCB (cTupOf K) (tCons (tVar j) tNil) ((wipe σ [j]).set j (some ((rs.map V.ref).getD i .non))) Hc N := by
    intro L i Hc hi hL ⟨vs, hv⟩ e N hN
    rw [xl] at hi
    obtain ⟨r, ns, h1, h2, h3⟩ := hR.get2 hi
    have ex : (rs.map V.ref).getD i .non = .ref r := by rw [List.getD_eq_getElem?_getD, List.getElem?_map, h1]; rfl
    rw [ex]
    refine ⟨_, hj _, ?_⟩
    rcases h3.ex e with h3 | h3
    · refine rd_tupL h3 fun l hl => hN _ _ (Evl.Ex.new hl) ⟨l, ns, rfl, h2, ?_⟩
      refine .inl (.inl ?_)
      rw [hide_ne (Ne.symm (ne_of_none hv hl)), upd_same]
    · exact rd_tupT h3 (hN _ _ (Evl.Ex.refl _) ⟨r, ns, rfl, h2, sqt_hide hv h3⟩)
  have fin : ∀ L vs Hc, H L = none → Ex H Hc → Hc L = some (.lst vs) → vs.length = (rs.map V.ref).length → (∀ (i : Nat) v, vs[i]? = some v → ∃ (r : Addr) (ns : List Int), v = V.ref r ∧ tab[i]? = some ns ∧ SqT K (hide L Hc) r (ns.map V.int)) → Q (.ref L) Hc := by
    intro L vs Hc hL e hv hl g
    obtain ⟨rs2, rfl, h2⟩ := RowsT.of (tab := tab) (by rw [hl, xl, rl]) g
    exact h L rs2 Hc hL e hv h2
  have yl : ∀ (i : Nat) (H : Hp) (x : V) (H' : Hp), i < (rs.map V.ref).length → YAt (rs.map V.ref) i H x H' → H' = H ∧ x = (rs.map V.ref).getD i .non := fun i H x H' _ y => ⟨y.1, by rw [List.getD_eq_getElem?_getD, y.2]; rfl⟩
  have mR : ∀ (i : Nat) (v : V) (H1 H2 : Hp), Ex H1 H2 → (∃ (r : Addr) (ns : List Int), v = V.ref r ∧ tab[i]? = some ns ∧ SqT K H1 r (ns.map V.int)) → ∃ (r : Addr) (ns : List Int), v = V.ref r ∧ tab[i]? = some ns ∧ SqT K H2 r (ns.map V.int) := fun i v H1 H2 e ⟨r, ns, a, b, c⟩ => ⟨r, ns, a, b, Evl.ex_t e c⟩
  rcases hT with hT | hT
  · exact rd_anyL he hT (lc_new (fun i v H => ∃ (r : Addr) (ns : List Int), v = V.ref r ∧ tab[i]? = some ns ∧ SqT K H r (ns.map V.int)) walk_list yl (by rw [xl, rl]; exact hn) (fun Hc e => Evl.ex_l e hT) mR el fin)
  · exact rd_anyT he hT (lc_new (fun i v H => ∃ (r : Addr) (ns : List Int), v = V.ref r ∧ tab[i]? = some ns ∧ SqT K H r (ns.map V.int)) walk_tup yl (by rw [xl, rl]; exact hn) (fun Hc e => Evl.ex_t e hT) mR el fin)
theorem ok_Machine_init : FnOk P w K mg base (L2.CX P w) 5 T.a_Machine_init T.d_Machine_init ["self", "letters", "accepting", "table"] (spMInit T) := by
  refine T.f_Machine_init.okX sc_Machine_init (fun vs H Q E h => ?_) (fun cdv A outer s H vs Q E hr h => ?_)
  · obtain ⟨_, _, _, _, _, _, _, _, rfl, _⟩ := h; rfl
  · obtain ⟨m, dx, pa, pt, ls, acc, rs, tab, rfl, l0, l1, hm, hA, hT, hR, hn, qy, qn⟩ := h
    refine ⟨_, (pss_cons (kSf K rfl (ps_fld (pv 0) (pv 1) rfl))
  (pss_cons (kSf K rfl (ps_fld (pv 0) (pe_callTy (CallR.or (kTupOf K) (kTupF K)) (by rfl) T.nb_tuple (by decide +kernel) (pa_cons (pv 2) pa_nil)) rfl))
  (pss_cons (kSf K rfl (ps_fld (pv 0) (pe_callTy (kTupOf K) (by rfl) T.nb_tuple (by decide +kernel) (pa_cons (pe_lc (own := [("row", 4)]) (g := gName 4) (tt := tYes) (by rfl) sc_Machine_init.nd (kAny K rfl (pv 3)) (blkOk_by (own := [("row", 4)]) (N := ["self", "letters", "accepting", "table", "row"]) (sc := defScope s_Machine_init) (by decide +kernel)) (fun _ _ _ _ _ => (pg_name (i := 4) sc_Machine_init.nd rfl (by first | exact Or.inl rfl | exact Or.inr rfl))) (fun _ _ _ _ _ => pts_nil) (fun _ _ _ _ _ => (pe_callTy (kTupOf K) (by rfl) T.nb_tuple (by decide +kernel) (pa_cons (pv 4) pa_nil)))) pa_nil)) rfl))
  (pss_one (ps_expr (pe_methR0 T.m_Machine_check T.cl_Machine (pv 0) (ok_Machine_check T) (hr.mono (by decide)) T.b_Machine_check (takes_of rfl rfl rfl rfl))))))), ?_⟩
    walk_at "rs"
    walk_at "rc"
    refine ⟨m, T.C_Machine, dx, [], rfl, hm, T.cl_Machine, T.na_Machine_letters, by show 0 < 1000; decide, ?_⟩
    have k1 : But m H (upd H m (.ins T.C_Machine dx (putF "letters" (.str ls) []))) := But.of_upd
    generalize hH1 : upd H m (.ins T.C_Machine dx (putF "letters" (.str ls) [])) = H1 at k1
    have m1 : H1 m = some (.ins T.C_Machine dx [("letters", .str ls)]) := by rw [← hH1]; exact upd_same
    walk_at "rs"
    walk_at "rc"
    refine (k1.sqa hm hA).tupF fun ta H2 e2 hta htf => ?_
    have m2 := e2 _ _ m1
    walk_at "rc"
    refine ⟨m, T.C_Machine, dx, _, rfl, m2, T.cl_Machine, T.na_Machine_accepting, by show 1 < 1000; decide, ?_⟩
    have k3 : But m H2 (upd H2 m (.ins T.C_Machine dx (putF "accepting" (.ref ta) [("letters", .str ls)]))) := But.of_upd
    generalize hH3 : upd H2 m (.ins T.C_Machine dx (putF "accepting" (.ref ta) [("letters", .str ls)])) = H3 at k3
    have m3 : H3 m = some (.ins T.C_Machine dx [("letters", .str ls), ("accepting", .ref ta)]) := by rw [← hH3]; exact upd_same
    have ka : But m H H3 := (k1.ex e2).trans k3
    have hta3 : SqT K H3 ta (acc.map V.bl) := k3.sqt m2 (fun _ z => by cases z) (fun _ _ z => by cases z) hta
    walk_at "rs"
    walk_at "rc"
    refine lc_rows (fun Q q => ⟨_, rfl, q⟩) (fun v => rfl) hn (ka.sqa hm hT) (ka.rowsA hm hR) fun L rs2 Hc hL ec hLc hRc => ?_
    walk_at "rc"
    refine rd_tupL (SqL.of hLc) fun tt htt => ?_
    have e5 : Ex Hc (upd Hc tt (.tup (rs2.map V.ref))) := Evl.Ex.new htt
    have hRT := (hRc.ex hide_ex).ex e5
    generalize hH5 : upd Hc tt (.tup (rs2.map V.ref)) = H5 at e5 hRT
    have htt5 : SqT K H5 tt (rs2.map V.ref) := by rw [← hH5]; exact Evl.st_of upd_same
    have m5 := e5 _ _ (ec _ _ m3)
    walk_at "rc"
    refine ⟨m, T.C_Machine, dx, _, rfl, m5, T.cl_Machine, T.na_Machine_table, by show 2 < 1000; decide, ?_⟩
    have k6 : But m H5 (upd H5 m (.ins T.C_Machine dx (putF "table" (.ref tt) [("letters", .str ls), ("accepting", .ref ta)]))) := But.of_upd
    generalize hH6 : upd H5 m (.ins T.C_Machine dx (putF "table" (.ref tt) [("letters", .str ls), ("accepting", .ref ta)])) = H6 at k6
    have m6 : H6 m = some (.ins T.C_Machine dx (mFields ls ta tt)) := by rw [← hH6]; exact upd_same
    have kz : But m H H6 := ((ka.ex ec).ex e5).trans k6
    have ma : MachineAt K T.C_Machine H6 m ls acc tab := ⟨dx, ta, tt, rs2, m6, k6.sqt m5 (fun _ z => by cases z) (fun _ _ z => by cases z) (Evl.ex_t (ec.trans e5) hta3), k6.sqt m5 (fun _ z => by cases z) (fun _ _ z => by cases z) htt5, k6.rowsT m5 hRT⟩
    walk_at "rc"
    refine ⟨m, dx, _, rfl, m6, rfl, ?_⟩
    walk_at "rc"
    refine ⟨m, ls, acc, tab, rfl, l0, l1, ma, fun g => ?_, fun g d hd => ?_⟩
    · refine qy g H6 kz ma fun z => ⟨dx, ta, tt, m6, ?_⟩
      obtain ⟨o, z1, z2⟩ := htf (k1.sql hm (fun _ z => by cases z) (fun _ _ z => by cases z) z)
      have nm : ta ≠ m := fun y => by rw [y, m2] at z1; cases z1
      exact ⟨o, k6 ta _ nm ((ec.trans e5) _ _ (k3 ta _ nm z1)), z2⟩
    · refine qn g d _ (kz.ex (Evl.Ex.new hd)) ?_ upd_same
      cases q0 : H d with
      | none => rfl
      | some o =>
        by_cases hdm : d = m
        · rw [hdm, m6] at hd; cases hd
        · rw [kz d o hdm q0] at hd; cases hd
end
/-! ### states that are led to -/
def nI (n : Nat) : PyData := .int (n : Int)
/-- rows of numbers, in lists or in tuples -/
def RowsN (ds : List PyData) (tab : List (List Nat)) : Prop := ds.length = tab.length ∧ ∀ (i : Nat) d row, ds[i]? = some d → tab[i]? = some row → d = .list (row.map nI) ∨ d = .tuple (row.map nI)
structure Grf (tab : List (List Nat)) : Prop where
  n : tab.length ≤ 1000
  b : ∀ row ∈ tab, ∀ x ∈ row, x < tab.length
inductive Rch (tab : List (List Nat)) (st : List Nat) : Nat → Prop
  | st {s : Nat} : s ∈ st → Rch tab st s
  | go {s t : Nat} : Rch tab st s → t ∈ tab.getD s [] → Rch tab st t
theorem RowsN.get {K : PySem.W.Frag} {H : Hp} {ds : List PyData} {tab : List (List Nat)} {i : Nat} {d : PyData} {v : V} (h : RowsN ds tab) (hd : ds[i]? = some d) (q : Dp K H v d) : ∃ row, tab[i]? = some row ∧ tab.getD i [] = row ∧ SqD K H v (row.map nI) := by
  have hl : i < tab.length := by rw [← h.1]; exact (List.getElem?_eq_some_iff.mp hd).1
  have e : tab[i]? = some tab[i] := List.getElem?_eq_getElem hl
  refine ⟨_, e, by rw [List.getD_eq_getElem?_getD, e]; rfl, ?_⟩
  rcases h.2 i d _ hd e with z | z <;> subst z
  · exact .inl q
  · exact .inr q
theorem rd_ixSq {K : PySem.W.Frag} {H0 H : Hp} {x : V} {ds : List PyData} {i : Nat} {d : PyData} {Q : VK} (e : Ex H0 H) (h : SqD K H0 x ds) (hi : ds[i]? = some d) (q : ∀ v, Dp K H0 v d → Q v H) : rIx K x (.int (i : Int)) H Q := by
  rcases h with h | h
  · exact rd_ixDL e h hi q
  · exact rd_ixDT e h hi q
theorem sq_at {K : PySem.W.Frag} {H0 : Hp} {x : V} {ds : List PyData} {i : Nat} {d : PyData} (h : SqD K H0 x ds) (hi : ds[i]? = some d) : ∃ v, Dp K H0 v d ∧ ∀ H, Ex H0 H → ∀ Q : VK, Q v H → rIx K x (.int (i : Int)) H Q := by
  rcases h with h | h
  · obtain ⟨a, vs, rfl, h1, h2⟩ := Dp.lstv h
    obtain ⟨v, g1, g2⟩ := h2.get hi
    exact ⟨v, g2, fun H e Q q => rd_ixL (Evl.ex_l e h1) (atI_nat g1) q⟩
  · obtain ⟨a, vs, rfl, h1, h2⟩ := Dp.tupv h
    obtain ⟨v, g1, g2⟩ := h2.get hi
    exact ⟨v, g2, fun H e Q q => rd_ixT (Evl.ex_t e h1) (atI_nat g1) q⟩
theorem rd_lenSq {K : PySem.W.Frag} {H0 H : Hp} {x : V} {ds : List PyData} {Q : VK} (e : Ex H0 H) (h : SqD K H0 x ds) (q : Q (.int (ds.length : Int)) H) : cLen K [x] H Q := by
  rcases h with h | h
  · exact rd_lenDL e h q
  · exact rd_lenDT e h q
def vI (n : Nat) : V := .int (n : Int)
theorem dp_nats {K : PySem.W.Frag} {H : Hp} : ∀ {vs : List V} {ss : List Nat}, DpAll K H vs (ss.map nI) → vs = ss.map vI
  | _, [], .nil => rfl
  | _, s :: ss, .cons h t => by
    cases Dp.int_iff h
    rw [dp_nats t]
    rfl
theorem rep_bl (n : Nat) : (List.replicate n [V.bl false]).flatten = (List.replicate n false).map V.bl := by
  induction n with
  | zero => rfl
  | succ n ih =>
    rw [List.replicate_succ, List.flatten_cons, ih, List.replicate_succ]
    rfl
theorem rd_bm0 {K : PySem.W.Frag} {T : String} {r : V → List V → Hp → VK → Prop} {to : TE} {σ : L2.St} {H : Hp} {Q : VK} (h : to σ H fun x H1 => tyV K T x H1 ∧ r x [] H1 Q) : tBM0 K T r to σ H Q := h
/-- what is found, what waits -/
def nT (tab : List (List Nat)) : PyData := .tuple (tab.map fun row => .tuple (row.map nI))
def nL (tab : List (List Nat)) : PyData := .list (tab.map fun row => .list (row.map nI))
theorem rowsN_T (tab : List (List Nat)) : RowsN (tab.map fun row => .tuple (row.map nI)) tab := ⟨List.length_map .., fun i d row h1 h2 => by
  rw [List.getElem?_map, h2] at h1
  exact .inr (Option.some.inj h1).symm⟩
theorem rowsN_L (tab : List (List Nat)) : RowsN (tab.map fun row => .list (row.map nI)) tab := ⟨List.length_map .., fun i d row h1 h2 => by
  rw [List.getElem?_map, h2] at h1
  exact .inl (Option.some.inj h1).symm⟩
theorem getD_set {bk : List (List Nat)} {t : Nat} {r : List Nat} (h : t < bk.length) (u : Nat) : (bk.set t r).getD u [] = if u = t then r else bk.getD u [] := by
  rw [List.getD_eq_getElem?_getD, List.getD_eq_getElem?_getD]
  by_cases e : u = t
  · rw [if_pos e, e, List.getElem?_set_self h]; rfl
  · rw [if_neg e, List.getElem?_set_ne (Ne.symm e)]
/-! ### useful states -/
def MachD (K : PySem.W.Frag) (C : Addr) (H : Hp) (m : Addr) (ls : Str) (acc : List Bool) (tab : List (List Nat)) : Prop := ∃ dx ta tt, H m = some (.ins C dx (mFields ls ta tt)) ∧ Dp K H (.ref ta) (.tuple (acc.map PyData.bool)) ∧ Dp K H (.ref tt) (nT tab)
theorem MachD.ex {C : Addr} {H H' : Hp} {m : Addr} {ls : Str} {acc : List Bool} {tab : List (List Nat)} (h : MachD K C H m ls acc tab) (e : Ex H H') : MachD K C H' m ls acc tab := by
  obtain ⟨dx, ta, tt, h1, h2, h3⟩ := h
  exact ⟨dx, ta, tt, e _ _ h1, h2.ex e, h3.ex e⟩
inductive Lv (acc : List Bool) (tab : List (List Nat)) : Nat → Prop
  | st {s : Nat} : acc[s]? = some true → Lv acc tab s
  | go {s t : Nat} : t ∈ tab.getD s [] → Lv acc tab t → Lv acc tab s
structure GM (acc : List Bool) (tab : List (List Nat)) : Prop where
  p : 0 < acc.length
  e : tab.length = acc.length
  g : Grf tab
  w : ∀ row ∈ tab, row.length ≤ 100
def Usf (acc : List Bool) (tab : List (List Nat)) (s : Nat) : Prop := Rch tab [0] s ∧ Lv acc tab s
theorem Grf.at' {tab : List (List Nat)} (g : Grf tab) {s t : Nat} (h : t ∈ tab.getD s []) : s < tab.length ∧ t < tab.length := by
  rcases Nat.lt_or_ge s tab.length with hs | hs
  · have e : tab.getD s [] = tab[s] := by rw [List.getD_eq_getElem?_getD, List.getElem?_eq_getElem hs]; rfl
    rw [e] at h
    exact ⟨hs, g.b _ (List.getElem_mem hs) t h⟩
  · rw [List.getD_eq_getElem?_getD, List.getElem?_eq_none hs] at h
    cases h
theorem Rch.lt {tab : List (List Nat)} {st : List Nat} (g : Grf tab) (hst : ∀ s ∈ st, s < tab.length) {s : Nat} (h : Rch tab st s) : s < tab.length := by
  cases h with
  | st h => exact hst _ h
  | go _ h => exact (g.at' h).2
theorem Lv.lt {acc : List Bool} {tab : List (List Nat)} (m : GM acc tab) {s : Nat} (h : Lv acc tab s) : s < acc.length := by
  cases h with
  | st h => exact (List.getElem?_eq_some_iff.mp h).1
  | go h _ => rw [← m.e]; exact (m.g.at' h).1
def tabF (n w : Nat) (f : Nat → Nat → Nat) : List (List Nat) := (List.range n).map fun s => (List.range w).map (f s)
theorem tabF_mem {n w : Nat} {f : Nat → Nat → Nat} {s t : Nat} : t ∈ (tabF n w f).getD s [] ↔ s < n ∧ ∃ j, j < w ∧ f s j = t := by
  unfold tabF
  rw [List.getD_eq_getElem?_getD, List.getElem?_map]
  rcases Nat.lt_or_ge s n with h | h
  · rw [List.getElem?_range h]
    show t ∈ (List.range w).map (f s) ↔ _
    rw [List.mem_map]
    exact ⟨fun ⟨j, hj, e⟩ => ⟨h, j, List.mem_range.mp hj, e⟩, fun ⟨_, j, hj, e⟩ => ⟨j, List.mem_range.mpr hj, e⟩⟩
  · rw [List.getElem?_eq_none (by rw [List.length_range]; exact h)]
    exact ⟨fun z => (nomatch z), fun z => absurd z.1 (by omega)⟩
theorem tabF_gm {n w : Nat} {f : Nat → Nat → Nat} {acc : List Bool} (n0 : 0 < n) (n1 : n ≤ 1000) (w1 : w ≤ 100) (h : ∀ s j, s < n → j < w → f s j < n) (ha : acc.length = n) : GM acc (tabF n w f) ∧ ∀ row ∈ tabF n w f, row.length = w := by
  have hl : (tabF n w f).length = n := by unfold tabF; rw [List.length_map, List.length_range]
  have hw : ∀ row ∈ tabF n w f, row.length = w := fun row hr => by
    obtain ⟨s, _, rfl⟩ := List.mem_map.mp hr
    rw [List.length_map, List.length_range]
  refine ⟨⟨by omega, by omega, ⟨by omega, fun row hr x hx => ?_⟩, fun row hr => by rw [hw row hr]; exact w1⟩, hw⟩
  obtain ⟨s, hs, rfl⟩ := List.mem_map.mp hr
  obtain ⟨j, hj, rfl⟩ := List.mem_map.mp hx
  rw [hl]
  exact h s j (List.mem_range.mp hs) (List.mem_range.mp hj)
/-! ### machines out of data -/
def iN (row : List Nat) : List Int := row.map Int.ofNat
theorem dp_iN {H : Hp} {vs : List V} {row : List Nat} (h : DpAll K H vs (row.map nI)) : vs = (iN row).map V.int := by
  rw [dp_nats h]
  unfold iN
  rw [List.map_map]
  rfl
theorem rowsA_D {H : Hp} : ∀ {vs : List V} {tab : List (List Nat)}, DpAll K H vs (tab.map fun row => .list (row.map nI)) → ∃ rs, vs = rs.map V.ref ∧ RowsA K H rs (tab.map iN)
  | _, [], .nil => ⟨[], rfl, .nil⟩
  | _, row :: tab, .cons h t => by
    obtain ⟨rs, rfl, hr⟩ := rowsA_D t
    obtain ⟨a, vs, rfl, h1, h2⟩ := Dp.lstv h
    obtain rfl := dp_iN h2
    exact ⟨a :: rs, rfl, .cons (.inl h1) hr⟩
theorem dp_ofN {H : Hp} : ∀ (row : List Nat), DpAll K H ((iN row).map V.int) (row.map nI)
  | [] => .nil
  | _ :: row => .cons (.int _) (dp_ofN row)
theorem rowsT_D {H : Hp} : ∀ {rs : List Addr} {tab : List (List Nat)}, RowsT K H rs (tab.map iN) → DpAll K H (rs.map V.ref) (tab.map fun row => .tuple (row.map nI))
  | _, [], .nil => .nil
  | _, row :: tab, .cons h t => .cons (.tup h (dp_ofN row)) (rowsT_D t)
theorem MachineAt.D {C : Addr} {H : Hp} {m : Addr} {ls : Str} {acc : List Bool} {tab : List (List Nat)} (h : MachineAt K C H m ls acc (tab.map iN)) : MachD K C H m ls acc tab := by
  obtain ⟨dx, ta, tt, rs, h1, h2, h3, h4⟩ := h
  exact ⟨dx, ta, tt, h1, .tup h2 (dps_bl acc), .tup h3 (rowsT_D h4)⟩
theorem good_N {ls : Str} {acc : List Bool} {tab : List (List Nat)} (g : GM acc tab) (hw : ∀ row ∈ tab, row.length = ls.length) : goodM ls acc (tab.map iN) := by
  have gp := g.p
  refine ⟨by omega, by rw [List.length_map]; exact g.e, fun row hr => ?_⟩
  obtain ⟨r, hr2, rfl⟩ := List.mem_map.mp hr
  refine ⟨by unfold iN; rw [List.length_map]; exact hw r hr2, fun x hx => ?_⟩
  obtain ⟨n, hn, rfl⟩ := List.mem_map.mp hx
  have := g.g.b r hr2 n hn
  have := g.e
  have e : (Int.ofNat n) = (n : Int) := rfl
  rw [e]
  omega
theorem sqa_made {C x dx a : Addr} {H : Hp} (hx : H x = none) (hd : H dx = none) {xs : List V} (h : SqA K H a xs) : SqA K (upd (upd H dx (.own x)) x (.ins C dx [])) a xs :=
  h.ex fun b o q => by rw [upd_ne (ne_of_none q hx), upd_ne (ne_of_none q hd)]; exact q
section
variable (T : Txt K mg)
/-- its accepting, as it was made of a list -/
def MachF (C : Addr) (H : Hp) (m : Addr) (ls : Str) (acc : List Bool) : Prop := ∃ dx ta tt, H m = some (.ins C dx (mFields ls ta tt)) ∧ TupF H ta (acc.map V.bl)
theorem MachF.ex {C : Addr} {H H' : Hp} {m : Addr} {ls : Str} {acc : List Bool} (h : MachF C H m ls acc) (e : Ex H H') : MachF C H' m ls acc := by
  obtain ⟨dx, ta, tt, h1, h2⟩ := h
  exact ⟨dx, ta, tt, e _ _ h1, h2.ex e⟩
theorem made_F {x dx : Addr} {va vt : V} {ls : Str} {acc : List Bool} {tab : List (List Nat)} {H : Hp} {Q : VK} {E : XK} (hx : H x = none) (hdx : H dx = none) (ne : dx ≠ x) (l0 : 0 < ls.length) (l1 : ls.length ≤ 1000) (hA : Dp K H va (.list (acc.map PyData.bool))) (hT : Dp K H vt (nL tab)) (g : GM acc tab) (hw : ∀ row ∈ tab, row.length = ls.length)
    (q : ∀ H', Ex H H' → MachD K T.C_Machine H' x ls acc tab → MachF T.C_Machine H' x ls acc → Q .non H') : spMInit T [.ref x, .str ls, va, vt] (upd (upd H dx (.own x)) x (.ins T.C_Machine dx [])) Q E := by
  obtain ⟨pa, vs, rfl, a1, a2⟩ := Dp.lstv hA
  obtain rfl := dp_bls a2
  obtain ⟨pt, ws, rfl, t1, t2⟩ := Dp.lstv hT
  obtain ⟨rs, rfl, hR⟩ := rowsA_D t2
  have e : Ex H (upd (upd H dx (.own x)) x (.ins T.C_Machine dx [])) := fun b o q => by rw [upd_ne (ne_of_none q hx), upd_ne (ne_of_none q hdx)]; exact q
  have gn := g.g.n
  refine ⟨x, dx, pa, pt, ls, acc, rs, tab.map iN, rfl, l0, by omega, upd_same, SqA.ex (.inl a1) e, SqA.ex (.inl t1) e, hR.ex e, by rw [List.length_map]; omega, fun _ H' k hm hf => ?_, fun z => absurd (good_N g hw) z⟩
  exact q H' (fun b o z => k b o (ne_of_none z hx) (e b o z)) hm.D (hf (Evl.ex_l e a1))
theorem made_D {x dx : Addr} {va vt : V} {ls : Str} {acc : List Bool} {tab : List (List Nat)} {H : Hp} {Q : VK} {E : XK} (hx : H x = none) (hdx : H dx = none) (ne : dx ≠ x) (l0 : 0 < ls.length) (l1 : ls.length ≤ 1000) (hA : Dp K H va (.list (acc.map PyData.bool))) (hT : Dp K H vt (nL tab)) (g : GM acc tab) (hw : ∀ row ∈ tab, row.length = ls.length)
    (q : ∀ H', Ex H H' → MachD K T.C_Machine H' x ls acc tab → Q .non H') : spMInit T [.ref x, .str ls, va, vt] (upd (upd H dx (.own x)) x (.ins T.C_Machine dx [])) Q E :=
  made_F T hx hdx ne l0 l1 hA hT g hw fun H' e m _ => q H' e m
end
section
/-! ### words and their order: the code of a word is its place among all words -/
def cd (w : Nat) (u : List Nat) : Nat := u.foldl (fun a j => w * a + j + 1) 0
theorem cd_nil {w : Nat} : cd w [] = 0 := rfl
theorem cd_snoc (w : Nat) (u : List Nat) (j : Nat) : cd w (u ++ [j]) = w * cd w u + j + 1 := by unfold cd; rw [List.foldl_append]; rfl
def Lw (w : Nat) (u : List Nat) : Prop := ∀ j ∈ u, j < w
theorem Lw.nil {w : Nat} : Lw w [] := fun _ h => nomatch h
theorem Lw.snoc {w : Nat} {u : List Nat} {j : Nat} (h : Lw w u) (hj : j < w) : Lw w (u ++ [j]) := fun x hx => by
  rcases List.mem_append.mp hx with z | z
  · exact h x z
  · rw [List.mem_singleton.mp z]; exact hj
theorem Lw.init {w : Nat} {u : List Nat} {j : Nat} (h : Lw w (u ++ [j])) : Lw w u ∧ j < w := ⟨fun x hx => h x (List.mem_append.mpr (.inl hx)), h j (List.mem_append.mpr (.inr List.mem_cons_self))⟩
theorem mul_lt_of {w a b i : Nat} (h : w * a + i + 1 ≤ w * b) : a < b := by
  rcases Nat.lt_or_ge a b with z | z
  · exact z
  · exact absurd (Nat.mul_le_mul_left w z) (by omega)
/-- words of the same letters by their last letters -/
theorem cd_cmp {w a b i j : Nat} (hi : i < w) (hj : j < w) (h : w * a + i + 1 ≤ w * b + j + 1) : a < b ∨ (a = b ∧ i ≤ j) := by
  rcases Nat.lt_trichotomy a b with z | z | z
  · exact .inl z
  · subst z; exact .inr ⟨rfl, by omega⟩
  · have := Nat.mul_le_mul_left w (show b + 1 ≤ a from z)
    rw [Nat.mul_succ] at this
    omega
theorem snoc_ind {P : List Nat → Prop} (h0 : P []) (hs : ∀ u j, P u → P (u ++ [j])) : ∀ u, P u := by
  intro u
  rw [← List.reverse_reverse u]
  induction u.reverse with
  | nil => exact h0
  | cons x l ih => rw [List.reverse_cons]; exact hs _ x ih
theorem cd_inj {w : Nat} : ∀ {u v : List Nat}, Lw w u → Lw w v → cd w u = cd w v → u = v := by
  intro u
  refine snoc_ind (P := fun u => ∀ {v : List Nat}, Lw w u → Lw w v → cd w u = cd w v → u = v) ?_ ?_ u
  · intro v _ _ e
    rcases List.eq_nil_or_concat v with z | ⟨y, j, z⟩
    · rw [z]
    · rw [z, List.concat_eq_append, cd_snoc] at e
      cases (show (0 : Nat) = _ from e)
  · intro x i ih v hu hv e
    rcases List.eq_nil_or_concat v with z | ⟨y, j, z⟩
    · rw [z, cd_snoc] at e
      cases (show _ = (0 : Nat) from e)
    · rw [List.concat_eq_append] at z
      subst z
      rw [cd_snoc, cd_snoc] at e
      rcases cd_cmp hu.init.2 hv.init.2 (Nat.le_of_eq e) with a | ⟨a, _⟩
      · rcases cd_cmp hv.init.2 hu.init.2 (Nat.le_of_eq e.symm) with b | ⟨b, _⟩ <;> omega
      · rw [a] at e
        rw [ih hu.init.1 hv.init.1 a, show i = j by omega]
/-- a shorter word has a smaller code -/
theorem cd_len {w : Nat} : ∀ {u v : List Nat}, Lw w u → Lw w v → u.length < v.length → cd w u < cd w v := by
  intro u
  refine snoc_ind (P := fun u => ∀ {v : List Nat}, Lw w u → Lw w v → u.length < v.length → cd w u < cd w v) ?_ ?_ u
  · intro v _ _ e
    rcases List.eq_nil_or_concat v with z | ⟨y, j, z⟩
    · rw [z] at e; cases e
    · rw [z, List.concat_eq_append, cd_snoc]; exact Nat.succ_pos _
  · intro x i ih v hu hv e
    rcases List.eq_nil_or_concat v with z | ⟨y, j, z⟩
    · rw [z] at e; cases e
    · rw [List.concat_eq_append] at z
      subst z
      rw [List.length_append, List.length_append] at e
      have h := ih hu.init.1 hv.init.1 (by simpa using e)
      rw [cd_snoc, cd_snoc]
      have := Nat.mul_le_mul_left w (show cd w x + 1 ≤ cd w y from h)
      rw [Nat.mul_succ] at this
      have := hu.init.2
      omega
/-! ### going through all keys in the order of their least words -/
section
variable {κ : Type} {w : Nat} {nx : κ → Nat → κ} {st : κ} {ks : List κ} {ws : List (List Nat)}
structure Bf (w : Nat) (nx : κ → Nat → κ) (st : κ) (ks : List κ) (ws : List (List Nat)) : Prop where
  len : ws.length = ks.length
  hw : ws[0]? = some []
  nd : ks.Nodup
  run : ∀ (i : Nat) u k, ws[i]? = some u → ks[i]? = some k → u.foldl nx st = k
  lw : ∀ (i : Nat) u, ws[i]? = some u → Lw w u
  inc : ∀ (i j : Nat) u v, i < j → ws[i]? = some u → ws[j]? = some v → cd w u < cd w v
  ln : ∀ (i : Nat) u, ws[i]? = some u → u.length ≤ i
/-- every word below B leads to a known key, whose word is not larger -/
def Sn (w : Nat) (nx : κ → Nat → κ) (st : κ) (ks : List κ) (ws : List (List Nat)) (B : Nat) : Prop := ∀ u, Lw w u → cd w u < B → ∃ (i : Nat) (v : List Nat) (k : κ), ws[i]? = some v ∧ ks[i]? = some k ∧ u.foldl nx st = k ∧ cd w v ≤ cd w u
/-- the n-th key is at work, j of its letters are done -/
structure Pg (w : Nat) (nx : κ → Nat → κ) (st : κ) (ks : List κ) (ws : List (List Nat)) (n j : Nat) (u0 : List Nat) (k0 : κ) : Prop where
  b : Bf w nx st ks ws
  hu : ws[n]? = some u0
  hk : ks[n]? = some k0
  top : ∀ (i : Nat) v, ws[i]? = some v → cd w v < w * cd w u0 + j + 1
  sn : Sn w nx st ks ws (w * cd w u0 + j + 1)
theorem getQ {α : Type} {l : List α} {i : Nat} (h : i < l.length) : ∃ a, l[i]? = some a := ⟨l[i], List.getElem?_eq_getElem h⟩
theorem ltQ {α : Type} {l : List α} {i : Nat} {a : α} (h : l[i]? = some a) : i < l.length := (List.getElem?_eq_some_iff.mp h).1
theorem Bf.word (h : Bf w nx st ks ws) {i : Nat} {k : κ} (e : ks[i]? = some k) : ∃ u, ws[i]? = some u := getQ (by rw [h.len]; exact ltQ e)
theorem Bf.init : Bf w nx st [st] [[]] := by
  refine ⟨rfl, rfl, List.nodup_cons.mpr ⟨(fun h => nomatch h), List.nodup_nil⟩, fun i u k h1 h2 => ?_, fun i u h => ?_, fun i j u v hij h1 h2 => ?_, fun i u h => ?_⟩
  · have := ltQ h1
    obtain rfl : i = 0 := by simpa using this
    cases h1; cases h2; rfl
  · have := ltQ h
    obtain rfl : i = 0 := by simpa using this
    cases h; exact Lw.nil
  · have := ltQ h2
    have : j < 1 := this
    omega
  · have := ltQ h
    obtain rfl : i = 0 := by simpa using this
    cases h; exact Nat.le_refl 0
theorem Pg.init : Pg w nx st [st] [[]] 0 0 [] st := by
  refine ⟨Bf.init, rfl, rfl, fun i v h => ?_, fun u hu hc => ?_⟩
  · have := ltQ h
    obtain rfl : i = 0 := by simpa using this
    cases h; exact Nat.succ_pos _
  · have e : cd w u = cd w [] := by rw [cd_nil] at hc ⊢; omega
    have := cd_inj hu Lw.nil e
    subst this
    exact ⟨0, [], st, rfl, rfl, rfl, Nat.le_refl _⟩
theorem run_snoc (u : List Nat) (j : Nat) : (u ++ [j]).foldl nx st = nx (u.foldl nx st) j := by rw [List.foldl_append]; rfl
/-- the key behind the letter is known -/
theorem Pg.old {n j i : Nat} {u0 : List Nat} {k0 : κ} (h : Pg w nx st ks ws n j u0 k0) (hj : j < w) (hi : ks[i]? = some (nx k0 j)) : Pg w nx st ks ws n (j + 1) u0 k0 := by
  refine ⟨h.b, h.hu, h.hk, fun i v e => Nat.lt_succ_of_lt (h.top i v e), fun u hu hc => ?_⟩
  rcases Nat.lt_or_ge (cd w u) (w * cd w u0 + j + 1) with z | z
  · exact h.sn u hu z
  · have e : cd w u = cd w (u0 ++ [j]) := by rw [cd_snoc]; omega
    have eu := cd_inj hu ((h.b.lw n u0 h.hu).snoc hj) e
    subst eu
    obtain ⟨v, hv⟩ := h.b.word hi
    refine ⟨i, v, _, hv, hi, ?_, ?_⟩
    · rw [run_snoc, h.b.run n u0 k0 h.hu h.hk]
    · have := h.top i v hv
      rw [cd_snoc]; omega
theorem app_at {α : Type} {l : List α} {a b : α} {i : Nat} (h : (l ++ [a])[i]? = some b) : l[i]? = some b ∨ (i = l.length ∧ a = b) := by
  rcases Nat.lt_or_ge i l.length with z | z
  · rw [List.getElem?_append_left z] at h; exact .inl h
  · have := ltQ h
    rw [List.length_append, List.length_singleton] at this
    have e : i = l.length := by omega
    subst e
    rw [List.getElem?_append_right (Nat.le_refl _), Nat.sub_self] at h
    exact .inr ⟨rfl, Option.some.inj h⟩
theorem app_l {α : Type} {l : List α} {a b : α} {i : Nat} (h : l[i]? = some b) : (l ++ [a])[i]? = some b := by rw [List.getElem?_append_left (ltQ h)]; exact h
theorem app_r {α : Type} {l : List α} {a : α} : (l ++ [a])[l.length]? = some a := by rw [List.getElem?_append_right (Nat.le_refl _), Nat.sub_self]; rfl
/-- it is new -/
theorem Pg.new {n j : Nat} {u0 : List Nat} {k0 : κ} (h : Pg w nx st ks ws n j u0 k0) (hj : j < w) (hi : nx k0 j ∉ ks) : Pg w nx st (ks ++ [nx k0 j]) (ws ++ [u0 ++ [j]]) n (j + 1) u0 k0 := by
  have hc := cd_snoc w u0 j
  have l0 := (h.b.lw n u0 h.hu).snoc hj
  have r0 : (u0 ++ [j]).foldl nx st = nx k0 j := by rw [run_snoc, h.b.run n u0 k0 h.hu h.hk]
  have b : Bf w nx st (ks ++ [nx k0 j]) (ws ++ [u0 ++ [j]]) := by
    refine ⟨by simp [h.b.len], app_l h.b.hw, List.nodup_append.mpr ⟨h.b.nd, List.nodup_cons.mpr ⟨(fun h => nomatch h), List.nodup_nil⟩, fun a ha b hb e => hi (by rw [← List.mem_singleton.mp hb, ← e]; exact ha)⟩, fun i u k h1 h2 => ?_, fun i u h1 => ?_, fun i i' u v hii h1 h2 => ?_, fun i u h1 => ?_⟩
    · rcases app_at h1 with a | ⟨a, a'⟩
      · rcases app_at h2 with c | ⟨c, _⟩
        · exact h.b.run i u k a c
        · have := ltQ a; rw [h.b.len] at this; omega
      · rcases app_at h2 with c | ⟨_, c⟩
        · have := ltQ c; rw [← h.b.len] at this; omega
        · rw [← a', ← c]; exact r0
    · rcases app_at h1 with a | ⟨_, a⟩
      · exact h.b.lw i u a
      · rw [← a]; exact l0
    · rcases app_at h2 with c | ⟨c, c'⟩
      · rcases app_at h1 with a | ⟨a, _⟩
        · exact h.b.inc i i' u v hii a c
        · have := ltQ c; omega
      · rcases app_at h1 with a | ⟨a, _⟩
        · have := h.top i u a
          rw [← c', hc]; exact this
        · omega
    · rcases app_at h1 with a | ⟨a, a'⟩
      · exact h.b.ln i u a
      · have := h.b.ln n u0 h.hu
        have := ltQ h.hu
        rw [← a', List.length_append, List.length_singleton]; omega
  refine ⟨b, app_l h.hu, app_l h.hk, fun i v e => ?_, fun u hu hcu => ?_⟩
  · rcases app_at e with a | ⟨_, a⟩
    · exact Nat.lt_succ_of_lt (h.top i v a)
    · rw [← a, hc]; omega
  · rcases Nat.lt_or_ge (cd w u) (w * cd w u0 + j + 1) with z | z
    · obtain ⟨i, v, k, h1, h2, h3, h4⟩ := h.sn u hu z
      exact ⟨i, v, k, app_l h1, app_l h2, h3, h4⟩
    · have eu := cd_inj hu l0 (by rw [hc]; omega)
      subst eu
      exact ⟨ws.length, _, _, app_r, by rw [h.b.len]; exact app_r, r0, Nat.le_refl _⟩
/-- what is known once all letters of the n-th key are done: all words below the next key's -/
theorem Pg.all {n : Nat} {u0 : List Nat} {k0 : κ} (h : Pg w nx st ks ws n w u0 k0) (w0 : 0 < w) {c : Nat} (hc : ∀ (i : Nat) v, n < i → ws[i]? = some v → c ≤ cd w v) : Sn w nx st ks ws (w * c + 1) := by
  intro u
  refine snoc_ind (P := fun u => Lw w u → cd w u < w * c + 1 → ∃ (i : Nat) (v : List Nat) (k : κ), ws[i]? = some v ∧ ks[i]? = some k ∧ u.foldl nx st = k ∧ cd w v ≤ cd w u) ?_ ?_ u
  · intro hl _
    obtain ⟨k, hk⟩ := getQ (l := ks) (i := 0) (by rw [← h.b.len]; exact ltQ h.b.hw)
    exact ⟨0, [], k, h.b.hw, hk, h.b.run 0 [] k h.b.hw hk, Nat.le_refl _⟩
  · intro x j ih hl hcu
    obtain ⟨hx, hj⟩ := hl.init
    rw [cd_snoc] at hcu ⊢
    have xc : cd w x < c := mul_lt_of (i := j) (w := w) (by omega)
    have xw : c ≤ w * c := Nat.le_mul_of_pos_left c w0
    obtain ⟨i, v, k, h1, h2, h3, h4⟩ := ih hx (by omega)
    have hin : i ≤ n := by
      rcases Nat.lt_or_ge n i with z | z
      · have := hc i v z h1; omega
      · exact z
    have hv0 : cd w v ≤ cd w u0 := by
      rcases Nat.lt_or_ge i n with z | z
      · exact Nat.le_of_lt (h.b.inc i n v u0 z h1 h.hu)
      · have e : i = n := by omega
        subst e
        rw [h.hu] at h1; cases h1; exact Nat.le_refl _
    have m1 := Nat.mul_le_mul_left w hv0
    have m2 := Nat.mul_le_mul_left w h4
    obtain ⟨i', v', k', g1, g2, g3, g4⟩ := h.sn (v ++ [j]) ((h.b.lw i v h1).snoc hj) (by rw [cd_snoc]; omega)
    refine ⟨i', v', k', g1, g2, ?_, ?_⟩
    · rw [run_snoc, h3, ← g3, run_snoc, h.b.run i v k h1 h2]
    · rw [cd_snoc] at g4; omega
theorem Pg.next {n : Nat} {u0 : List Nat} {k0 : κ} (h : Pg w nx st ks ws n w u0 k0) (w0 : 0 < w) {k1 : κ} (hk : ks[n + 1]? = some k1) : ∃ u1, Pg w nx st ks ws (n + 1) 0 u1 k1 := by
  obtain ⟨u1, hu⟩ := h.b.word hk
  have i01 := h.b.inc n (n + 1) u0 u1 (Nat.lt_succ_self n) h.hu hu
  refine ⟨u1, h.b, hu, hk, fun i v e => ?_, ?_⟩
  · have := h.top i v e
    have := Nat.mul_le_mul_left w (show cd w u0 + 1 ≤ cd w u1 from i01)
    rw [Nat.mul_succ] at this
    omega
  · refine h.all w0 fun i v hi hv => ?_
    rcases Nat.lt_or_ge (n + 1) i with z | z
    · exact Nat.le_of_lt (h.b.inc (n + 1) i u1 v z hu hv)
    · have e : i = n + 1 := by omega
      subst e
      rw [hu] at hv; cases hv; exact Nat.le_refl _
/-- the least word that leads to an accepting key, below a bound of its length -/
def Lst (w : Nat) (nx : κ → Nat → κ) (st : κ) (acc : κ → Bool) (m : Nat) : Option (List Nat) → Prop
  | none => ∀ u, Lw w u → acc (u.foldl nx st) = false
  | some u => Lw w u ∧ acc (u.foldl nx st) = true ∧ u.length < m ∧ ∀ v, Lw w v → cd w v < cd w u → acc (v.foldl nx st) = false
theorem Pg.found {n m : Nat} {u0 : List Nat} {k0 : κ} {acc : κ → Bool} (h : Pg w nx st ks ws n 0 u0 k0) (w0 : 0 < w) (hm : ks.length ≤ m) (no : ∀ (i : Nat) k, i < n → ks[i]? = some k → acc k = false) (yes : acc k0 = true) : Lst w nx st acc m (some u0) := by
  refine ⟨h.b.lw n u0 h.hu, by rw [h.b.run n u0 k0 h.hu h.hk]; exact yes, ?_, fun v hv hc => ?_⟩
  · have := h.b.ln n u0 h.hu
    have := ltQ h.hk
    omega
  · have : cd w u0 ≤ w * cd w u0 := Nat.le_mul_of_pos_left _ w0
    obtain ⟨i, x, k, h1, h2, h3, h4⟩ := h.sn v hv (by omega)
    rw [h3]
    refine no i k ?_ h2
    rcases Nat.lt_or_ge i n with z | z
    · exact z
    · rcases Nat.lt_or_ge n i with y | y
      · have := h.b.inc n i u0 x y h.hu h1; omega
      · have e : i = n := by omega
        subst e
        rw [h.hu] at h1; cases h1; omega
theorem Pg.none {n m : Nat} {u0 : List Nat} {k0 : κ} {acc : κ → Bool} (h : Pg w nx st ks ws n w u0 k0) (w0 : 0 < w) (hn : n + 1 = ks.length) (no : ∀ (i : Nat) k, i < n + 1 → ks[i]? = some k → acc k = false) : Lst w nx st acc m none := by
  intro u hu
  have hs := h.all w0 (c := cd w u + 1) fun i v hi hv => by
    have := ltQ hv
    rw [h.b.len] at this; omega
  have : cd w u + 1 ≤ w * (cd w u + 1) := Nat.le_mul_of_pos_left _ w0
  obtain ⟨i, v, k, h1, h2, h3, _⟩ := hs u hu (by omega)
  rw [h3]
  exact no i k (by rw [hn]; exact ltQ h2) h2
/-- the keys lie in a finite set -/
theorem nodup_leK {α : Type} [BEq α] [LawfulBEq α] : ∀ (l m : List α), l.Nodup → (∀ c ∈ l, c ∈ m) → l.length ≤ m.length
  | [], _, _, _ => Nat.zero_le _
  | x :: l, m, nd, h => by
    have hx := h x List.mem_cons_self
    have nd' := List.nodup_cons.mp nd
    have := nodup_leK l (m.erase x) nd'.2 fun c hc => (List.mem_erase_of_ne fun (e : c = x) => nd'.1 (by rw [← e]; exact hc)).mpr (h c (List.mem_cons_of_mem _ hc))
    rw [List.length_erase_of_mem hx] at this
    have := List.length_pos_of_mem hx
    rw [List.length_cons]; omega
end
/-! ### all words of few letters, in order -/
def lvW (w : Nat) : Nat → List (List Nat)
  | 0 => [[]]
  | n + 1 => (lvW w n).flatMap fun u => (List.range w).map fun j => u ++ [j]
def rowsW (w : Nat) : Nat → List (List Nat)
  | 0 => [[]]
  | n + 1 => rowsW w n ++ lvW w (n + 1)
theorem mem_lvW {w : Nat} : ∀ {n : Nat} {u : List Nat}, u ∈ lvW w n ↔ Lw w u ∧ u.length = n
  | 0, u => by
    show u ∈ [[]] ↔ _
    rw [List.mem_singleton]
    exact ⟨fun e => by subst e; exact ⟨Lw.nil, rfl⟩, fun h => List.eq_nil_of_length_eq_zero h.2⟩
  | n + 1, u => by
    show u ∈ (lvW w n).flatMap _ ↔ _
    rw [List.mem_flatMap]
    constructor
    · rintro ⟨x, hx, hu⟩
      obtain ⟨j, hj, rfl⟩ := List.mem_map.mp hu
      obtain ⟨h1, h2⟩ := mem_lvW.mp hx
      exact ⟨h1.snoc (List.mem_range.mp hj), by rw [List.length_append, h2]; rfl⟩
    · rintro ⟨h1, h2⟩
      rcases List.eq_nil_or_concat u with z | ⟨y, j, z⟩
      · rw [z] at h2; cases h2
      · rw [List.concat_eq_append] at z
        subst z
        rw [List.length_append] at h2
        exact ⟨y, mem_lvW.mpr ⟨h1.init.1, by simpa using h2⟩, List.mem_map.mpr ⟨j, List.mem_range.mpr h1.init.2, rfl⟩⟩
theorem mem_rowsW {w : Nat} : ∀ {n : Nat} {u : List Nat}, u ∈ rowsW w n ↔ Lw w u ∧ u.length ≤ n
  | 0, u => by
    show u ∈ lvW w 0 ↔ _
    rw [mem_lvW]
    exact ⟨fun h => ⟨h.1, Nat.le_of_eq h.2⟩, fun h => ⟨h.1, Nat.le_zero.mp h.2⟩⟩
  | n + 1, u => by
    show u ∈ rowsW w n ++ lvW w (n + 1) ↔ _
    rw [List.mem_append, mem_rowsW, mem_lvW]
    constructor
    · rintro (h | h)
      · exact ⟨h.1, Nat.le_succ_of_le h.2⟩
      · exact ⟨h.1, Nat.le_of_eq h.2⟩
    · rintro ⟨h1, h2⟩
      rcases Nat.lt_or_ge u.length (n + 1) with z | z
      · exact .inl ⟨h1, Nat.le_of_lt_succ z⟩
      · exact .inr ⟨h1, Nat.le_antisymm h2 z⟩
theorem pw_flat {α : Type} {R : List Nat → List Nat → Prop} {f : α → List (List Nat)} : ∀ {l : List α}, (∀ a ∈ l, (f a).Pairwise R) → l.Pairwise (fun a b => ∀ x ∈ f a, ∀ y ∈ f b, R x y) → (l.flatMap f).Pairwise R
  | [], _, _ => List.Pairwise.nil
  | a :: l, h1, h2 => by
    rw [List.flatMap_cons]
    obtain ⟨p1, p2⟩ := List.pairwise_cons.mp h2
    refine List.pairwise_append.mpr ⟨h1 a List.mem_cons_self, pw_flat (fun b hb => h1 b (List.mem_cons_of_mem _ hb)) p2, fun x hx y hy => ?_⟩
    obtain ⟨b, hb, hyb⟩ := List.mem_flatMap.mp hy
    exact p1 b hb x hx y hyb
theorem pw_lvW {w : Nat} : ∀ n : Nat, (lvW w n).Pairwise fun u v => cd w u < cd w v
  | 0 => List.pairwise_singleton _ _
  | n + 1 => by
    refine pw_flat (fun a ha => ?_) ?_
    · rw [List.pairwise_map]
      refine List.Pairwise.imp (fun {i j} h => ?_) List.pairwise_lt_range
      rw [cd_snoc, cd_snoc]; omega
    · refine List.Pairwise.imp (fun {a b} h x hx y hy => ?_) (pw_lvW n)
      obtain ⟨i, hi, rfl⟩ := List.mem_map.mp hx
      obtain ⟨j, hj, rfl⟩ := List.mem_map.mp hy
      rw [cd_snoc, cd_snoc]
      have := Nat.mul_le_mul_left w (show cd w a + 1 ≤ cd w b from h)
      rw [Nat.mul_succ] at this
      have := List.mem_range.mp hi
      omega
theorem pw_rowsW {w : Nat} : ∀ n : Nat, (rowsW w n).Pairwise fun u v => cd w u < cd w v
  | 0 => List.pairwise_singleton _ _
  | n + 1 => List.pairwise_append.mpr ⟨pw_rowsW n, pw_lvW (n + 1), fun u hu v hv => by
    obtain ⟨h1, h2⟩ := mem_rowsW.mp hu
    obtain ⟨h3, h4⟩ := mem_lvW.mp hv
    exact cd_len h1 h3 (by omega)⟩
/-- the first one of an ordered list that has a property -/
theorem find_least {α : Type} {R : α → α → Prop} {p : α → Bool} {a : α} : ∀ {l : List α}, l.Pairwise R → a ∈ l → p a = true → (∀ b, R b a → p b = false) → l.find? p = some a
  | b :: l, h, ha, hp, hn => by
    obtain ⟨h1, h2⟩ := List.pairwise_cons.mp h
    rcases List.mem_cons.mp ha with e | hm
    · subst e
      exact List.find?_cons_of_pos hp
    · rw [List.find?_cons_of_neg (by rw [hn b (h1 a hm)]; exact Bool.false_ne_true)]
      exact find_least h2 hm hp hn
theorem Lst.find {κ : Type} {w : Nat} {nx : κ → Nat → κ} {st : κ} {acc : κ → Bool} {m n : Nat} {r : Option (List Nat)} (h : Lst w nx st acc m r) (hm : m ≤ n + 1) : (rowsW w n).find? (fun u => acc (u.foldl nx st)) = r := by
  cases r with
  | none => exact List.find?_eq_none.mpr fun u hu => by rw [h u (mem_rowsW.mp hu).1]; exact Bool.false_ne_true
  | some u =>
    obtain ⟨h1, h2, h3, h4⟩ := h
    refine find_least_w h1 h2 h3 h4 hm
where
  find_least_w {κ : Type} {w : Nat} {nx : κ → Nat → κ} {st : κ} {acc : κ → Bool} {m n : Nat} {u : List Nat} (h1 : Lw w u) (h2 : acc (u.foldl nx st) = true) (h3 : u.length < m) (h4 : ∀ v, Lw w v → cd w v < cd w u → acc (v.foldl nx st) = false) (hm : m ≤ n + 1) : (rowsW w n).find? (fun u => acc (u.foldl nx st)) = some u := by
    refine find_least (R := fun a b => cd w a < cd w b ∧ Lw w a) ?_ (mem_rowsW.mpr ⟨h1, by omega⟩) h2 fun b hb => h4 b hb.2 hb.1
    have := pw_rowsW (w := w) n
    refine List.Pairwise.imp_of_mem (fun {a b} ha hb h => ⟨h, (mem_rowsW.mp ha).1⟩) this
end
section
/-! ### keys: a number, or a tuple of numbers -/
inductive KE where
  | i (n : Nat) | t (l : List Nat)
  deriving DecidableEq
def isI : KE → Bool
  | .i _ => true
  | .t _ => false
def KeyV (H : Hp) (v : V) : KE → Prop
  | .i n => v = .int (n : Int)
  | .t l => ∃ b, v = .ref b ∧ H b = some (.tup (l.map vI))
theorem KeyV.ex {H H' : Hp} {v : V} {k : KE} (h : KeyV H v k) (e : ∀ b xs, H b = some (.tup xs) → H' b = some (.tup xs)) : KeyV H' v k := by
  cases k with
  | i n => exact h
  | t l =>
    obtain ⟨b, rfl, hb⟩ := h
    exact ⟨b, rfl, e b _ hb⟩
abbrev kT (l : List Nat) : List L2.Key := l.map fun n : Nat => (Sum.inl (n : Int) : L2.Key)
theorem kT_kV (l : List Nat) : (kT l).map kV = l.map vI := by rw [List.map_map]; rfl
theorem kT_inj : ∀ {l m : List Nat}, kT l = kT m → l = m
  | [], [], _ => rfl
  | [], _ :: _, h => nomatch h
  | _ :: _, [], h => nomatch h
  | a :: l, b :: m, h => by
    have h : (.inl (a : Int) : L2.Key) :: kT l = .inl (b : Int) :: kT m := h
    injection h with h1 h2
    injection h1 with h1
    rw [Int.ofNat.inj h1, kT_inj h2]
/-- a dict of keys, each with what its place says -/
inductive DM (H : Hp) (d : Addr) (ks : List KE) (val : Nat → V) : Prop
  | i (kvs : List (L2.Key × V)) (h : H d = some (.dK kvs)) (l : kvs.length ≤ ks.length) (v : ∀ n : Nat, valV kvs (.inl (n : Int)) = if KE.i n ∈ ks then some (val (ks.idxOf (KE.i n))) else none) (o : ∀ k ∈ ks, isI k = true)
  | t (kvs : List (List L2.Key × V)) (h : H d = some (.dT kvs)) (l : kvs.length ≤ ks.length) (v : ∀ l : List Nat, valV kvs (kT l) = if KE.t l ∈ ks then some (val (ks.idxOf (KE.t l))) else none) (o : ∀ k ∈ ks, isI k = false)
section
variable {H H' : Hp} {d : Addr} {ks : List KE} {val : Nat → V} {k : KE} {v x : V}
theorem DM.obj (h : DM H d ks val) : ∃ o, H d = some o ∧ ((∃ a, o = .dK a) ∨ ∃ a, o = .dT a) := by
  cases h with
  | i kvs h => exact ⟨_, h, .inl ⟨_, rfl⟩⟩
  | t kvs h => exact ⟨_, h, .inr ⟨_, rfl⟩⟩
theorem DM.ex (h : DM H d ks val) (e : H' d = H d) : DM H' d ks val := by
  cases h with
  | i kvs h l v o => exact .i kvs (e.trans h) l v o
  | t kvs h l v o => exact .t kvs (e.trans h) l v o
theorem DM.get (h : DM H d ks val) (hv : KeyV H x k) (hk : ∀ k' ∈ ks, isI k' = isI k) (ne : ks ≠ []) : DGet H d x (if k ∈ ks then some (val (ks.idxOf k)) else none) := by
  obtain ⟨k0, hk0⟩ := List.exists_mem_of_ne_nil ks ne
  cases h with
  | i kvs h l w o =>
    cases k with
    | i n =>
      obtain rfl : x = .int (n : Int) := hv
      rw [← w n]
      exact DGet.k (k := .inl (n : Int)) h
    | t m =>
      have := hk k0 hk0
      rw [o k0 hk0] at this
      cases this
  | t kvs h l w o =>
    cases k with
    | i n =>
      have := hk k0 hk0
      rw [o k0 hk0] at this
      cases this
    | t m =>
      obtain ⟨b, rfl, hb⟩ := hv
      rw [← w m]
      exact DGet.t (k := kT m) h (by rw [kT_kV]; exact hb)
theorem idx_app_old {α : Type} [BEq α] [LawfulBEq α] {l : List α} {a b : α} (h : a ∈ l) : (l ++ [b]).idxOf a = l.idxOf a := by rw [List.idxOf_append, if_pos h]
theorem idx_app_new {α : Type} [BEq α] [LawfulBEq α] {l : List α} {a : α} (h : a ∉ l) : (l ++ [a]).idxOf a = l.length := by
  rw [List.idxOf_append, if_neg h]; simp
theorem DM.put (h : DM H d ks val) (hv : KeyV H x k) (hk : ∀ k' ∈ ks, isI k' = isI k) (ne : ks ≠ []) (no : k ∉ ks) (hl : ks.length < 1000000) : ∃ o, DPut H d x (val ks.length) (upd H d o) ∧ DM (upd H d o) d (ks ++ [k]) val ∧ ((∃ a, o = .dK a) ∨ ∃ a, o = .dT a) := by
  obtain ⟨k0, hk0⟩ := List.exists_mem_of_ne_nil ks ne
  have sl : 1000000 ≤ sizeLine := by decide
  cases h with
  | i kvs h l w o =>
    cases k with
    | i n =>
      obtain rfl : x = .int (n : Int) := hv
      refine ⟨_, DPut.k (k := .inl (n : Int)) h (by omega), .i _ upd_same ?_ (fun m => ?_) fun k' hk' => ?_, .inl ⟨_, rfl⟩⟩
      · have := length_putK kvs (.inl (n : Int) : L2.Key) (val ks.length)
        rw [List.length_append, List.length_singleton]; omega
      · rw [valV_put]
        by_cases e : m = n
        · subst e
          rw [if_pos rfl, if_pos (List.mem_append.mpr (.inr List.mem_cons_self)), idx_app_new no]
        · have e2 : (.inl (m : Int) : L2.Key) ≠ .inl (n : Int) := fun z => e (Int.ofNat.inj (Sum.inl.inj z))
          have e3 : (KE.i m ∈ ks ++ [KE.i n]) ↔ KE.i m ∈ ks := by
            rw [List.mem_append, List.mem_singleton]
            exact ⟨fun z => z.resolve_right fun y => e (KE.i.inj y), .inl⟩
          rw [if_neg e2, w m]
          by_cases hm : KE.i m ∈ ks
          · rw [if_pos hm, if_pos (e3.mpr hm), idx_app_old hm]
          · rw [if_neg hm, if_neg fun z => hm (e3.mp z)]
      · rcases List.mem_append.mp hk' with z | z
        · exact o k' z
        · rw [List.mem_singleton.mp z]; rfl
    | t m =>
      have := hk k0 hk0
      rw [o k0 hk0] at this
      cases this
  | t kvs h l w o =>
    cases k with
    | i n =>
      have := hk k0 hk0
      rw [o k0 hk0] at this
      cases this
    | t n =>
      obtain ⟨b, rfl, hb⟩ := hv
      refine ⟨_, DPut.t (k := kT n) h (by rw [kT_kV]; exact hb) (by omega), .t _ upd_same ?_ (fun m => ?_) fun k' hk' => ?_, .inr ⟨_, rfl⟩⟩
      · have := length_putK kvs (kT n) (val ks.length)
        rw [List.length_append, List.length_singleton]; omega
      · rw [valV_put]
        by_cases e : m = n
        · subst e
          rw [if_pos rfl, if_pos (List.mem_append.mpr (.inr List.mem_cons_self)), idx_app_new no]
        · have e2 : kT m ≠ kT n := fun z => e (kT_inj z)
          have e3 : (KE.t m ∈ ks ++ [KE.t n]) ↔ KE.t m ∈ ks := by
            rw [List.mem_append, List.mem_singleton]
            exact ⟨fun z => z.resolve_right fun y => e (KE.t.inj y), .inl⟩
          rw [if_neg e2, w m]
          by_cases hm : KE.t m ∈ ks
          · rw [if_pos hm, if_pos (e3.mpr hm), idx_app_old hm]
          · rw [if_neg hm, if_neg fun z => hm (e3.mp z)]
      · rcases List.mem_append.mp hk' with z | z
        · exact o k' z
        · rw [List.mem_singleton.mp z]; rfl
end
/-- {start: x} -/
theorem dm_start {tk tv : TE} {σ : L2.St} {H : Hp} {Q : VK} {kv x : V} {k : KE} (hk : ∀ H' Q, Q kv H' → tk σ H' Q) (hv : ∀ H' Q, Q x H' → tv σ H' Q) (hkv : KeyV H kv k) (q : ∀ d o, H d = none → DM (upd H d o) d [k] (fun _ => x) → ((∃ a, o = .dK a) ∨ ∃ a, o = .dT a) → Q (.ref d) (upd H d o)) :
    tDisp [(tk, tv)] σ H Q ∨ tDisp1T tk tv σ H Q := by
  cases k with
  | i n =>
    obtain rfl : kv = .int (n : Int) := hkv
    refine .inl fun p hp => hk _ _ (hv _ _ ⟨upd_same, [(.inl (n : Int), x)], rfl, by show 1 ≤ 15; decide, ?_⟩)
    rw [upd_upd]
    refine q p _ hp (.i _ upd_same (Nat.le_refl _) (fun m => ?_) fun k' hk' => by rw [List.mem_singleton.mp hk']; rfl) (.inl ⟨_, rfl⟩)
    by_cases e : m = n
    · subst e; simp [valV, mergeK, putK]
    · have e2 : ¬ ((n : Int) = (m : Int)) := fun z => e (Int.ofNat.inj z).symm
      simp [valV, mergeK, putK, e, e2]
  | t l =>
    obtain ⟨b, rfl, hb⟩ := hkv
    refine .inr fun p hp => hk _ _ (hv _ _ ⟨upd_same, b, kT l, rfl, by rw [upd_ne (ne_of_none hb hp), kT_kV]; exact hb, ?_⟩)
    rw [upd_upd]
    refine q p _ hp (.t _ upd_same (Nat.le_refl _) (fun m => ?_) fun k' hk' => by rw [List.mem_singleton.mp hk']; rfl) (.inr ⟨_, rfl⟩)
    by_cases e : m = l
    · subst e; simp [valV]
    · have e2 : ¬ (kT l = kT m) := fun z => e (kT_inj z).symm
      have e3 : ¬ KE.t m ∈ [KE.t l] := fun z => e (KE.t.inj (List.mem_singleton.mp z))
      rw [if_neg e3]
      unfold valV
      rw [List.find?_cons_of_neg (by simpa using e2)]
      rfl
end
section
/-! ### the text of a word -/
def tx (ls : Str) (u : List Nat) : Str := ⟨(u.map fun j => ls.cps.toList.getD j 0).toArray⟩
theorem tx_list (ls : Str) (u : List Nat) : (tx ls u).cps.toList = u.map fun j => ls.cps.toList.getD j 0 := by
  show (u.map _).toArray.toList = _
  rw [List.toList_toArray]
theorem str_ext {a b : Str} (h : a.cps.toList = b.cps.toList) : a = b := by
  obtain ⟨a⟩ := a
  obtain ⟨b⟩ := b
  have h : a.toList = b.toList := h
  rw [Array.toList_inj.mp h]
theorem tx_snoc (ls : Str) (u : List Nat) (j : Nat) : tx ls (u ++ [j]) = tx ls u ++ (⟨#[ls.cps.toList.getD j 0]⟩ : Str) := by
  refine str_ext ?_
  have e := TL.tl_append (tx ls u) (⟨#[ls.cps.toList.getD j 0]⟩ : Str)
  have e2 : TL.tl (tx ls u) = u.map fun j => ls.cps.toList.getD j 0 := tx_list ls u
  rw [e2] at e
  rw [tx_list, List.map_append]
  exact e.symm
theorem tx_len (ls : Str) (u : List Nat) : (tx ls u).length = u.length := by
  rw [TL.len_tl]
  show (tx ls u).cps.toList.length = _
  rw [tx_list, List.length_map]
/-! ### the way back to the first key -/
def sg (c : Nat) : Str := ⟨#[c]⟩
/-- origins: of each key the place of the one before it and the letter between -/
def Org (H : Hp) (ls : Str) (os : List V) (ws : List (List Nat)) : Prop := os.length = ws.length ∧ ∀ (i : Nat) u, ws[i]? = some u → ∃ (b : Addr) (p : Nat) (t : Str), os[i]? = some (.ref b) ∧ H b = some (.tup [.int (p : Int), .str t]) ∧ (i = 0 → u = []) ∧
  (0 < i → p < i ∧ ∃ u' j, ws[p]? = some u' ∧ u = u' ++ [j] ∧ t = sg (ls.cps.toList.getD j 0))
theorem Org.ex {H H' : Hp} {ls : Str} {os : List V} {ws : List (List Nat)} (h : Org H ls os ws) (e : ∀ b xs, H b = some (.tup xs) → H' b = some (.tup xs)) : Org H' ls os ws :=
  ⟨h.1, fun i u hu => let ⟨b, p, t, h1, h2, h3⟩ := h.2 i u hu; ⟨b, p, t, h1, e b _ h2, h3⟩⟩
theorem Org.snoc {H : Hp} {ls : Str} {os : List V} {ws : List (List Nat)} {b : Addr} {n j : Nat} {u0 : List Nat} (h : Org H ls os ws) (hn : ws[n]? = some u0) (hb : H b = some (.tup [.int (n : Int), .str (sg (ls.cps.toList.getD j 0))])) : Org H ls (os ++ [.ref b]) (ws ++ [u0 ++ [j]]) := by
  refine ⟨by simp [h.1], fun i u hu => ?_⟩
  rcases app_at hu with z | ⟨z, z'⟩
  · obtain ⟨b', p, t, h1, h2, h3, h4⟩ := h.2 i u z
    exact ⟨b', p, t, app_l h1, h2, h3, fun i0 => let ⟨a, u', j', a1, a2⟩ := h4 i0; ⟨a, u', j', app_l a1, a2⟩⟩
  · subst z z'
    have l := ltQ hn
    exact ⟨b, n, _, by rw [← h.1]; exact app_r, hb, fun z => absurd z (by omega), fun _ => ⟨l, u0, j, app_l hn, rfl, rfl⟩⟩
theorem joinL_nil : ∀ l : List (List Nat), TL.joinL [] l = l.flatten
  | [] => rfl
  | [p] => by simp [TL.joinL]
  | p :: q :: r => by
    show p ++ ([] ++ TL.joinL [] (q :: r)) = _
    rw [joinL_nil (q :: r), List.nil_append]
    rfl
theorem join_nil (ss : List Str) : (Txt.join "" ss).cps.toList = (ss.map fun s => s.cps.toList).flatten := by
  have e := congrArg TL.tl (TL.join_eq "" ss)
  rw [TL.tl_join] at e
  have e2 : TL.tl ("" : Str) = [] := rfl
  rw [e2, joinL_nil] at e
  exact e
theorem sum_ones : ∀ {ss : List Str}, (∀ s ∈ ss, s.length = 1) → (ss.map (·.length)).sum = ss.length
  | [], _ => rfl
  | s :: ss, h => by
    rw [List.map_cons, List.sum_cons, h s List.mem_cons_self, sum_ones fun x hx => h x (List.mem_cons_of_mem _ hx), List.length_cons]; omega
def spTextTo : Sp := fun vs H Q _ => ∃ (L : Addr) (n : Nat) (ls : Str) (os : List V) (ws : List (List Nat)) (u : List Nat), vs = [.ref L, .int (n : Int)] ∧ H L = some (.lst os) ∧ Org H ls os ws ∧ ws[n]? = some u ∧ n < 100000 ∧ ∀ H', Ex H H' → Q (.str (tx ls u)) H'
theorem ok__text_to (T : Txt K mg) : FnOk P w K mg base CX0 1 T.a__text_to T.d__text_to ["origins", "number"] spTextTo := by
  refine T.f__text_to.ok sc__text_to (fun vs H Q E h => ?_) (fun cdv A outer s H vs Q E hr h => ?_)
  · obtain ⟨_, _, _, _, _, _, rfl, _⟩ := h; rfl
  · obtain ⟨L, n, ls, os, ws, u, rfl, hL, hO, hu, hn, q⟩ := h
    refine ⟨_, (pss_cons (ps_set (i := 2) sc__text_to.nd rfl (by first | exact Or.inl rfl | exact Or.inr rfl) (pe_lst pa_nil))
  (pss_cons (ps_while PassesOwn.never (pt_cmpR op_gtP (pv 1) pe_int (by first | rfl | exact nomark _))
    (pss_cons (ps_asg (pe_ix (kIx K) (pv 0) (pv 1) (fun _ _ => rfl)) (kGt K rfl (pg_tup (n := 2) (by rfl) (pgs_cons (pg_name (i := 1) sc__text_to.nd rfl (by first | exact Or.inl rfl | exact Or.inr rfl)) (pgs_cons (pg_name (i := 3) sc__text_to.nd rfl (by first | exact Or.inl rfl | exact Or.inr rfl)) pgs_nil)))))
  (pss_one (ps_expr (kBm K rfl (pe_bm PySem.F.plainAttrs_list PySem.F.slot_list_append PySem.F.type_list_append mt_append (pv 2) (pa_cons (pv 3) pa_nil)))))))
  (pss_one (ps_ret (kJr K rfl (pe_joinRev rfl pe_str (by rfl) T.nb_reversed (pa_cons (pv 2) pa_nil))))))), ?_⟩
    walk_at "rc"
    refine ⟨by decide, fun p hp => ?_⟩
    have e1 : Ex H (upd H p (.lst [])) := Evl.Ex.new hp
    have h1 : upd H p (.lst []) p = some (.lst (([] : List Str).map V.str)) := upd_same
    generalize upd H p (.lst []) = H1 at e1 h1
    walk_at "rc"
    walk_at "rs"
    refine rd_wh (W := fun m σ H' => ∃ (i : Nat) (v : List Nat) (ss : List Str) (k3 : Option V), m = i ∧ σ = [some (.ref L), some (.int (i : Int)), some (.ref p), k3] ∧ i ≤ n ∧ ws[i]? = some v ∧ (∀ b o, b ≠ p → H1 b = some o → H' b = some o) ∧ H' p = some (.lst (ss.map V.str)) ∧
        ss.length + i ≤ n ∧ (∀ s ∈ ss, s.length = 1) ∧ (tx ls u).cps.toList = (tx ls v).cps.toList ++ ((ss.reverse.map fun s => s.cps.toList).flatten)) n ⟨n, u, [], _, rfl, rfl, Nat.le_refl n, hu, (fun _ _ _ z => z), h1, by simp, (fun s hs => nomatch hs), by simp⟩ ?_
    rintro i σ H2 ⟨_, v, ss, k3, rfl, rfl, hin, hv, k2, h2, hl, h1s, htx⟩
    walk_at "rc"
    refine rd_iteD (fun hi => ?_) fun hi => ?_
    · obtain ⟨b, pr, t, hb1, hb2, _, hb4⟩ := hO.2 i v hv
      obtain ⟨hpi, u', j, hu', rfl, rfl⟩ := hb4 (by omega)
      have nLp : L ≠ p := ne_of_none hL hp
      have nbp : b ≠ p := ne_of_none hb2 hp
      have hL2 : H2 L = some (.lst os) := k2 L _ nLp (e1 _ _ hL)
      have hb : H2 b = some (.tup [.int (pr : Int), .str (sg (ls.cps.toList.getD j 0))]) := k2 b _ nbp (e1 _ _ hb2)
      refine ⟨fun σ3 H3 => ∃ m', m' < i ∧ ∃ (i' : Nat) (v : List Nat) (ss : List Str) (k3 : Option V), m' = i' ∧ σ3 = [some (.ref L), some (.int (i' : Int)), some (.ref p), k3] ∧ i' ≤ n ∧ ws[i']? = some v ∧ (∀ b o, b ≠ p → H1 b = some o → H3 b = some o) ∧ H3 p = some (.lst (ss.map V.str)) ∧
        ss.length + i' ≤ n ∧ (∀ s ∈ ss, s.length = 1) ∧ (tx ls u).cps.toList = (tx ls v).cps.toList ++ ((ss.reverse.map fun s => s.cps.toList).flatten), fun _ _ z => z, ?_⟩
      walk_at "rc"
      refine rd_ixL (SqL.of hL2) (atI_nat hb1) ?_
      refine ⟨b, _, rfl, Evl.st_of hb, rfl, ?_⟩
      walk_at "rc"
      refine ⟨.inl ⟨rfl, _, SqL.of h2⟩, ?_⟩
      walk_at "rc"
      refine ⟨p, _, _, rfl, rfl, h2, by rw [List.length_map]; have : 100000 ≤ sizeLine := by decide
                                        omega, ?_⟩
      walk_at "rc"
      have ep : (ss.map V.str) ++ [V.str (sg (ls.cps.toList.getD j 0))] = (ss ++ [sg (ls.cps.toList.getD j 0)]).map V.str := by rw [List.map_append]; rfl
      refine ⟨pr, hpi, pr, u', ss ++ [sg (ls.cps.toList.getD j 0)], _, rfl, rfl, by omega, hu', fun b o hbp z => by rw [upd_ne hbp]; exact k2 b o hbp z, by rw [upd_same, ep], ?_, fun s hs => ?_, ?_⟩
      · rw [List.length_append, List.length_singleton]; omega
      · rcases List.mem_append.mp hs with z | z
        · exact h1s s z
        · rw [List.mem_singleton.mp z]; rfl
      · rw [htx, tx_list, tx_list, List.map_append, List.reverse_append, List.map_append, List.flatten_append, List.append_assoc]
        rfl
    · have i0 : i = 0 := by omega
      subst i0
      obtain ⟨_, _, _, _, _, hv0, _⟩ := hO.2 0 v hv
      cases hv0 rfl
      walk_at "rc"
      refine ⟨⟨_, rfl⟩, ?_⟩
      walk_at "rc"
      refine ⟨_, p, ss, rfl, rfl, SqL.of h2, ?_, ?_⟩
      · rw [sum_ones h1s]
        have e0 : ("" : Str).length = 0 := rfl
        rw [e0, Nat.mul_zero]
        omega
      · have e : Txt.join "" ss.reverse = tx ls u := by
          refine str_ext ?_
          rw [join_nil, htx, tx_list]
          rfl
        rw [e]
        exact q H2 fun b o z => k2 b o (ne_of_none z hp) (e1 b o z)
end
section
/-! ### the least way -/
abbrev lvQ_least_way := 3
/-- what the two functions tell: the key behind a letter, whether a key accepts -/
structure Ky (P : Program) (w : World) (K : PySem.W.Frag) (mg : Str → Option Value) (base : Heap) (k : Nat) (H : Hp) (n : Nat) (f g : Addr) (nx : KE → Nat → KE) (acc : KE → Bool) (U : List KE) : Prop where
  f : ∃ (G : Hp → Prop) (sp : List V → Hp → VK → Prop), FV P w K mg base k f G sp ∧ G H ∧ ∀ H1 v kk (j : Nat) (Q : VK), Ex H H1 → KeyV H1 v kk → kk ∈ U → j < n → (∀ v' H2, Ex H1 H2 → KeyV H2 v' (nx kk j) → Q v' H2) → sp [v, .int (j : Int)] H1 Q
  g : ∃ (G : Hp → Prop) (sp : List V → Hp → VK → Prop), FV P w K mg base k g G sp ∧ G H ∧ ∀ H1 v kk (Q : VK), Ex H H1 → KeyV H1 v kk → kk ∈ U → (∀ H2, Ex H1 H2 → Q (.bl (acc kk)) H2) → sp [v] H1 Q
  nx : ∀ kk ∈ U, ∀ j, j < n → nx kk j ∈ U
  kd : ∀ a ∈ U, ∀ b ∈ U, isI a = isI b
def lstV (ls : Str) : Option (List Nat) → V
  | none => .non
  | some u => .str (tx ls u)
def spLeastWay (P : Program) (w : World) (K : PySem.W.Frag) (mg : Str → Option Value) (base : Heap) : Sp := fun vs H Q _ => ∃ (ls : Str) (kv : V) (f g : Addr) (st : KE) (nx : KE → Nat → KE) (acc : KE → Bool) (U : List KE), vs = [.str ls, kv, .ref f, .ref g] ∧ KeyV H kv st ∧ 0 < ls.length ∧ ls.length ≤ 1000 ∧ Ky P w K mg base 3 H ls.length f g nx acc U ∧
  st ∈ U ∧ U.length ≤ 50000 ∧ ∀ r H', Ex H H' → Lst ls.length nx st acc U.length r → Q (lstV ls r) H'
/-- what stands while the keys are gone through -/
structure LW (H0 H : Hp) (d a o : Addr) (ls : Str) (ks : List KE) (ws : List (List Nat)) (kv os : List V) : Prop where
  ex : Ex H0 H
  nd : H0 d = none
  na : H0 a = none
  no : H0 o = none
  ne : d ≠ a ∧ d ≠ o ∧ a ≠ o
  dm : DM H d ks (fun _ => .bl true)
  a : H a = some (.lst kv)
  o : H o = some (.lst os)
  l : kv.length = ks.length
  kv : ∀ (i : Nat) v k, kv[i]? = some v → ks[i]? = some k → KeyV H v k
  og : Org H ls os ws
theorem LW.grow {H0 H H' : Hp} {d a o : Addr} {ls : Str} {ks : List KE} {ws : List (List Nat)} {kv os : List V} (h : LW H0 H d a o ls ks ws kv os) (e : Ex H H') : LW H0 H' d a o ls ks ws kv os := by
  obtain ⟨ob, ho, _⟩ := h.dm.obj
  exact ⟨h.ex.trans e, h.nd, h.na, h.no, h.ne, h.dm.ex ((e _ _ ho).trans ho.symm), e _ _ h.a, e _ _ h.o, h.l, fun i v k h1 h2 => (h.kv i v k h1 h2).ex fun b xs z => e b _ z, h.og.ex fun b xs z => e b _ z⟩
/-- between two keys: n of them are done -/
def lwInv (H0 : Hp) (ls : Str) (k0 : V) (f g d a o : Addr) (nx : KE → Nat → KE) (acc : KE → Bool) (U : List KE) (st : KE) (n : Nat) (σ : L2.St) (H : Hp) : Prop := ∃ (ks : List KE) (ws : List (List Nat)) (kv os : List V) (k8 k9 k10 : Option V),
  σ = [some (.str ls), some k0, some (.ref f), some (.ref g), some (.ref d), some (.ref a), some (.ref o), some (.int (n : Int)), k8, k9, k10] ∧ LW H0 H d a o ls ks ws kv os ∧ (∀ k ∈ ks, k ∈ U) ∧ ks.Nodup ∧ n ≤ ks.length ∧
  (∀ (i : Nat) k, i < n → ks[i]? = some k → acc k = false) ∧ (∀ k1, ks[n]? = some k1 → ∃ u1, Pg ls.length nx st ks ws n 0 u1 k1) ∧ (n = ks.length → ∀ r, r = none → Lst ls.length nx st acc U.length r)
/-- between two letters of the n-th key -/
def lwIn (H0 : Hp) (ls : Str) (k0 : V) (f g d a o : Addr) (nx : KE → Nat → KE) (acc : KE → Bool) (U : List KE) (st : KE) (n : Nat) (u1 : List Nat) (k1 : KE) (j : Nat) (σ : L2.St) (H : Hp) : Prop := ∃ (ks : List KE) (ws : List (List Nat)) (kv os : List V) (k8 k9 k10 : Option V),
  σ = [some (.str ls), some k0, some (.ref f), some (.ref g), some (.ref d), some (.ref a), some (.ref o), some (.int (n : Int)), k8, k9, k10] ∧ LW H0 H d a o ls ks ws kv os ∧ (∀ k ∈ ks, k ∈ U) ∧ ks.Nodup ∧
  (∀ (i : Nat) k, i < n + 1 → ks[i]? = some k → acc k = false) ∧ Pg ls.length nx st ks ws n j u1 k1
theorem ok_least_way (T : Txt K mg) : FnOk P w K mg base CX0 5 T.a_least_way T.d_least_way ["letters", "start", "step", "accepts"] (spLeastWay P w K mg base) := by
  refine T.f_least_way.ok sc_least_way (fun vs H Q E h => ?_) (fun cdv A outer s H vs Q E hr h => ?_)
  · obtain ⟨_, _, _, _, _, _, _, _, rfl, _⟩ := h; rfl
  · obtain ⟨ls, k0, f, g, st, nx, acc, U, rfl, hk0, l0, l1, ky, hU, hUl, q⟩ := h
    obtain ⟨Gf, sf, Ff, gf, qf⟩ := ky.f
    obtain ⟨Gg, sg, Fg, gg, qg⟩ := ky.g
    refine ⟨_, (pss_cons (ps_set (i := 4) sc_least_way.nd rfl (by first | exact Or.inl rfl | exact Or.inr rfl) (PE.or (pe_disp (pps_cons (pv 1) pe_bl pps_nil) (by rfl) (by rfl) (fun z => by cases z) (by decide)) (pe_disp1T (hu_of hr) (pv 1) pe_bl)))
  (pss_cons (ps_set (i := 5) sc_least_way.nd rfl (by first | exact Or.inl rfl | exact Or.inr rfl) (pe_lst (pa_cons (pv 1) pa_nil)))
  (pss_cons (ps_set (i := 6) sc_least_way.nd rfl (by first | exact Or.inl rfl | exact Or.inr rfl) (pe_lst (pa_cons (pe_tup (pa_cons pe_int (pa_cons pe_str pa_nil))) pa_nil)))
  (pss_cons (ps_set (i := 7) sc_least_way.nd rfl (by first | exact Or.inl rfl | exact Or.inr rfl) pe_int)
  (pss_cons (ps_while PassesOwn.never (pt_cmpR op_ltP (pv 7) (pe_callB (kLen K) (by rfl) T.nb_len (by decide +kernel) (pa_cons (pv 5) pa_nil)) (by first | rfl | exact nomark _))
    (pss_cons (ps_if (pt_val (pe_callQ (k := lvQ_least_way) (i := 3) (hr.mono (by decide)) rfl (by first | exact Or.inl rfl | exact Or.inr (Or.inl rfl) | exact Or.inr (Or.inr rfl)) (pa_cons (pe_ix (kIx K) (pv 5) (pv 7) (fun _ _ => rfl)) pa_nil)))
    (pss_one (ps_ret (pe_callE (ok__text_to T) (hr.mono (by decide)) T.o__text_to (pa_cons (pv 6) (pa_cons (pv 7) pa_nil)))))
    pss_nil)
  (pss_cons (ps_for PassesOwn.never rfl (pi_enumS (by rfl) T.nb_enumerate (pa_cons (pv 0) pa_nil)) (kGt K rfl (pg_tup (n := 2) (by rfl) (pgs_cons (pg_name (i := 8) sc_least_way.nd rfl (by first | exact Or.inl rfl | exact Or.inr rfl)) (pgs_cons (pg_name (i := 9) sc_least_way.nd rfl (by first | exact Or.inl rfl | exact Or.inr rfl)) pgs_nil))))
    (pss_cons (ps_set (i := 10) sc_least_way.nd rfl (by first | exact Or.inl rfl | exact Or.inr rfl) (pe_callQ (k := lvQ_least_way) (i := 2) (hr.mono (by decide)) rfl (by first | exact Or.inl rfl | exact Or.inr (Or.inl rfl) | exact Or.inr (Or.inr rfl)) (pa_cons (pe_ix (kIx K) (pv 5) (pv 7) (fun _ _ => rfl)) (pa_cons (pv 8) pa_nil))))
  (pss_one (ps_if (pt_cmp (pc_dnotin (hu_of hr) (pv 10) (pv 4)))
    (pss_cons (ps_dput (hu_of hr) (pv 4) (pv 10) pe_bl rfl)
  (pss_cons (ps_expr (kBm K rfl (pe_bm PySem.F.plainAttrs_list PySem.F.slot_list_append PySem.F.type_list_append mt_append (pv 5) (pa_cons (pv 10) pa_nil))))
  (pss_one (ps_expr (kBm K rfl (pe_bm PySem.F.plainAttrs_list PySem.F.slot_list_append PySem.F.type_list_append mt_append (pv 6) (pa_cons (pe_tup (pa_cons (pv 7) (pa_cons (pv 9) pa_nil))) pa_nil)))))))
    pss_nil))))
  (pss_one (ps_aug (i := 7) sc_least_way.nd rfl (by first | exact Or.inl rfl | exact Or.inr rfl) pe_int ip_add)))))
  (pss_one (ps_ret pe_non))))))), ?_⟩
    walk_at "rc"
    refine dm_start (kv := k0) (x := .bl true) (k := st) (fun H' Q q => rd_var (by rfl) q) (fun H' Q q => rd_c q) hk0 fun d od hd hdm _ => ?_
    have e1 : Ex H (upd H d od) := Evl.Ex.new hd
    generalize upd H d od = H1 at hdm e1
    walk_at "rc"
    refine ⟨by show 1 ≤ sizeLine; decide, fun a ha => ?_⟩
    have e2 : Ex H1 (upd H1 a (.lst [k0])) := Evl.Ex.new ha
    have h2 : upd H1 a (.lst [k0]) a = some (.lst [k0]) := upd_same
    generalize upd H1 a (.lst [k0]) = H2 at e2 h2
    walk_at "rc"
    refine ⟨by show 2 ≤ sizeLine; decide, fun t ht => ?_⟩
    have e3 : Ex H2 (upd H2 t (.tup [.int 0, .str ""])) := Evl.Ex.new ht
    have h3 : upd H2 t (.tup [.int 0, .str ""]) t = some (.tup [.int ((0 : Nat) : Int), .str ""]) := upd_same
    generalize upd H2 t (.tup [.int 0, .str ""]) = H3 at e3 h3
    walk_at "rc"
    refine ⟨by show 1 ≤ sizeLine; decide, fun o ho => ?_⟩
    have e4 : Ex H3 (upd H3 o (.lst [.ref t])) := Evl.Ex.new ho
    have h4 : upd H3 o (.lst [.ref t]) o = some (.lst [.ref t]) := upd_same
    generalize upd H3 o (.lst [.ref t]) = H4 at e4 h4
    obtain ⟨ob, hob, _⟩ := hdm.obj
    have old : ∀ {x : Addr} {Ha : Hp}, Ex H Ha → Ha x = none → H x = none := fun {x Ha} e z => by
      cases y : H x with
      | none => rfl
      | some u => rw [e x u y] at z; cases z
    have W0 : LW H H4 d a o ls [st] [[]] [k0] [.ref t] := by
      refine ⟨((e1.trans e2).trans e3).trans e4, hd, old e1 ha, old ((e1.trans e2).trans e3) ho, ⟨ne_of_none hob ha, fun z => ?_, fun z => ?_⟩, hdm.ex (((e2.trans (e3.trans e4)) _ _ hob).trans hob.symm), e4 _ _ (e3 _ _ h2), h4, rfl, fun i v k g1 g2 => ?_, rfl, fun i u hu => ?_⟩
      · rw [← z, e3 _ _ (e2 _ _ hob)] at ho; cases ho
      · rw [← z, e3 _ _ h2] at ho; cases ho
      · have := ltQ g1
        obtain rfl : i = 0 := by simpa using this
        cases g1; cases g2
        exact hk0.ex fun b xs z => e4 _ _ (e3 _ _ (e2 _ _ (e1 _ _ z)))
      · have := ltQ hu
        obtain rfl : i = 0 := by simpa using this
        cases hu
        exact ⟨t, 0, "", rfl, e4 _ _ h3, fun _ => rfl, fun z => absurd z (by omega)⟩
    clear h4 h3 h2 e1 e2 e3 e4 ha ht ho hdm hob
    walk_at "rc"
    walk_at "rs"
    refine rd_wh (W := fun m σ H' => ∃ n, m = U.length - n ∧ lwInv H ls k0 f g d a o nx acc U st n σ H') U.length ?_ ?_
    · refine ⟨0, rfl, [st], [[]], [k0], [.ref t], _, _, _, rfl, W0, fun k hk => by rw [List.mem_singleton.mp hk]; exact hU, List.nodup_cons.mpr ⟨(fun z => nomatch z), List.nodup_nil⟩, Nat.zero_le _, fun i k hi => absurd hi (Nat.not_lt_zero i), fun k1 hk1 => ?_, fun z => absurd (show (0 : Nat) = 1 from z) (by decide)⟩
      cases hk1
      exact ⟨[], Pg.init⟩
    rintro m σ H5 ⟨n, rfl, ks, ws, kv, os, k8, k9, k10, rfl, W, hks, nd, hn, hno, hpg, hend⟩
    have kU : ks.length ≤ U.length := nodup_leK ks U nd hks
    have sl : 1000000 ≤ sizeLine := by decide
    walk_at "rc"
    refine rd_lenL (SqL.of W.a) ?_
    rw [W.l]
    walk_at "rc"
    refine rd_iteD (fun hi => ?_) fun hi => ?_
    · have hnl : n < ks.length := by omega
      obtain ⟨k1, hk1⟩ := getQ hnl
      obtain ⟨u1, pg⟩ := hpg k1 hk1
      obtain ⟨v1, hv1⟩ : ∃ v, kv[n]? = some v := getQ (by rw [W.l]; exact hnl)
      have hK1 := hks k1 (List.mem_of_getElem? hk1)
      refine ⟨fun σ3 H3 => ∃ m', m' < U.length - n ∧ ∃ n', m' = U.length - n' ∧ lwInv H ls k0 f g d a o nx acc U st n' σ3 H3, fun _ _ z => z, ?_⟩
      walk_at "rs"
      walk_at "rc"
      refine ⟨g, Gg, sg, rfl, Fg, Fg.st _ _ (StX.of_ex W.ex) gg, ?_⟩
      walk_at "rc"
      refine rd_ixL (SqL.of W.a) (atI_nat hv1) ?_
      walk_at "rc"
      refine ⟨Fg.st _ _ (StX.of_ex W.ex) gg, qg H5 v1 k1 _ W.ex (W.kv n v1 k1 hv1 hk1) hK1 fun H6 e6 => ⟨_, rfl, ?_⟩⟩
      have W6 := W.grow e6
      refine rd_ite (fun ya => ?_) fun na => ?_
      · walk_at "rc"
        refine ⟨o, n, ls, os, ws, u1, rfl, W6.o, W6.og, pg.hu, by omega, fun H7 e7 => ?_⟩
        exact q (some u1) H7 (W6.ex.trans e7) (pg.found l0 kU hno ya)
      · walk_at "rc"
        walk_at "rs"
        walk_at "rc"
        refine rd_enS ?_
        walk_at "rc"
        refine ⟨ls, rfl, ?_⟩
        have hno1 : ∀ (i : Nat) k, i < n + 1 → ks[i]? = some k → acc k = false := fun i k hi e => by
          rcases Nat.lt_or_ge i n with z | z
          · exact hno i k z e
          · obtain rfl : i = n := by omega
            rw [hk1] at e; cases e; exact na
        refine fo_it walk_enumS (fun j σ H' => lwIn H ls k0 f g d a o nx acc U st n u1 k1 j σ H') ⟨ks, ws, kv, os, _, _, _, rfl, W6, hks, nd, hno1, pg⟩ (fun _ _ _ _ _ => True.intro) ?_ ?_
        · clear W W6 e6 hv1 hno1 pg hno hpg hend nd hks kU hn hnl hk1 hi na
          rintro j x σ H6 H7 hj ⟨ks, ws, kv, os, k8, k9, k10, rfl, W, hks, nd, hno, pg⟩ ⟨t, c, rfl, ht, hc, rfl⟩
          have hjl : j < ls.length := hj
          have kU : ks.length ≤ U.length := nodup_leK ks U nd hks
          have W7 := W.grow (Evl.Ex.new (o := .tup [.int (j : Nat), .str ⟨#[c]⟩]) ht)
          have h7 : upd H6 t (.tup [.int (j : Nat), .str ⟨#[c]⟩]) t = some (.tup [.int ((j : Nat) : Int), .str ⟨#[c]⟩]) := upd_same
          generalize upd H6 t (.tup [.int (j : Nat), .str ⟨#[c]⟩]) = H7 at W7 h7
          refine ⟨t, _, rfl, Evl.st_of h7, rfl, ?_⟩
          walk_at "rc"
          obtain ⟨v1, hv1⟩ : ∃ v, kv[n]? = some v := getQ (by rw [W7.l]; exact ltQ pg.hk)
          refine ⟨f, Gf, sf, rfl, Ff, Ff.st _ _ (StX.of_ex W7.ex) gf, ?_⟩
          walk_at "rc"
          refine rd_ixL (SqL.of W7.a) (atI_nat hv1) ?_
          walk_at "rc"
          refine ⟨Ff.st _ _ (StX.of_ex W7.ex) gf, qf H7 v1 k1 j _ W7.ex (W7.kv n v1 k1 hv1 pg.hk) hK1 hjl fun v2 H8 e8 hv2 => ?_⟩
          have W8 := W7.grow e8
          have hk2 : nx k1 j ∈ U := ky.nx k1 hK1 j hjl
          have nek : ks ≠ [] := fun z => by have := pg.hk; rw [z] at this; cases this
          have hkd : ∀ k' ∈ ks, isI k' = isI (nx k1 j) := fun k' hk' => ky.kd k' (hks k' hk') _ hk2
          walk_at "rc"
          refine ⟨d, _, rfl, W8.dm.get hv2 hkd nek, ?_⟩
          by_cases hin : nx k1 j ∈ ks
          · rw [if_pos hin]
            obtain ⟨i, hi⟩ := List.mem_iff_getElem?.mp hin
            refine ⟨_, rfl, rd_itef rfl ?_⟩
            walk_at "rc"
            exact ⟨ks, ws, kv, os, _, _, _, rfl, W8, hks, nd, hno, pg.old hjl hi⟩
          · rw [if_neg hin]
            refine ⟨_, rfl, rd_itet rfl ?_⟩
            obtain ⟨od, hput, hdm, hkind⟩ := W8.dm.put hv2 hkd nek hin (by omega)
            walk_at "rs"
            walk_at "rc"
            refine ⟨d, _, rfl, hput, ?_⟩
            obtain ⟨od0, hd0, hk0'⟩ := W8.dm.obj
            have nT : ∀ b xs, H8 b = some (.tup xs) → b ≠ d := fun b xs z y => by
              rw [y, hd0] at z
              rcases hk0' with ⟨_, r⟩ | ⟨_, r⟩ <;> (rw [r] at z; cases z)
            have keep9 : ∀ b ob, b ≠ d → H8 b = some ob → upd H8 d od b = some ob := fun b ob hb z => by rw [upd_ne hb]; exact z
            generalize upd H8 d od = H9 at hdm keep9
            have ha9 := keep9 a _ (Ne.symm W8.ne.1) W8.a
            have ho9 := keep9 o _ (Ne.symm W8.ne.2.1) W8.o
            walk_at "rc"
            refine ⟨.inl ⟨rfl, _, SqL.of ha9⟩, ?_⟩
            walk_at "rc"
            refine ⟨a, _, _, rfl, rfl, ha9, by rw [W8.l]; omega, ?_⟩
            have keepA : ∀ b ob, b ≠ a → H9 b = some ob → upd H9 a (.lst (kv ++ [v2])) b = some ob := fun b ob hb z => by rw [upd_ne hb]; exact z
            have hA : upd H9 a (.lst (kv ++ [v2])) a = some (.lst (kv ++ [v2])) := upd_same
            generalize upd H9 a (.lst (kv ++ [v2])) = HA at keepA hA
            have hoA := keepA o _ (Ne.symm W8.ne.2.2) ho9
            walk_at "rc"
            refine ⟨.inl ⟨rfl, _, SqL.of hoA⟩, ?_⟩
            walk_at "rc"
            refine ⟨by show 2 ≤ sizeLine; decide, fun t2 ht2 => ?_⟩
            have eB : Ex HA (upd HA t2 (.tup [.int (n : Int), .str ⟨#[c]⟩])) := Evl.Ex.new ht2
            have hB : upd HA t2 (.tup [.int (n : Int), .str ⟨#[c]⟩]) t2 = some (.tup [.int (n : Int), .str ⟨#[c]⟩]) := upd_same
            generalize upd HA t2 (.tup [.int (n : Int), .str ⟨#[c]⟩]) = HB at eB hB
            have hoB := eB _ _ hoA
            walk_at "rc"
            refine ⟨o, _, _, rfl, rfl, hoB, by rw [W8.og.1, pg.b.len]; omega, ?_⟩
            have nt : t2 ≠ o := fun z => by rw [z, hoA] at ht2; cases ht2
            have hdd : ∀ b xs, H8 b = some (.tup xs) → upd HB o (.lst (os ++ [.ref t2])) b = some (.tup xs) := fun b xs z => by
              have n1 := nT b xs z
              have n2 : b ≠ a := fun y => by rw [y, W8.a] at z; cases z
              have n3 : b ≠ o := fun y => by rw [y, W8.o] at z; cases z
              rw [upd_ne n3]
              exact eB _ _ (keepA b _ n2 (keep9 b _ n1 z))
            have ec : c = ls.cps.toList.getD j 0 := by
              rw [List.getD_eq_getElem?_getD, Array.getElem?_toList, hc]; rfl
            walk_at "rc"
            refine ⟨ks ++ [nx k1 j], ws ++ [u1 ++ [j]], kv ++ [v2], os ++ [.ref t2], _, _, _, rfl, ⟨fun b ob z => ?_, W8.nd, W8.na, W8.no, W8.ne, ?_, ?_, upd_same, by simp [W8.l], fun i v k g1 g2 => ?_, ?_⟩, fun k hk => ?_, ?_, fun i k hi e => ?_, pg.new hjl hin⟩
            · have n1 : b ≠ d := ne_of_none z W8.nd
              have n2 : b ≠ a := ne_of_none z W8.na
              have n3 : b ≠ o := ne_of_none z W8.no
              rw [upd_ne n3]
              exact eB _ _ (keepA b _ n2 (keep9 b _ n1 (W8.ex b ob z)))
            · have n2 := W8.ne.1
              have n3 := W8.ne.2.1
              obtain ⟨o9, h9, _⟩ := hdm.obj
              refine hdm.ex ?_
              rw [upd_ne n3, eB _ _ (keepA d _ n2 h9), h9]
            · rw [upd_ne W8.ne.2.2]; exact eB _ _ hA
            · rcases app_at g1 with z | ⟨z, z'⟩
              · rcases app_at g2 with y | ⟨y, _⟩
                · exact (W8.kv i v k z y).ex hdd
                · have := ltQ z; rw [W8.l] at this; omega
              · rcases app_at g2 with y | ⟨_, y⟩
                · have := ltQ y; rw [← W8.l] at this; omega
                · rw [← z', ← y]; exact hv2.ex hdd
            · refine (W8.og.ex hdd).snoc pg.hu ?_
              rw [upd_ne nt, hB, ec]; rfl
            · rcases List.mem_append.mp hk with z | z
              · exact hks k z
              · rw [List.mem_singleton.mp z]; exact hk2
            · exact List.nodup_append.mpr ⟨nd, List.nodup_cons.mpr ⟨(fun z => nomatch z), List.nodup_nil⟩, fun x hx y hy e => hin (by rw [← List.mem_singleton.mp hy, ← e]; exact hx)⟩
            · rcases app_at e with z | ⟨z, _⟩
              · exact hno i k hi z
              · have := ltQ pg.hk; omega
        · clear W W6 e6 hv1 hno1 pg hno hpg hend nd hks
          rintro σ H6 ⟨ks', ws, kv, os, k8, k9, k10, rfl, W, hks, nd, hno, pg⟩
          walk_at "rc"
          refine ⟨_, rfl, ?_⟩
          walk_at "rc"
          refine ⟨_, _, rfl, rfl, ?_⟩
          have kU' : ks'.length ≤ U.length := nodup_leK ks' U nd hks
          have hn' := ltQ pg.hk
          refine ⟨U.length - (n + 1), by omega, n + 1, rfl, ks', ws, kv, os, _, _, _, rfl, W, hks, nd, hn', hno, fun k2 h2 => pg.next l0 h2, fun z r hr => ?_⟩
          subst hr
          exact pg.none l0 z hno
    · have e : n = ks.length := by omega
      walk_at "rc"
      exact q none H5 W.ex (hend e none rfl)
end
section
/-! ### the least text of a machine -/
theorem MachD.hidF {C : Addr} {S : List Addr} {H : Hp} {m : Addr} {ls : Str} {acc : List Bool} {tab : List (List Nat)} (h : MachD K C H m ls acc tab) (n : NoD S H) (ni : ∀ b ∈ S, ∀ C dx fs, H b ≠ some (.ins C dx fs)) : MachD K C (hid S H) m ls acc tab := by
  obtain ⟨dx, ta, tt, h1, h2, h3⟩ := h
  exact ⟨dx, ta, tt, by rw [hid_at fun z => ni m z _ _ _ h1]; exact h1, Dp.hidF n _ h2, Dp.hidF n _ h3⟩
theorem MachD.fr {C : Addr} {S : List Addr} {H : Hp} {m : Addr} {ls : Str} {acc : List Bool} {tab : List (List Nat)} (h : MachD K C H m ls acc tab) (W : ∀ b ∈ S, ∃ o, H b = some (frC b o)) : MachD K C (hid S H) m ls acc tab :=
  h.hidF (.of_fr W) fun b hb C dx fs z => by
    obtain ⟨o, e⟩ := W b hb
    rw [z] at e; cases e
theorem MachD.tbl {nm : Nat → Nat → Str} {Pl : List Addr} {R C : Addr} {H H' : Hp} {m : Addr} {ls : Str} {acc : List Bool} {tab : List (List Nat)} (h : MachD K C H m ls acc tab) (t : Tbs nm Pl H) (hR : R ∈ Pl) (k : Kp [R] H H') : MachD K C H' m ls acc tab := by
  obtain ⟨ps, z⟩ := TabN.isT (t R hR)
  have n1 : NoD [R] H := fun b hb o e => t.noD b (by rw [List.mem_singleton.mp hb]; exact hR) o e
  have h2 : MachD K C (hid [R] H) m ls acc tab := h.hidF n1 fun b hb C dx fs e => by
    rw [List.mem_singleton.mp hb, z] at e; cases e
  exact h2.ex (k.ex.trans hid_ex)
/-- one machine's states as keys -/
def nxM (tab : List (List Nat)) : KE → Nat → KE
  | .i s, j => .i ((tab.getD s []).getD j 0)
  | k, _ => k
def acM (acc : List Bool) : KE → Bool
  | .i s => acc.getD s false
  | _ => false
structure GMw (ls : Str) (acc : List Bool) (tab : List (List Nat)) : Prop where
  m : GM acc tab
  w : ∀ row ∈ tab, row.length = ls.length
theorem GMw.at' {ls : Str} {acc : List Bool} {tab : List (List Nat)} (g : GMw ls acc tab) {s j : Nat} (hs : s < acc.length) (hj : j < ls.length) : ∃ row x, tab[s]? = some row ∧ row[j]? = some x ∧ tab.getD s [] = row ∧ (tab.getD s []).getD j 0 = x ∧ x < acc.length := by
  have hst : s < tab.length := by rw [g.m.e]; exact hs
  obtain ⟨row, hr⟩ := getQ hst
  have hrl := g.w row (List.mem_of_getElem? hr)
  obtain ⟨x, hx⟩ := getQ (l := row) (i := j) (by omega)
  have e1 : tab.getD s [] = row := by rw [List.getD_eq_getElem?_getD, hr]; rfl
  refine ⟨row, x, hr, hx, e1, by rw [e1, List.getD_eq_getElem?_getD, hx]; rfl, ?_⟩
  have := (g.m.g.at' (s := s) (t := x) (by rw [e1]; exact List.mem_of_getElem? hx)).2
  rw [← g.m.e]; exact this
/-- reading a place of a machine's table -/
theorem rd_cell {H0 H : Hp} {tt : Addr} {ls : Str} {acc : List Bool} {tab : List (List Nat)} {s j : Nat} {Q : VK} (e : Ex H0 H) (h : Dp K H0 (.ref tt) (nT tab)) (g : GMw ls acc tab) (hs : s < acc.length) (hj : j < ls.length) {Q1 : VK} (q1 : ∀ v, rIx K v (.int (j : Int)) H Q → Q1 v H) (q : Q (.int (((tab.getD s []).getD j 0 : Nat) : Int)) H) :
    rIx K (.ref tt) (.int (s : Int)) H Q1 := by
  obtain ⟨row, x, hr, hx, e1, e2, _⟩ := g.at' hs hj
  refine rd_ixDT e h (d := .tuple (row.map nI)) (by rw [List.getElem?_map, hr]; rfl) fun v hv => ?_
  refine q1 v (rd_ixDT e hv (d := nI x) (by rw [List.getElem?_map, hx]; rfl) fun v2 hv2 => ?_)
  cases Dp.int_iff hv2
  rw [e2] at q
  exact q
theorem rd_flag {H0 H : Hp} {ta : Addr} {acc : List Bool} {s : Nat} {Q : VK} (e : Ex H0 H) (h : Dp K H0 (.ref ta) (.tuple (acc.map PyData.bool))) (hs : s < acc.length) (q : Q (.bl (acc.getD s false)) H) : rIx K (.ref ta) (.int (s : Int)) H Q := by
  obtain ⟨b, hb⟩ := getQ hs
  refine rd_ixDT e h (d := .bool b) (by rw [List.getElem?_map, hb]; rfl) fun v hv => ?_
  cases Dp.bl_iff hv
  rw [List.getD_eq_getElem?_getD, hb] at q
  exact q
section
variable (T : Txt K mg)
/-- lambda state, index: machine.table[state][index] -/
def spStep : List (Option V) → Sp := fun ws vs H Q _ => ∃ (m : Addr) (ls : Str) (acc : List Bool) (tab : List (List Nat)) (s j : Nat), ws = [some (.ref m)] ∧ vs = [.int (s : Int), .int (j : Int)] ∧ MachD K T.C_Machine H m ls acc tab ∧ GMw ls acc tab ∧ s < acc.length ∧ j < ls.length ∧ Q (.int (((tab.getD s []).getD j 0 : Nat) : Int)) H
/-- lambda state: machine.accepting[state] -/
def spAcc : List (Option V) → Sp := fun ws vs H Q _ => ∃ (m : Addr) (ls : Str) (acc : List Bool) (tab : List (List Nat)) (s : Nat), ws = [some (.ref m)] ∧ vs = [.int (s : Int)] ∧ MachD K T.C_Machine H m ls acc tab ∧ s < acc.length ∧ Q (.bl (acc.getD s false)) H
def spFirst : Sp := fun vs H Q _ => ∃ (m : Addr) (ls : Str) (acc : List Bool) (tab : List (List Nat)), vs = [.ref m] ∧ MachD K T.C_Machine H m ls acc tab ∧ GMw ls acc tab ∧ 0 < ls.length ∧ ls.length ≤ 1000 ∧ Tbs nmT (Ps T) H ∧
  ∀ r H', Kp (Ps T) H H' → Tbs nmT (Ps T) H' → Lst ls.length (nxM tab) (.i 0) (acM acc) acc.length r → Q (lstV ls r) H'
theorem ok_first_text (B : Bs T base) : FnOk P w K mg base CX0 6 T.a_first_text T.d_first_text ["machine"] (spFirst T) := by
  refine T.t_first_text.ok sc_first_text (fun vs H Q E h => ?_) (fun A outer s H vs Q E hr h => ?_)
  · obtain ⟨_, _, _, _, rfl, _⟩ := h; rfl
  · obtain ⟨m, ls, acc, tab, rfl, hM, g, l0, l1, hT, q⟩ := h
    obtain ⟨dx, ta, tt, hm, hA, hTt⟩ := id hM
    refine ⟨_, (pss_one (ps_ret (pe_callZ (ok_least_way T) (hr.mono (by decide)) T.o_least_way (fun _ => rfl) (pa_cons (kFld K rfl (pe_fld (pv 0) rfl)) (pa_cons pe_int (pa_cons (pe_lmd (nm := nmT) (Ps := Ps T) B.tb_first_text rfl B.in_first_text (by rfl) (fr := ["machine"]) (show NdefX.ndefB (defScope s_first_text) _ _ = true from by decide +kernel) rfl) (pa_cons (pe_lmd (nm := nmT) (Ps := Ps T) B.tb_first_text rfl B.in_first_text (by rfl) (fr := ["machine"]) (show NdefX.ndefB (defScope s_first_text) _ _ = true from by decide +kernel) rfl) pa_nil))))))), ?_⟩
    walk_at "rc"
    refine rd_callZ ?_
    walk_at "rc"
    refine ⟨m, _, dx, _, _, rfl, hm, T.cl_Machine, T.na_Machine_letters, rfl, ?_⟩
    walk_at "rc"
    refine ⟨hT, fun f1 c1 H1 k1 t1 n1 hf1 hc1 => ?_⟩
    walk_at "rc"
    refine ⟨t1, fun f2 c2 H2 k2 t2 n2 hf2 hc2 => ?_⟩
    walk_at "rc"
    intro O ow
    have hf1' := t1.kpX B.in_first_text k2 hf1 True.intro
    have hc1' := t1.kpX B.in_first_text k2 hc1 True.intro
    obtain ⟨G1, as1, F1, g1⟩ := lam_made (k := 2) (N := ["state", "index", "machine"]) (ps := ["state", "index"]) (fr := ["machine"]) (sp := spStep T) ow hf1' hc1' [0] (show NdefX.ndefB (defScope s_first_text) _ _ = true from by decide +kernel) rfl (NdefX.nscope_by (by decide +kernel)) (fun _ _ _ us hl => match us, hl with | [_, _], _ => rfl)
      (fun ws vs H Q E h => by obtain ⟨_, _, _, _, _, _, _, rfl, _⟩ := h; rfl) fun cl A outer s H vs ws Q hr hl h => by
        obtain ⟨m, ls, acc, tab, s, j, rfl, rfl, hM, g, hs, hj, q⟩ := h
        obtain ⟨dx, ta, tt, hm, hA, hTt⟩ := id hM
        refine ⟨_, (pe_ix (kIx K) (pe_ix (kIx K) (kFld K rfl (pe_fld (pv 2) rfl)) (pv 0) (fun _ _ => rfl)) (pv 1) (fun _ _ => rfl)), ?_⟩
        walk_at "rc"
        refine ⟨m, _, dx, _, _, rfl, hm, T.cl_Machine, T.na_Machine_table, rfl, ?_⟩
        walk_at "rc"
        exact rd_cell (Evl.Ex.refl H) hTt g hs hj (fun v h => by walk_at "rc"; exact h) q
    obtain ⟨G2, as2, F2, g2⟩ := lam_made (k := 2) (N := ["state", "machine"]) (ps := ["state"]) (fr := ["machine"]) (sp := spAcc T) ow hf2 hc2 [0] (show NdefX.ndefB (defScope s_first_text) _ _ = true from by decide +kernel) rfl (NdefX.nscope_by (by decide +kernel)) (fun _ _ _ us hl => match us, hl with | [_], _ => rfl)
      (fun ws vs H Q E h => by obtain ⟨_, _, _, _, _, _, rfl, _⟩ := h; rfl) fun cl A outer s H vs ws Q hr hl h => by
        obtain ⟨m, ls, acc, tab, s, rfl, rfl, hM, hs, q⟩ := h
        obtain ⟨dx, ta, tt, hm, hA, hTt⟩ := id hM
        refine ⟨_, (pe_ix (kIx K) (kFld K rfl (pe_fld (pv 1) rfl)) (pv 0) (fun _ _ => rfl)), ?_⟩
        walk_at "rc"
        refine ⟨m, _, dx, _, _, rfl, hm, T.cl_Machine, T.na_Machine_accepting, rfl, ?_⟩
        walk_at "rc"
        exact rd_flag (Evl.Ex.refl H) hA hs q
    have M2 : MachD K T.C_Machine H2 m ls acc tab := (hM.tbl hT B.in_first_text k1).tbl t1 B.in_first_text k2
    have M3 := M2.ex (fz_ex (O := O) ow.non)
    have mem : ∀ {kk}, kk ∈ (List.range acc.length).map KE.i → ∃ s, s < acc.length ∧ kk = .i s := fun {kk} h => by
      obtain ⟨s, hs, rfl⟩ := List.mem_map.mp h
      exact ⟨s, List.mem_range.mp hs, rfl⟩
    refine ⟨ls, .int 0, f1, f2, .i 0, nxM tab, acM acc, (List.range acc.length).map KE.i, rfl, rfl, l0, l1, ⟨⟨G1, _, F1, g1, fun H5 v kk j Q e hv hk hj q => ?_⟩, ⟨G2, _, F2, g2, fun H5 v kk Q e hv hk q => ?_⟩, fun kk hk j hj => ?_, fun a ha b hb => ?_⟩, List.mem_map.mpr ⟨0, List.mem_range.mpr g.m.p, rfl⟩, ?_, fun r H5 e L => ?_⟩
    · obtain ⟨s, hs, rfl⟩ := mem hk
      obtain rfl : v = .int (s : Int) := hv
      exact fun W => ⟨m, ls, acc, tab, s, j, rfl, rfl, (M3.ex e).fr W, g, hs, hj, fun _ => by rw [rz_hid]; exact q _ _ (Evl.Ex.refl _) rfl⟩
    · obtain ⟨s, hs, rfl⟩ := mem hk
      obtain rfl : v = .int (s : Int) := hv
      exact fun W => ⟨m, ls, acc, tab, s, rfl, rfl, (M3.ex e).fr W, hs, fun _ => by rw [rz_hid]; exact q _ (Evl.Ex.refl _)⟩
    · obtain ⟨s, hs, rfl⟩ := mem hk
      obtain ⟨_, x, _, _, _, hx, hx2⟩ := g.at' hs hj
      exact List.mem_map.mpr ⟨x, List.mem_range.mpr hx2, by show _ = KE.i _; rw [hx]⟩
    · obtain ⟨s, hs, rfl⟩ := mem ha
      obtain ⟨s', hs', rfl⟩ := mem hb
      rfl
    · rw [List.length_map, List.length_range]
      have := g.m.g.n
      rw [g.m.e] at this
      omega
    · rw [List.length_map, List.length_range] at L
      have e2 := fz_out ow.non e
      exact q r _ ((kp_one B.in_first_text k1).trans ((kp_one B.in_first_text k2).trans (Kp.of_ex e2))) (t2.ex e2) L
end
end
section
/-! ### the least text of which two machines tell something -/
/-- pairs of states as keys -/
def nxP (t1 t2 : List (List Nat)) : KE → Nat → KE
  | .t [a, b], j => .t [(t1.getD a []).getD j 0, (t2.getD b []).getD j 0]
  | k, _ => k
def acP (ch : Bool → Bool → Bool) (a1 a2 : List Bool) : KE → Bool
  | .t [a, b] => ch (a1.getD a false) (a2.getD b false)
  | _ => false
def prs (n1 n2 : Nat) : List KE := (List.range n1).flatMap fun a => (List.range n2).map fun b => .t [a, b]
theorem mem_prs {n1 n2 : Nat} {k : KE} : k ∈ prs n1 n2 ↔ ∃ a b, a < n1 ∧ b < n2 ∧ k = .t [a, b] := by
  unfold prs
  rw [List.mem_flatMap]
  constructor
  · rintro ⟨a, ha, h⟩
    obtain ⟨b, hb, rfl⟩ := List.mem_map.mp h
    exact ⟨a, b, List.mem_range.mp ha, List.mem_range.mp hb, rfl⟩
  · rintro ⟨a, b, ha, hb, rfl⟩
    exact ⟨a, List.mem_range.mpr ha, List.mem_map.mpr ⟨b, List.mem_range.mpr hb, rfl⟩⟩
theorem len_prs (n1 n2 : Nat) : (prs n1 n2).length = n1 * n2 := by
  unfold prs
  rw [List.length_flatMap]
  have e : ((List.range n1).map fun a => ((List.range n2).map fun b => KE.t [a, b]).length) = List.replicate n1 n2 := by
    refine List.ext_getElem (by simp) fun i h1 h2 => ?_
    simp
  rw [e]
  clear e
  induction n1 with
  | zero => simp
  | succ n ih => rw [List.replicate_succ, List.sum_cons, ih, Nat.succ_mul]; omega
section
variable (T : Txt K mg)
def spStep2 : List (Option V) → Sp := fun ws vs H Q _ => ∃ (m1 m2 : Addr) (ls : Str) (a1 a2 : List Bool) (t1 t2 : List (List Nat)) (v : V) (a b j : Nat), ws = [some (.ref m1), some (.ref m2)] ∧ vs = [v, .int (j : Int)] ∧ KeyV H v (.t [a, b]) ∧ MachD K T.C_Machine H m1 ls a1 t1 ∧ GMw ls a1 t1 ∧ MachD K T.C_Machine H m2 ls a2 t2 ∧ GMw ls a2 t2 ∧
  a < a1.length ∧ b < a2.length ∧ j < ls.length ∧ ∀ v' H', Ex H H' → KeyV H' v' (nxP t1 t2 (.t [a, b]) j) → Q v' H'
theorem nok_step2 (cl : List (Str × Addr)) (f c : Addr) : NdefX.NOk P w K mg base CX0 3 f (NdefX.NF.of s__first_of_two_step "step" "_first_of_two.<locals>.step" cl c) ["pair", "index"] ["first", "second"] (spStep2 T) := by
  refine nok_by (k := 2) sc__first_of_two_step (fun _ _ _ us hl => match us, hl with | [_, _], _ => rfl) (fun ws vs H Q E h => ?_) fun A outer s H vs ws Q E hr _ h => ?_
  · obtain ⟨_, _, _, _, _, _, _, _, _, _, _, _, rfl, _⟩ := h; rfl
  · obtain ⟨m1, m2, ls, a1, a2, t1, t2, v, a, b, j, rfl, rfl, hv, M1, g1, M2, g2, ha, hb, hj, q⟩ := h
    obtain ⟨d1, ta1, tt1, h1, hA1, hT1⟩ := id M1
    obtain ⟨d2, ta2, tt2, h2, hA2, hT2⟩ := id M2
    obtain ⟨p, rfl, hp⟩ := hv
    have sp : SqT K H p [vI a, vI b] := Evl.st_of hp
    refine ⟨_, (pss_one (ps_ret (pe_tup (pa_cons (pe_ix (kIx K) (pe_ix (kIx K) (kFld K rfl (pe_fld (pv 2) rfl)) (pe_ix (kIx K) (pv 0) pe_int (fun _ _ => rfl)) (fun _ _ => rfl)) (pv 1) (fun _ _ => rfl)) (pa_cons (pe_ix (kIx K) (pe_ix (kIx K) (kFld K rfl (pe_fld (pv 3) rfl)) (pe_ix (kIx K) (pv 0) pe_int (fun _ _ => rfl)) (fun _ _ => rfl)) (pv 1) (fun _ _ => rfl)) pa_nil))))), ?_⟩
    walk_at "rc"
    refine ⟨m1, _, d1, _, _, rfl, h1, T.cl_Machine, T.na_Machine_table, rfl, ?_⟩
    walk_at "rc"
    refine rd_ixT (v := vI a) sp (atI_nat (j := 0) rfl) ?_
    refine rd_cell (Evl.Ex.refl H) hT1 g1 ha hj (fun v h => by walk_at "rc"; exact h) ?_
    walk_at "rc"
    refine ⟨m2, _, d2, _, _, rfl, h2, T.cl_Machine, T.na_Machine_table, rfl, ?_⟩
    walk_at "rc"
    refine rd_ixT (v := vI b) sp (atI_nat (j := 1) rfl) ?_
    refine rd_cell (Evl.Ex.refl H) hT2 g2 hb hj (fun v h => by walk_at "rc"; exact h) ?_
    walk_at "rc"
    refine ⟨by show 2 ≤ sizeLine; decide, fun t ht => ?_⟩
    exact q _ _ (Evl.Ex.new ht) ⟨t, rfl, upd_same⟩
abbrev lvQ__first_of_two_accepts := 1
def spAcc2 (P : Program) (w : World) (base : Heap) : List (Option V) → Sp := fun ws vs H Q _ => ∃ (h m1 m2 : Addr) (Gc : Hp → Prop) (sc : List V → Hp → VK → Prop) (ch : Bool → Bool → Bool) (ls : Str) (a1 a2 : List Bool) (t1 t2 : List (List Nat)) (v : V) (a b : Nat), ws = [some (.ref h), some (.ref m1), some (.ref m2)] ∧ vs = [v] ∧
  FV P w K mg base 1 h Gc sc ∧ Gc H ∧ (∀ H1 x y (Q : VK), (∀ H2, Ex H1 H2 → Q (.bl (ch x y)) H2) → sc [.bl x, .bl y] H1 Q) ∧ KeyV H v (.t [a, b]) ∧ MachD K T.C_Machine H m1 ls a1 t1 ∧ MachD K T.C_Machine H m2 ls a2 t2 ∧ a < a1.length ∧ b < a2.length ∧ ∀ H', Ex H H' → Q (.bl (acP ch a1 a2 (.t [a, b]))) H'
theorem nok_acc2 (cl : List (Str × Addr)) (f c : Addr) : NdefX.NOk P w K mg base CX0 3 f (NdefX.NF.of s__first_of_two_accepts "accepts" "_first_of_two.<locals>.accepts" cl c) ["pair"] ["chosen", "first", "second"] (spAcc2 T P w base) := by
  refine nok_by (k := 2) sc__first_of_two_accepts (fun _ _ _ us hl => match us, hl with | [_], _ => rfl) (fun ws vs H Q E h => ?_) fun A outer s H vs ws Q E hr _ h => ?_
  · obtain ⟨_, _, _, _, _, _, _, _, _, _, _, _, _, _, _, rfl, _⟩ := h; rfl
  · obtain ⟨hh, m1, m2, Gc, sc, ch, ls, a1, a2, t1, t2, v, a, b, rfl, rfl, Fc, gc, hc, hv, M1, M2, ha, hb, q⟩ := h
    obtain ⟨d1, ta1, tt1, h1, hA1, hT1⟩ := id M1
    obtain ⟨d2, ta2, tt2, h2, hA2, hT2⟩ := id M2
    obtain ⟨p, rfl, hp⟩ := hv
    have sp : SqT K H p [vI a, vI b] := Evl.st_of hp
    refine ⟨_, (pss_one (ps_ret (pe_callQ (k := lvQ__first_of_two_accepts) (i := 1) (hr.mono (by decide)) rfl (by first | exact Or.inl rfl | exact Or.inr (Or.inl rfl) | exact Or.inr (Or.inr rfl)) (pa_cons (pe_ix (kIx K) (kFld K rfl (pe_fld (pv 2) rfl)) (pe_ix (kIx K) (pv 0) pe_int (fun _ _ => rfl)) (fun _ _ => rfl)) (pa_cons (pe_ix (kIx K) (kFld K rfl (pe_fld (pv 3) rfl)) (pe_ix (kIx K) (pv 0) pe_int (fun _ _ => rfl)) (fun _ _ => rfl)) pa_nil))))), ?_⟩
    walk_at "rc"
    refine ⟨hh, Gc, sc, rfl, Fc, gc, ?_⟩
    walk_at "rc"
    refine ⟨m1, _, d1, _, _, rfl, h1, T.cl_Machine, T.na_Machine_accepting, rfl, ?_⟩
    walk_at "rc"
    refine rd_ixT (v := vI a) sp (atI_nat (j := 0) rfl) ?_
    refine rd_flag (Evl.Ex.refl H) hA1 ha ?_
    walk_at "rc"
    refine ⟨m2, _, d2, _, _, rfl, h2, T.cl_Machine, T.na_Machine_accepting, rfl, ?_⟩
    walk_at "rc"
    refine rd_ixT (v := vI b) sp (atI_nat (j := 1) rfl) ?_
    refine rd_flag (Evl.Ex.refl H) hA2 hb ?_
    walk_at "rc"
    exact ⟨gc, hc H _ _ _ fun H2 e2 => q H2 e2⟩
def spTwo (P : Program) (w : World) (base : Heap) : Sp := fun vs H Q _ => ∃ (m1 m2 h : Addr) (Gc : Hp → Prop) (sc : List V → Hp → VK → Prop) (ch : Bool → Bool → Bool) (ls : Str) (a1 a2 : List Bool) (t1 t2 : List (List Nat)), vs = [.ref m1, .ref m2, .ref h] ∧ FV P w K mg base 1 h Gc sc ∧ Gc H ∧ (∀ H H', StE H H' → Gc H → Gc H') ∧
  (∀ H1 x y (Q : VK), (∀ H2, Ex H1 H2 → Q (.bl (ch x y)) H2) → sc [.bl x, .bl y] H1 Q) ∧ MachD K T.C_Machine H m1 ls a1 t1 ∧ GMw ls a1 t1 ∧ MachD K T.C_Machine H m2 ls a2 t2 ∧ GMw ls a2 t2 ∧ 0 < ls.length ∧ ls.length ≤ 1000 ∧ a1.length * a2.length ≤ 50000 ∧ Tbs nmT (Ps T) H ∧
  ∀ r H', Kp (Ps T) H H' → Tbs nmT (Ps T) H' → Lst ls.length (nxP t1 t2) (.t [0, 0]) (acP ch a1 a2) (a1.length * a2.length) r → Q (lstV ls r) H'
theorem ok__first_of_two (B : Bs T base) : FnOk P w K mg base CX0 6 T.a__first_of_two T.d__first_of_two ["first", "second", "chosen"] (spTwo T P w base) := by
  refine T.t__first_of_two.ok sc__first_of_two (fun vs H Q E h => ?_) (fun A outer s H vs Q E hr h => ?_)
  · obtain ⟨_, _, _, _, _, _, _, _, _, _, _, rfl, _⟩ := h; rfl
  · obtain ⟨m1, m2, hh, Gc, sc, ch, ls, a1, a2, t1, t2, rfl, Fc, gc, sg, hc, M1, g1, M2, g2, l0, l1, nn, hT, q⟩ := h
    refine ⟨_, (pss_cons (ps_ndf (i := 3) (nm := nmT) (Ps := Ps T) (st := s__first_of_two_step) rfl B.tb__first_of_two rfl B.in__first_of_two (by rfl) (fr := ["first", "second"]) (show NdefX.ndefB (defScope s__first_of_two) _ _ = true from by decide +kernel) rfl rfl rfl sc__first_of_two.nd rfl (by first | exact Or.inl rfl | exact Or.inr rfl) (by first | exact Or.inl rfl | exact Or.inr rfl))
  (pss_cons (ps_ndf (i := 4) (nm := nmT) (Ps := Ps T) (st := s__first_of_two_accepts) rfl B.tb__first_of_two rfl B.in__first_of_two (by rfl) (fr := ["chosen", "first", "second"]) (show NdefX.ndefB (defScope s__first_of_two) _ _ = true from by decide +kernel) rfl rfl rfl sc__first_of_two.nd rfl (by first | exact Or.inl rfl | exact Or.inr rfl) (by first | exact Or.inl rfl | exact Or.inr rfl))
  (pss_one (ps_ret (pe_callZ (ok_least_way T) (hr.mono (by decide)) T.o_least_way (fun _ => rfl) (pa_cons (kFld K rfl (pe_fld (pv 0) rfl)) (pa_cons (pe_tup (pa_cons pe_int (pa_cons pe_int pa_nil))) (pa_cons (pv 3) (pa_cons (pv 4) pa_nil))))))))), ?_⟩
    walk_at "rc"
    walk_at "rs"
    refine rd_ndf hT fun f1 c1 H1 k1 t1' n1 hf1 hc1 => ?_
    walk_at "rc"
    walk_at "rs"
    refine rd_ndf t1' fun f2 c2 H2 k2 t2' n2 hf2 hc2 => ?_
    have M1' := (M1.tbl hT B.in__first_of_two k1).tbl t1' B.in__first_of_two k2
    have M2' := (M2.tbl hT B.in__first_of_two k1).tbl t1' B.in__first_of_two k2
    obtain ⟨d1, ta1, tt1, h1, hA1, hT1⟩ := id M1'
    walk_at "rc"
    refine rd_callZ ?_
    walk_at "rc"
    refine ⟨m1, _, d1, _, _, rfl, h1, T.cl_Machine, T.na_Machine_letters, rfl, ?_⟩
    walk_at "rc"
    refine ⟨by show 2 ≤ sizeLine; decide, fun p hp => ?_⟩
    have e3 : Ex H2 (upd H2 p (.tup [.int 0, .int 0])) := Evl.Ex.new hp
    have h3 : upd H2 p (.tup [.int 0, .int 0]) p = some (.tup ([0, 0].map vI)) := upd_same
    generalize upd H2 p (.tup [.int 0, .int 0]) = H3 at e3 h3
    walk_at "rc"
    intro O ow
    have hf1' := e3 _ _ (t1'.kpX B.in__first_of_two k2 hf1 True.intro)
    have hc1' := e3 _ _ (t1'.kpX B.in__first_of_two k2 hc1 True.intro)
    obtain ⟨G1, as1, F1, gg1⟩ := ndf_made (k := 3) (ps := ["pair", "index"]) (fr := ["first", "second"]) (sp := spStep2 T) ow hf1' hc1' [0, 1] (show NdefX.ndefB (defScope s__first_of_two) _ _ = true from by decide +kernel) rfl fun cl => nok_step2 T cl f1 c1
    obtain ⟨G2, as2, F2, gg2⟩ := ndf_made (k := 3) (ps := ["pair"]) (fr := ["chosen", "first", "second"]) (sp := spAcc2 T P w base) ow (e3 _ _ hf2) (e3 _ _ hc2) [2, 0, 1] (show NdefX.ndefB (defScope s__first_of_two) _ _ = true from by decide +kernel) rfl fun cl => nok_acc2 T cl f2 c2
    have n3 := M1'.ex e3
    have M13 := (M1'.ex e3).ex (fz_ex (O := O) ow.non)
    have M23 := (M2'.ex e3).ex (fz_ex (O := O) ow.non)
    have st : StE H H3 := fun b φ z => e3 _ _ (t1'.kpX B.in__first_of_two k2 (hT.kpX B.in__first_of_two k1 z True.intro) True.intro)
    have gc3 := sg _ _ (st.trans (StE.of_ex (fz_ex (O := O) ow.non))) gc
    refine ⟨ls, .ref p, f1, f2, .t [0, 0], nxP t1 t2, acP ch a1 a2, prs a1.length a2.length, rfl, ⟨p, rfl, fz_ex ow.non _ _ h3⟩, l0, l1, ⟨⟨G1, _, F1, gg1, fun H5 v kk j Q e hv hk hj q => ?_⟩, ⟨G2, _, F2, gg2, fun H5 v kk Q e hv hk q => ?_⟩, fun kk hk j hj => ?_, fun a ha b hb => ?_⟩, mem_prs.mpr ⟨0, 0, g1.m.p, g2.m.p, rfl⟩, ?_, fun r H5 e L => ?_⟩
    · obtain ⟨a, b, ha, hb, rfl⟩ := mem_prs.mp hk
      intro W
      obtain ⟨pv, rfl, hpv⟩ := hv
      refine ⟨m1, m2, ls, a1, a2, t1, t2, .ref pv, a, b, j, rfl, rfl, ⟨pv, rfl, ?_⟩, (M13.ex e).fr W, g1, (M23.ex e).fr W, g2, ha, hb, hj, fun v' H6 e6 hv' => ?_⟩
      · rw [hid_at fun z => by obtain ⟨o, y⟩ := W pv z; rw [hpv] at y; cases y]
        exact hpv
      · intro gone
        refine q v' _ (rz_ex e6) (hv'.ex fun b xs z => ?_)
        rw [rz_at fun m => by rw [gone b m] at z; cases z]
        exact z
    · obtain ⟨a, b, ha, hb, rfl⟩ := mem_prs.mp hk
      intro W
      obtain ⟨pv, rfl, hpv⟩ := hv
      refine ⟨hh, m1, m2, Gc, sc, ch, ls, a1, a2, t1, t2, .ref pv, a, b, rfl, rfl, Fc, sg _ _ ((StE.of_ex e).trans (StE.hid W)) gc3, hc, ⟨pv, rfl, ?_⟩, (M13.ex e).fr W, (M23.ex e).fr W, ha, hb, fun H6 e6 _ => q _ (rz_ex e6)⟩
      rw [hid_at fun z => by obtain ⟨o, y⟩ := W pv z; rw [hpv] at y; cases y]
      exact hpv
    · obtain ⟨a, b, ha, hb, rfl⟩ := mem_prs.mp hk
      obtain ⟨_, x, _, _, _, hx, hx2⟩ := g1.at' ha hj
      obtain ⟨_, y, _, _, _, hy, hy2⟩ := g2.at' hb hj
      exact mem_prs.mpr ⟨_, _, hx ▸ hx2, hy ▸ hy2, rfl⟩
    · obtain ⟨_, _, _, _, rfl⟩ := mem_prs.mp ha
      obtain ⟨_, _, _, _, rfl⟩ := mem_prs.mp hb
      rfl
    · rw [len_prs]; exact nn
    · rw [len_prs] at L
      have e2 := fz_out ow.non e
      exact q r _ ((kp_one B.in__first_of_two k1).trans ((kp_one B.in__first_of_two k2).trans (Kp.of_ex (e3.trans e2)))) (t2'.ex (e3.trans e2)) L
end
end
section
section
variable (T : Txt K mg)
def spPair (ch : Bool → Bool → Bool) : Sp := fun vs H Q _ => ∃ (m1 m2 : Addr) (ls : Str) (a1 a2 : List Bool) (t1 t2 : List (List Nat)), vs = [.ref m1, .ref m2] ∧ MachD K T.C_Machine H m1 ls a1 t1 ∧ GMw ls a1 t1 ∧ MachD K T.C_Machine H m2 ls a2 t2 ∧ GMw ls a2 t2 ∧ 0 < ls.length ∧ ls.length ≤ 1000 ∧ a1.length * a2.length ≤ 50000 ∧ Tbs nmT (Ps T) H ∧
  ∀ r H', Kp (Ps T) H H' → Tbs nmT (Ps T) H' → Lst ls.length (nxP t1 t2) (.t [0, 0]) (acP ch a1 a2) (a1.length * a2.length) r → Q (lstV ls r) H'
def chOut (x y : Bool) : Bool := x && !y
def chPart (x y : Bool) : Bool := x != y
theorem ok_outside (B : Bs T base) : FnOk P w K mg base CX0 7 T.a_outside T.d_outside ["first", "second"] (spPair T chOut) := by
  refine T.t_outside.ok sc_outside (fun vs H Q E h => ?_) (fun A outer s H vs Q E hr h => ?_)
  · obtain ⟨_, _, _, _, _, _, _, rfl, _⟩ := h; rfl
  · obtain ⟨m1, m2, ls, a1, a2, t1, t2, rfl, M1, g1, M2, g2, l0, l1, nn, hT, q⟩ := h
    refine ⟨_, (pss_one (ps_ret (pe_callZ (ok__first_of_two T B) (hr.mono (by decide)) T.o__first_of_two (fun _ => rfl) (pa_cons (pv 0) (pa_cons (pv 1) (pa_cons (pe_lmd (nm := nmT) (Ps := Ps T) B.tb_outside rfl B.in_outside (by rfl) (fr := []) (show NdefX.ndefB (defScope s_outside) _ _ = true from by decide +kernel) rfl) pa_nil)))))), ?_⟩
    walk_at "rc"
    refine rd_callZ ?_
    walk_at "rc"
    refine ⟨hT, fun f c H1 k1 t1' n1 hf hc => ?_⟩
    walk_at "rc"
    intro O ow
    obtain ⟨G, F, gg, sg⟩ := lam_free (P := P) (w := w) (K := K) (mg := mg) (base := base) (k := 0) (N := ["one", "other"]) (ps := ["one", "other"]) (sp := fun vs H Q _ => ∃ x y, vs = [V.bl x, V.bl y] ∧ ∀ H2, Ex H H2 → Q (.bl (chOut x y)) H2) hf hc (by rfl) (NdefX.nscope_by (by decide +kernel)) (fun _ _ us hl => match us, hl with | [_, _], _ => rfl)
      (fun vs H Q E h => by obtain ⟨_, _, rfl, _⟩ := h; rfl) fun A outer s H vs Q hr h => by
        obtain ⟨x, y, rfl, q⟩ := h
        refine ⟨_, (pe_and (pv 0) (pe_one (pe_not (pv 1)))), ?_⟩
        walk_at "rc"
        have := q H (Evl.Ex.refl H)
        refine rd_andV ?_
        walk_at "rc"
        cases x
        · exact rd_iteF this
        · refine rd_iteT ?_
          walk_at "rc"
          exact this
    refine ⟨m1, m2, f, G, _, chOut, ls, a1, a2, t1, t2, rfl, F, sg _ _ (StE.of_ex (fz_ex ow.non)) gg, sg, fun H1 x y Q q => ⟨x, y, rfl, q⟩, (M1.tbl hT B.in_outside k1).ex (fz_ex ow.non), g1, (M2.tbl hT B.in_outside k1).ex (fz_ex ow.non), g2, l0, l1, nn, t1'.ex (fz_ex ow.non), fun r H' k t L => ?_⟩
    obtain ⟨k2, t2'⟩ := out_T ow.non t1' k t
    exact q r _ ((kp_one B.in_outside k1).trans k2) t2' L
theorem ok_parting (B : Bs T base) : FnOk P w K mg base CX0 7 T.a_parting T.d_parting ["first", "second"] (spPair T chPart) := by
  refine T.t_parting.ok sc_parting (fun vs H Q E h => ?_) (fun A outer s H vs Q E hr h => ?_)
  · obtain ⟨_, _, _, _, _, _, _, rfl, _⟩ := h; rfl
  · obtain ⟨m1, m2, ls, a1, a2, t1, t2, rfl, M1, g1, M2, g2, l0, l1, nn, hT, q⟩ := h
    refine ⟨_, (pss_one (ps_ret (pe_callZ (ok__first_of_two T B) (hr.mono (by decide)) T.o__first_of_two (fun _ => rfl) (pa_cons (pv 0) (pa_cons (pv 1) (pa_cons (pe_lmd (nm := nmT) (Ps := Ps T) B.tb_parting rfl B.in_parting (by rfl) (fr := []) (show NdefX.ndefB (defScope s_parting) _ _ = true from by decide +kernel) rfl) pa_nil)))))), ?_⟩
    walk_at "rc"
    refine rd_callZ ?_
    walk_at "rc"
    refine ⟨hT, fun f c H1 k1 t1' n1 hf hc => ?_⟩
    walk_at "rc"
    intro O ow
    obtain ⟨G, F, gg, sg⟩ := lam_free (P := P) (w := w) (K := K) (mg := mg) (base := base) (k := 0) (N := ["one", "other"]) (ps := ["one", "other"]) (sp := fun vs H Q _ => ∃ x y, vs = [V.bl x, V.bl y] ∧ ∀ H2, Ex H H2 → Q (.bl (chPart x y)) H2) hf hc (by rfl) (NdefX.nscope_by (by decide +kernel)) (fun _ _ us hl => match us, hl with | [_, _], _ => rfl)
      (fun vs H Q E h => by obtain ⟨_, _, rfl, _⟩ := h; rfl) fun A outer s H vs Q hr h => by
        obtain ⟨x, y, rfl, q⟩ := h
        refine ⟨_, (pe_cmpR (kNe K rfl hr.units) (pv 0) (pv 1) (by first | rfl | exact nomark _)), ?_⟩
        walk_at "rc"
        refine rd_neB ?_
        exact q H (Evl.Ex.refl H)
    refine ⟨m1, m2, f, G, _, chPart, ls, a1, a2, t1, t2, rfl, F, sg _ _ (StE.of_ex (fz_ex ow.non)) gg, sg, fun H1 x y Q q => ⟨x, y, rfl, q⟩, (M1.tbl hT B.in_parting k1).ex (fz_ex ow.non), g1, (M2.tbl hT B.in_parting k1).ex (fz_ex ow.non), g2, l0, l1, nn, t1'.ex (fz_ex ow.non), fun r H' k t L => ?_⟩
    obtain ⟨k2, t2'⟩ := out_T ow.non t1' k t
    exact q r _ ((kp_one B.in_parting k1).trans k2) t2' L
def spEmpty : Sp := fun vs H Q _ => ∃ (m : Addr) (ls : Str) (acc : List Bool) (tab : List (List Nat)), vs = [.ref m] ∧ MachD K T.C_Machine H m ls acc tab ∧ GMw ls acc tab ∧ 0 < ls.length ∧ ls.length ≤ 1000 ∧ Tbs nmT (Ps T) H ∧
  ∀ r H', Kp (Ps T) H H' → Tbs nmT (Ps T) H' → Lst ls.length (nxM tab) (.i 0) (acM acc) acc.length r → Q (.bl r.isNone) H'
theorem ok_is_empty (B : Bs T base) : FnOk P w K mg base CX0 7 T.a_is_empty T.d_is_empty ["machine"] (spEmpty T) := by
  refine T.f_is_empty.ok sc_is_empty (fun vs H Q E h => ?_) (fun cdv A outer s H vs Q E hr h => ?_)
  · obtain ⟨_, _, _, _, rfl, _⟩ := h; rfl
  · obtain ⟨m, ls, acc, tab, rfl, hM, g, l0, l1, hT, q⟩ := h
    refine ⟨_, (pss_one (ps_ret (pe_cmpR op_isN (pe_callE (ok_first_text T B) (hr.mono (by decide)) T.o_first_text (pa_cons (pv 0) pa_nil)) pe_non (by first | rfl | exact nomark _)))), ?_⟩
    walk_at "rc"
    refine ⟨m, ls, acc, tab, rfl, hM, g, l0, l1, hT, fun r H' k t L => ?_⟩
    have := q r H' k t L
    cases r with
    | none =>
      walk_at "rc"
      exact this
    | some u =>
      walk_at "rc"
      exact this
end
end
section
/-! ### all texts of few letters, in order -/
theorem len_lvW (w : Nat) : ∀ n, (lvW w n).length = w ^ n
  | 0 => rfl
  | n + 1 => by
    show ((lvW w n).flatMap _).length = _
    rw [List.length_flatMap, Nat.pow_succ, ← len_lvW w n]
    generalize lvW w n = l
    induction l with
    | nil => simp
    | cons u l ih => rw [List.map_cons, List.sum_cons, ih, List.length_map, List.length_range, List.length_cons, Nat.succ_mul]; omega
theorem len_rowsW {w b : Nat} (hw : w ≤ b) (b0 : 0 < b) : ∀ n, (rowsW w n).length ≤ (n + 1) * b ^ n
  | 0 => by show 1 ≤ _; simp
  | n + 1 => by
    show (rowsW w n ++ lvW w (n + 1)).length ≤ _
    rw [List.length_append, len_lvW]
    have h1 := len_rowsW hw b0 n
    have h2 : w ^ (n + 1) ≤ b ^ (n + 1) := Nat.pow_le_pow_left hw _
    have h3 : (n + 1) * b ^ n ≤ (n + 1) * b ^ (n + 1) := Nat.mul_le_mul_left _ (Nat.pow_le_pow_right b0 (Nat.le_succ n))
    rw [Nat.succ_mul (n + 1)]
    omega
theorem map_getD {α β : Type} (l : List α) (d : α) (f : α → β) : (List.range l.length).map (fun j => f (l.getD j d)) = l.map f := by
  refine List.ext_getElem (by simp) fun i h1 h2 => ?_
  rw [List.getElem_map, List.getElem_range, List.getElem_map, List.getD_eq_getElem?_getD, List.getElem?_eq_getElem (by simpa using h2)]
  rfl
theorem longer (ls : Str) (u : List Nat) : (ls.cps.toList.map fun c => tx ls u ++ (⟨#[c]⟩ : Str)) = ((List.range ls.length).map fun j => u ++ [j]).map (tx ls) := by
  rw [List.map_map, ← map_getD ls.cps.toList 0 fun c => tx ls u ++ (⟨#[c]⟩ : Str)]
  refine List.map_congr_left fun j _ => ?_
  show _ = tx ls (u ++ [j])
  rw [tx_snoc]
def spTextsX : Sp := fun vs H Q _ => ∃ (ls : Str) (most b : Nat), vs = [.str ls, .int (most : Int)] ∧ ls.length ≤ b ∧ 0 < b ∧ b ≤ 3 ∧ most ≤ 9 ∧ ∀ (p : Addr) (H' : Hp), Ex H H' → H' p = some (.lst (((rowsW ls.length most).map (tx ls)).map V.str)) → Q (.ref p) H'
theorem pow_le3 {l k m : Nat} (h : l ≤ 3) (hk : k ≤ m) : l ^ k ≤ 3 ^ m := Nat.le_trans (Nat.pow_le_pow_left h k) (Nat.pow_le_pow_right (by decide) hk)
theorem ok_texts (T : Txt K mg) : FnOk P w K mg base CX0 1 T.a_texts T.d_texts ["letters", "most"] spTextsX := by
  refine T.f_texts.ok sc_texts (fun vs H Q E h => ?_) (fun cdv A outer s H vs Q E hr h => ?_)
  · obtain ⟨_, _, _, rfl, _⟩ := h; rfl
  · obtain ⟨ls, most, b, rfl, lb, b0, b3, m9, q⟩ := h
    have l3 : ls.length ≤ 3 := Nat.le_trans lb b3
    have sl : sizeLine ≥ 1000000 := by decide
    have p9 : (3 : Nat) ^ 9 = 19683 := by decide
    have lvB : ∀ k, k ≤ 9 → (lvW ls.length k).length ≤ 19683 := fun k hk => by rw [len_lvW, ← p9]; exact pow_le3 l3 hk
    have rowB : ∀ k, k ≤ 9 → (rowsW ls.length k).length ≤ 10 * 19683 := fun k hk => Nat.le_trans (len_rowsW lb b0 k) (Nat.mul_le_mul (by omega) (p9 ▸ pow_le3 b3 hk))
    refine ⟨_, (pss_cons (ps_set (i := 2) sc_texts.nd rfl (by first | exact Or.inl rfl | exact Or.inr rfl) (pe_lst (pa_cons pe_str pa_nil)))
  (pss_cons (ps_set (i := 3) sc_texts.nd rfl (by first | exact Or.inl rfl | exact Or.inr rfl) (pe_lst (pa_cons pe_str pa_nil)))
  (pss_cons (ps_for PassesOwn.never rfl (pi_range1 (by rfl) T.nb_range (pa_cons (pv 1) pa_nil)) (pg_name (i := 4) sc_texts.nd rfl (by first | exact Or.inl rfl | exact Or.inr rfl))
    (pss_cons (ps_set (i := 5) sc_texts.nd rfl (by first | exact Or.inl rfl | exact Or.inr rfl) (pe_lst pa_nil))
  (pss_cons (ps_for PassesOwn.never rfl (kAny K rfl (pv 2)) (pg_name (i := 6) sc_texts.nd rfl (by first | exact Or.inl rfl | exact Or.inr rfl))
    (pss_one (ps_set (i := 5) sc_texts.nd rfl (by first | exact Or.inl rfl | exact Or.inr rfl) (pe_op (kAdd K) (pv 5) (pe_lc (own := [("letter", 7)]) (g := gName 7) (tt := tYes) (by rfl) sc_texts.nd (kAny K rfl (pv 0)) (blkOk_by (own := [("letter", 7)]) (N := ["letters", "most", "last", "rows", "k", "longer", "text", "letter"]) (sc := defScope s_texts) (by decide +kernel)) (fun _ _ _ _ _ => (pg_name (i := 7) sc_texts.nd rfl (by first | exact Or.inl rfl | exact Or.inr rfl))) (fun _ _ _ _ _ => pts_nil) (fun _ _ _ _ _ => (pe_op (kAdd K) (pv 6) (pv 7))))))))
  (pss_cons (ps_set (i := 2) sc_texts.nd rfl (by first | exact Or.inl rfl | exact Or.inr rfl) (pv 5))
  (pss_one (ps_set (i := 3) sc_texts.nd rfl (by first | exact Or.inl rfl | exact Or.inr rfl) (pe_op (kAdd K) (pv 3) (pv 2))))))))
  (pss_one (ps_ret (pv 3)))))), ?_⟩
    walk_at "rc"
    refine ⟨by decide, fun p1 hp1 => ?_⟩
    have e1 : Ex H (upd H p1 (.lst [.str ""])) := Evl.Ex.new hp1
    have h1 : upd H p1 (.lst [.str ""]) p1 = some (.lst (((lvW ls.length 0).map (tx ls)).map V.str)) := upd_same
    generalize upd H p1 (.lst [.str ""]) = H1 at e1 h1
    walk_at "rc"
    refine ⟨by decide, fun p2 hp2 => ?_⟩
    have e2 : Ex H1 (upd H1 p2 (.lst [.str ""])) := Evl.Ex.new hp2
    have h2 : upd H1 p2 (.lst [.str ""]) p2 = some (.lst (((rowsW ls.length 0).map (tx ls)).map V.str)) := upd_same
    generalize upd H1 p2 (.lst [.str ""]) = H2 at e2 h2
    walk_at "rc"
    walk_at "rs"
    walk_at "rc"
    refine ⟨(most : Int), rfl, by omega, by omega, fo_range (n := (most : Int).toNat) (fun k σ H' => ∃ (la ro : Addr) (k4 k5 k6 k7 : Option V), σ = [some (.str ls), some (.int (most : Int)), some (.ref la), some (.ref ro), k4, k5, k6, k7] ∧ Ex H H' ∧ H' la = some (.lst (((lvW ls.length k).map (tx ls)).map V.str)) ∧ H' ro = some (.lst (((rowsW ls.length k).map (tx ls)).map V.str)))
      ⟨p1, p2, _, _, _, _, rfl, e1.trans e2, e2 _ _ h1, h2⟩ ?_ ?_⟩
    · rintro k σ H3 hk ⟨la, ro, k4, k5, k6, k7, rfl, e3, hla, hro⟩
      have hk9 : k < 9 := by omega
      walk_at "rc"
      refine ⟨by decide, fun lo hlo => ?_⟩
      have e4 : Ex H3 (upd H3 lo (.lst [])) := Evl.Ex.new hlo
      have h4 : upd H3 lo (.lst []) lo = some (.lst (([] : List Str).map V.str)) := upd_same
      generalize upd H3 lo (.lst []) = H4 at e4 h4
      walk_at "rc"
      walk_at "rs"
      walk_at "rc"
      refine rd_anyL (fun Q q => ⟨_, rfl, q⟩) (SqL.of (e4 _ _ hla)) (fo_list (fun i σ H' => ∃ (lo : Addr) (k6 k7 : Option V), σ = [some (.str ls), some (.int (most : Int)), some (.ref la), some (.ref ro), some (.int (k : Nat)), some (.ref lo), k6, k7] ∧ Ex H3 H' ∧ H' lo = some (.lst (((((lvW ls.length k).take i).flatMap fun u => (List.range ls.length).map fun j => u ++ [j]).map (tx ls)).map V.str)) ∧
          (((lvW ls.length k).take i).flatMap fun u => (List.range ls.length).map fun j => u ++ [j]).length ≤ i * 3)
        ⟨lo, _, _, rfl, e4, h4, by simp⟩ (fun i σ H' _ ⟨_, _, _, _, e, _⟩ => SqL.of (e _ _ hla)) ?_ ?_)
      · rintro i x σ H5 hi ⟨lo, k6, k7, rfl, e5, hlo5, lu⟩
        rw [List.getElem?_map, List.getElem?_map] at hi
        obtain ⟨t, ht, rfl⟩ := Option.map_eq_some_iff.mp hi
        obtain ⟨u, hu, rfl⟩ := Option.map_eq_some_iff.mp ht
        have hul := (mem_lvW.mp (List.mem_of_getElem? hu)).2
        have hiw := (List.getElem?_eq_some_iff.mp hu).1
        have hi9 := lvB k (by omega)
        walk_at "rc"
        refine rd_anyS (fun Q q => ⟨_, rfl, q⟩) ?_
        refine lc_F (K := K) (S := []) (P := fun i x => ∃ c, ls.cps.toList[i]? = some c ∧ x = V.str ⟨#[c]⟩) tr_ex (fun b hb => nomatch hb) walk_str str_Y (by show ls.length < 100000; omega) (fun _ _ => True.intro) (fun _ => true) (fun i => .str (tx ls u ++ (⟨#[ls.cps.toList.getD i 0]⟩ : Str))) (hg_name fun v => rfl) (fun L i σ2 Hc hi p2 hL nL t1 hs1 up N hN => rd_yes (hN Hc (Evl.Ex.refl Hc))) (fun L i σ2 Hc hi p2 hp2 hL nL t1 hs1 up N hN => ?_) fun L vs H6 e6 hL nL hvs hds => ?_
        · obtain ⟨x, ⟨c, hc, rfl⟩, rfl⟩ := p2
          walk_at "rc"
          have e : ls.cps.toList.getD i 0 = c := by rw [List.getD_eq_getElem?_getD, hc]; rfl
          refine rd_addS (x := tx ls u) (y := ⟨#[c]⟩) (by show (tx ls u).length + 1 ≤ sizeLine; rw [tx_len]; omega) ?_
          refine hN _ Hc (Evl.Ex.refl Hc) ?_
          rw [e]
          exact .str _
        · have ev : ((List.range ls.cps.size).filter (fun _ => true)).map (fun i => PyData.str (tx ls u ++ (⟨#[ls.cps.toList.getD i 0]⟩ : Str))) = (((List.range ls.length).map fun j => u ++ [j]).map (tx ls)).map PyData.str := by
            rw [List.filter_eq_self.mpr (fun _ _ => rfl), ← longer, List.map_map]
            exact map_getD ls.cps.toList 0 fun c => PyData.str (tx ls u ++ (⟨#[c]⟩ : Str))
          rw [ev] at hds
          have ee := dp_strs hds
          subst ee
          have snoc : ((lvW ls.length k).take (i + 1)).flatMap (fun u => (List.range ls.length).map fun j => u ++ [j]) = ((lvW ls.length k).take i).flatMap (fun u => (List.range ls.length).map fun j => u ++ [j]) ++ (List.range ls.length).map fun j => u ++ [j] := by
            rw [List.take_succ, hu, List.flatMap_append]
            simp
          refine rd_cat (e6 _ _ hlo5) hvs (by simp only [List.length_map, List.length_range]; omega) fun p7 hp7 => ?_
          walk_at "rc"
          refine ⟨p7, _, _, rfl, ex_upd (e5.trans e6) hp7, by rw [upd_same, snoc, List.map_append, List.map_append], ?_⟩
          rw [snoc, List.length_append, List.length_map, List.length_range]
          omega
      · rintro σ H5 ⟨lo, k6, k7, rfl, e5, hlo5, lu⟩
        rw [List.length_map, List.length_map, List.take_length] at hlo5 lu
        walk_at "rc"
        have hro5 := e5 _ _ hro
        have b1 := rowB k (by omega)
        have b2 := lvB (k + 1) (by omega)
        refine rd_cat hro5 hlo5 (by rw [List.length_map, List.length_map, List.length_map, List.length_map]; show _ + (lvW ls.length (k + 1)).length ≤ _; omega) fun p6 hp6 => ?_
        walk_at "rc"
        refine ⟨lo, p6, _, _, _, _, rfl, ex_upd (e3.trans e5) hp6, at_upd hp6 hlo5, ?_⟩
        rw [upd_same]
        show _ = some (HO.lst (((rowsW ls.length k ++ lvW ls.length (k + 1)).map (tx ls)).map V.str))
        rw [List.map_append, List.map_append]
        rfl
    · rintro σ H3 ⟨la, ro, k4, k5, k6, k7, rfl, e3, hla, hro⟩
      rw [Int.toNat_natCast] at hro
      walk_at "rc"
      exact q ro H3 e3 hro
end
section
/-! ### the law's own reading of a machine -/
theorem tx_at {ls : Str} {u : List Nat} {i c : Nat} (h : (tx ls u).cps.toList[i]? = some c) : ∃ j, u[i]? = some j ∧ c = ls.cps.toList.getD j 0 := by
  rw [tx_list, List.getElem?_map] at h
  obtain ⟨j, hj, e⟩ := Option.map_eq_some_iff.mp h
  exact ⟨j, hj, e.symm⟩
theorem idx_of {l : List Nat} (nd : l.Nodup) {j : Nat} (hj : j < l.length) : l.getD j 0 ∈ l ∧ l.idxOf (l.getD j 0) = j := by
  have e : l.getD j 0 = l[j] := by rw [List.getD_eq_getElem?_getD, List.getElem?_eq_getElem hj]; rfl
  rw [e]
  refine ⟨List.getElem_mem hj, ?_⟩
  exact List.Nodup.idxOf_getElem nd j hj
theorem fold_take {κ : Type} {nx : κ → Nat → κ} {st : κ} {u : List Nat} {i j : Nat} (h : u[i]? = some j) : (u.take (i + 1)).foldl nx st = nx ((u.take i).foldl nx st) j := by
  rw [List.take_succ, h, List.foldl_append]
  rfl
theorem run_st {ls : Str} {acc : List Bool} {tab : List (List Nat)} (g : GMw ls acc tab) : ∀ {u : List Nat} {s : Nat}, Lw ls.length u → s < acc.length → ∃ t, u.foldl (nxM tab) (.i s) = .i t ∧ t < acc.length
  | [], s, _, hs => ⟨s, rfl, hs⟩
  | j :: u, s, hu, hs => by
    obtain ⟨_, x, _, _, _, hx, hx2⟩ := g.at' hs (hu j List.mem_cons_self)
    have := run_st g (u := u) (s := x) (fun y hy => hu y (List.mem_cons_of_mem _ hy)) hx2
    rw [← hx] at this
    exact this
theorem Lw.take {w : Nat} {u : List Nat} (h : Lw w u) (i : Nat) : Lw w (u.take i) := fun x hx => h x (List.mem_of_mem_take hx)
def spAccepts : Sp := fun vs H Q _ => ∃ (ls : Str) (va vt : V) (acc : List Bool) (tab : List (List Nat)) (u : List Nat), vs = [.str ls, va, vt, .str (tx ls u)] ∧ Dp K H va (.list (acc.map PyData.bool)) ∧ Dp K H vt (nL tab) ∧ GMw ls acc tab ∧ ls.cps.toList.Nodup ∧ Lw ls.length u ∧ Q (.bl (acM acc (u.foldl (nxM tab) (.i 0)))) H
theorem ok_accepts (T : Txt K mg) : FnOk P w K mg base CX0 1 T.a_accepts T.d_accepts ["letters", "accepting", "table", "text"] (spAccepts (K := K)) := by
  refine T.f_accepts.ok sc_accepts (fun vs H Q E h => ?_) (fun cdv A outer s H vs Q E hr h => ?_)
  · obtain ⟨_, _, _, _, _, _, rfl, _⟩ := h; rfl
  · obtain ⟨ls, va, vt, acc, tab, u, rfl, hA, hT, g, nd, hu, q⟩ := h
    refine ⟨_, (pss_cons (ps_set (i := 4) sc_accepts.nd rfl (by first | exact Or.inl rfl | exact Or.inr rfl) pe_int)
  (pss_cons (ps_for PassesOwn.never rfl (kAny K rfl (pv 3)) (pg_name (i := 5) sc_accepts.nd rfl (by first | exact Or.inl rfl | exact Or.inr rfl))
    (pss_one (ps_set (i := 4) sc_accepts.nd rfl (by first | exact Or.inl rfl | exact Or.inr rfl) (pe_ix (kIx K) (pe_ix (kIx K) (pv 2) (pv 4) (fun _ _ => rfl)) (kBm K rfl (pe_bm PySem.F.plainAttrs_str PySem.F.slot_str_index PySem.F.type_str_index mt_strIdx (pv 0) (pa_cons (pv 5) pa_nil))) (fun _ _ => rfl)))))
  (pss_one (ps_ret (pe_ix (kIx K) (pv 1) (pv 4) (fun _ _ => rfl)))))), ?_⟩
    walk_at "rc"
    walk_at "rs"
    walk_at "rc"
    refine rd_anyS (fun Q q => ⟨_, rfl, q⟩) ?_
    refine fo_str (fun i σ H' => ∃ (s : Nat) (k5 : Option V), σ = [some (.str ls), some va, some vt, some (.str (tx ls u)), some (.int (s : Int)), k5] ∧ H' = H ∧ (u.take i).foldl (nxM tab) (.i 0) = .i s ∧ s < acc.length) ⟨0, _, rfl, rfl, rfl, g.m.p⟩ ?_ ?_
    · rintro i c σ H' hc ⟨s, k5, rfl, rfl, hs, hsl⟩
      obtain ⟨j, hj, rfl⟩ := tx_at hc
      have hjl : j < ls.length := hu j (List.mem_of_getElem? hj)
      obtain ⟨hm, hi⟩ := idx_of nd (j := j) hjl
      walk_at "rc"
      obtain ⟨row, x, hr, hx, e1, e2, hxl⟩ := g.at' hsl hjl
      refine rd_ixDL (Evl.Ex.refl H') hT (d := .list (row.map nI)) (by rw [List.getElem?_map, hr]; rfl) fun v hv => ?_
      walk_at "rc"
      refine ⟨rfl, ?_⟩
      walk_at "rc"
      refine ⟨ls, _, rfl, rfl, hm, ?_⟩
      rw [hi]
      refine rd_ixDL (Evl.Ex.refl H') hv (d := nI x) (by rw [List.getElem?_map, hx]; rfl) fun v2 hv2 => ?_
      cases Dp.int_iff hv2
      walk_at "rc"
      refine ⟨x, _, rfl, rfl, ?_, hxl⟩
      rw [fold_take hj, hs]
      show KE.i _ = KE.i x
      rw [e2]
    · rintro σ H' ⟨s, k5, rfl, rfl, hs, hsl⟩
      rw [tx_len, List.take_length] at hs
      rw [hs] at q
      walk_at "rc"
      obtain ⟨b, hb⟩ := getQ hsl
      refine rd_ixDL (Evl.Ex.refl H') hA (d := .bool b) (by rw [List.getElem?_map, hb]; rfl) fun v hv => ?_
      cases Dp.bl_iff hv
      have e : acM acc (.i s) = b := by
        show acc.getD s false = b
        rw [List.getD_eq_getElem?_getD, hb]; rfl
      rw [e] at q
      exact q
/-- a ring that accepts at one state -/
def ringA (n r : Nat) : List Bool := (List.range n).map fun k => decide (k = r)
def ringT (n w : Nat) : List (List Nat) := tabF n w fun s _ => (s + 1) % n
theorem tabF_dp (n w : Nat) (f : Nat → Nat → Nat) : ((List.range n).filter fun _ => true).map (fun s => PyData.list (((List.range w).filter fun _ => true).map fun j => nI (f s j))) = (tabF n w f).map fun row => PyData.list (row.map nI) := by
  rw [List.filter_eq_self.mpr fun _ _ => rfl, List.filter_eq_self.mpr fun _ _ => rfl]
  unfold tabF
  rw [List.map_map]
  refine List.map_congr_left fun s _ => ?_
  show PyData.list _ = PyData.list (((List.range w).map (f s)).map nI)
  rw [List.map_map]
  rfl
theorem ring_gm {ls : Str} {n r : Nat} (n0 : 0 < n) (n1 : n ≤ 1000) (w1 : ls.length ≤ 100) : GMw ls (ringA n r) (ringT n ls.length) := by
  obtain ⟨g, hw⟩ := tabF_gm (n := n) (w := ls.length) (f := fun s _ => (s + 1) % n) (acc := ringA n r) n0 n1 w1 (fun s j _ _ => Nat.mod_lt _ n0) (by unfold ringA; simp)
  exact ⟨g, hw⟩
section
variable (T : Txt K mg)
def spRing : Sp := fun vs H Q _ => ∃ (ls : Str) (n r : Nat), vs = [.str ls, .int (n : Int), .int (r : Int)] ∧ 0 < ls.length ∧ ls.length ≤ 100 ∧ 0 < n ∧ n ≤ 1000 ∧ ∀ m H', Ex H H' → MachD K T.C_Machine H' m ls (ringA n (r % n)) (ringT n ls.length) → MachF T.C_Machine H' m ls (ringA n (r % n)) → Q (.ref m) H'
theorem ok_ring : FnOk P w K mg base CX0 7 T.a_ring T.d_ring ["letters", "many", "wanted"] (spRing T) := by
  refine T.f_ring.ok sc_ring (fun vs H Q E h => ?_) (fun cdv A outer s H vs Q E hr h => ?_)
  · obtain ⟨_, _, _, rfl, _⟩ := h; rfl
  · obtain ⟨ls, n, r, rfl, l0, l1, n0, n1, q⟩ := h
    refine ⟨_, (pss_cons (ps_setLc (i := 3) (own := [("k", 4)]) (g := gName 4) (tt := tYes) (by rfl) sc_ring.nd rfl rfl (sw_true rfl rfl rfl (by decide +kernel)) (pi_range1 (by rfl) T.nb_range (pa_cons (pv 1) pa_nil)) (blkOk_by (own := [("k", 4)]) (N := ["letters", "many", "wanted", "accepting", "k", "letter"]) (sc := defScope s_ring) (by decide +kernel)) (fun _ _ _ _ _ => (pg_name (i := 4) sc_ring.nd rfl (by first | exact Or.inl rfl | exact Or.inr rfl))) (fun _ _ _ _ _ => pts_nil) (fun _ _ _ _ _ => (pe_cmpR (kEq K rfl hr.units) (pv 4) (pe_op op_modP (pv 2) (pv 1)) (by first | rfl | exact nomark _))))
  (pss_one (ps_ret (pe_makeR T.mk_Machine (ok_Machine_init T) (hr.mono (by decide)) T.g_Machine T.b_Machine_init takes0 (pa_cons (pv 0) (pa_cons (pv 3) (pa_cons (pe_lc (own := [("k", 4)]) (g := gName 4) (tt := tYes) (by rfl) sc_ring.nd (pi_range1 (by rfl) T.nb_range (pa_cons (pv 1) pa_nil)) (blkOk_by (own := [("k", 4)]) (N := ["letters", "many", "wanted", "accepting", "k", "letter"]) (sc := defScope s_ring) (by decide +kernel)) (fun _ _ _ _ _ => (pg_name (i := 4) sc_ring.nd rfl (by first | exact Or.inl rfl | exact Or.inr rfl))) (fun _ _ _ _ _ => pts_nil) (fun _ _ _ _ _ => (pe_lc (own := [("letter", 5)]) (g := gName 5) (tt := tYes) (by rfl) sc_ring.nd (kAny K rfl (pv 0)) (by exact blkOk_in (N := ["letters", "many", "wanted", "accepting", "k", "letter"]) rfl (by decide +kernel)) (fun _ _ _ _ _ => (pg_name (i := 5) sc_ring.nd rfl (by first | exact Or.inl rfl | exact Or.inr rfl))) (fun _ _ _ _ _ => pts_nil) (fun _ _ _ _ _ => (pe_op op_modP (pe_callTy call_intP (by rfl) T.nb_int (by decide +kernel) (pa_cons (pe_op (kAdd K) (pv 4) pe_int) pa_nil)) (pv 1)))))) pa_nil))))))), ?_⟩
    walk_at "rc"
    refine ⟨(n : Int), rfl, by omega, by omega, ?_⟩
    rw [Int.toNat_natCast]
    refine lc_F (K := K) (S := []) (P := fun i x => x = V.int (i : Nat)) tr_ex (fun b hb => nomatch hb) walk_range0 rng_Y (by omega) (fun _ _ => True.intro) (fun _ => true) (fun i => .bool (decide (i = r % n))) (hg_name fun v => rfl) (fun L i σ2 Hc hi p2 hL nL t1 hs1 up N hN => rd_yes (hN Hc (Evl.Ex.refl Hc))) (fun L i σ2 Hc hi p2 _ hL nL t1 hs1 up N hN => ?_) fun La ua H1 e1 hLa nLa hua hda => ?_
    · obtain ⟨v, rfl, rfl⟩ := p2
      walk_at "rc"
      refine rd_modI (by omega) ?_
      walk_at "rc"
      have em : (r : Int).fmod (n : Int) = ((r % n : Nat) : Int) := by
        rw [Int.fmod_eq_emod_of_nonneg _ (by omega)]; rfl
      have ed : decide ((i : Int) = (r : Int).fmod (n : Int)) = decide (i = r % n) := by
        rw [em, Bool.eq_iff_iff, decide_eq_true_iff, decide_eq_true_iff]; omega
      rw [ed]
      exact hN _ Hc (Evl.Ex.refl Hc) (.bl _)
    have dA := (Dp.frz (K := K) hua nLa hda).ex hid_ex
    have ea : ((List.range n).filter fun _ => true).map (fun i => PyData.bool (decide (i = r % n))) = (ringA n (r % n)).map PyData.bool := by
      rw [List.filter_eq_self.mpr fun _ _ => rfl]
      unfold ringA
      rw [List.map_map]
      rfl
    rw [ea] at dA
    walk_at "rc"
    refine ⟨(n : Int), rfl, by omega, by omega, ?_⟩
    rw [Int.toNat_natCast]
    refine lc_F (K := K) (S := []) (P := fun i x => x = V.int (i : Nat)) tr_ex (fun b hb => nomatch hb) walk_range0 rng_Y (by omega) (fun _ _ => True.intro) (fun _ => true) (fun s => .list (((List.range ls.length).filter fun _ => true).map fun j => nI ((s + 1) % n))) (hg_name fun v => rfl) (fun L i σ2 Hc hi p2 hL nL t1 hs1 up N hN => rd_yes (hN Hc (Evl.Ex.refl Hc))) (fun L i σ2 Hc hi p2 _ hL nL t1 hs1 up N hN => ?_) fun Lq upq H2 e2 hLq nLq huq hdq => ?_
    · obtain ⟨v, rfl, rfl⟩ := p2
      walk_at "rc"
      refine rd_anyS (fun Q q => ⟨_, rfl, q⟩) ?_
      refine lc_F (K := K) (S := [L]) (n := ls.cps.size) (P := fun i x => ∃ c, ls.cps.toList[i]? = some c ∧ x = V.str ⟨#[c]⟩) tr_ex hs1 walk_str str_Y (by show ls.length < 100000; omega) (fun _ _ => True.intro) (fun _ => true) (fun j => nI ((i + 1) % n)) (hg_name fun v => rfl) (fun L i σ2 Hc hi p2 hL nL t1 hs1 up N hN => rd_yes (hN Hc (Evl.Ex.refl Hc))) (fun L2 j σ3 Hc2 hj p3 _ hL2 nL2 t2 hs2 up2 N2 hN2 => ?_) fun Li ui Hi ei hLi nLi hui hdi => ?_
      · obtain ⟨v, ⟨c, _, rfl⟩, rfl⟩ := p3
        walk_at "rc"
        refine rd_modI (by omega) ?_
        have em : ((i : Int) + 1).fmod (n : Int) = (((i + 1) % n : Nat) : Int) := by
          rw [Int.fmod_eq_emod_of_nonneg _ (by omega)]; rfl
        rw [em]
        exact hN2 _ Hc2 (Evl.Ex.refl Hc2) (.int _)
      · exact hN _ Hi ei (Dp.frz hui nLi hdi)
    rw [tabF_dp] at hdq
    have dT := (Dp.frz (K := K) huq nLq hdq).ex hid_ex
    have g := ring_gm (ls := ls) (n := n) (r := r % n) n0 n1 l1
    walk_at "rc"
    intro x dx hx hdx ne
    exact made_F T hx hdx ne l0 (by omega) (dA.ex e2) dT g.m g.w fun H3 e3 hm3 hf3 => ⟨rfl, q x H3 ((e1.trans e2).trans e3) hm3 hf3⟩
end
end
section
/-! ### the least texts, as the law looks for them -/
theorem pair_run {t1 t2 : List (List Nat)} : ∀ (u : List Nat) (a b : Nat), ∃ s t, u.foldl (nxM t1) (.i a) = .i s ∧ u.foldl (nxM t2) (.i b) = .i t ∧ u.foldl (nxP t1 t2) (.t [a, b]) = .t [s, t]
  | [], a, b => ⟨a, b, rfl, rfl, rfl⟩
  | j :: u, a, b => pair_run u ((t1.getD a []).getD j 0) ((t2.getD b []).getD j 0)
theorem acP_run {ch : Bool → Bool → Bool} {a1 a2 : List Bool} {t1 t2 : List (List Nat)} (u : List Nat) : acP ch a1 a2 (u.foldl (nxP t1 t2) (.t [0, 0])) = ch (acM a1 (u.foldl (nxM t1) (.i 0))) (acM a2 (u.foldl (nxM t2) (.i 0))) := by
  obtain ⟨s, t, h1, h2, h3⟩ := pair_run (t1 := t1) (t2 := t2) u 0 0
  rw [h1, h2, h3]
  rfl
theorem pair_same {t : List (List Nat)} {u : List Nat} : ∃ s, u.foldl (nxP t t) (.t [0, 0]) = .t [s, s] := by
  obtain ⟨s, s', h1, h2, h3⟩ := pair_run (t1 := t) (t2 := t) u 0 0
  rw [h1] at h2
  cases h2
  exact ⟨s, h3⟩
/-- a relation that never tells a state from itself tells no text -/
theorem lst_same {w m : Nat} {ch : Bool → Bool → Bool} {a : List Bool} {t : List (List Nat)} {r : Option (List Nat)} (hc : ∀ x, ch x x = false) (L : Lst w (nxP t t) (.t [0, 0]) (acP ch a a) m r) : r = none := by
  cases r with
  | none => rfl
  | some u =>
    obtain ⟨s, hs⟩ := pair_same (t := t) (u := u)
    have := L.2.1
    rw [hs] at this
    have e : acP ch a a (.t [s, s]) = ch (a.getD s false) (a.getD s false) := rfl
    rw [e, hc] at this
    cases this
/-- what stands in the list of what is due -/
def dueP (R : List (List Nat)) (i : Nat) (p : List Nat → Bool) : Option (List Nat) := (R.take i).find? p
theorem dueP_succ {R : List (List Nat)} {i : Nat} {u : List Nat} {p : List Nat → Bool} (h : R[i]? = some u) : dueP R (i + 1) p = match dueP R i p with | some x => some x | none => if p u = true then some u else none := by
  unfold dueP
  rw [List.take_succ, h, List.find?_append]
  cases (R.take i).find? p with
  | some x => rfl
  | none =>
    show ((some u).toList.find? p) = _
    show ([u].find? p) = _
    cases e : p u with
    | true => rw [List.find?_cons_of_pos e]; rfl
    | false => rw [List.find?_cons_of_neg (by rw [e]; decide)]; rfl
def encW (ls : Str) : Option (List Nat) → PyData
  | none => .none
  | some u => .str (tx ls u)
theorem dp_W {H : Hp} (ls : Str) (r : Option (List Nat)) : Dp K H (lstV ls r) (encW ls r) := by
  cases r with
  | none => exact .non
  | some u => exact .str _
theorem lstV_non {ls : Str} {r : Option (List Nat)} : decide (lstV ls r = .non) = r.isNone := by
  cases r with
  | none => rfl
  | some u => exact decide_eq_false fun z => nomatch z
theorem tx_ok {ls : Str} {u : List Nat} (ok : okS ls) (h : Lw ls.length u) : okS (tx ls u) := okS_sub ok fun c hc => by
  rw [tx_list] at hc
  obtain ⟨j, hj, rfl⟩ := List.mem_map.mp hc
  have hl : j < ls.cps.toList.length := h j hj
  rw [List.getD_eq_getElem?_getD, List.getElem?_eq_getElem hl]
  exact List.getElem_mem hl
theorem lay_W {ls : Str} {r : Option (List Nat)} (ok : okS ls) (h : ∀ u, r = some u → Lw ls.length u) : Ly (encW ls r) 0 := by
  cases r with
  | none => exact .none
  | some u => exact .str (tx_ok ok (h u rfl))
theorem Lst.lw {κ : Type} {w : Nat} {nx : κ → Nat → κ} {st : κ} {acc : κ → Bool} {m : Nat} {r : Option (List Nat)} (h : Lst w nx st acc m r) : ∀ u, r = some u → Lw w u := fun u e => by subst e; exact h.1
/-! ### rings -/
theorem ring_cell {n w s j : Nat} (hs : s < n) (hj : j < w) : ((ringT n w).getD s []).getD j 0 = (s + 1) % n := by
  have e : (ringT n w).getD s [] = (List.range w).map fun _ => (s + 1) % n := by
    unfold ringT tabF
    rw [List.getD_eq_getElem?_getD, List.getElem?_map, List.getElem?_range hs]
    rfl
  rw [e, List.getD_eq_getElem?_getD, List.getElem?_map, List.getElem?_range hj]
  rfl
theorem ring_run {n w : Nat} (n0 : 0 < n) : ∀ (u : List Nat) (s : Nat), Lw w u → s < n → u.foldl (nxM (ringT n w)) (.i s) = .i ((s + u.length) % n)
  | [], s, _, hs => by show KE.i s = _; rw [List.length_nil, Nat.add_zero, Nat.mod_eq_of_lt hs]
  | j :: u, s, hu, hs => by
    show u.foldl (nxM (ringT n w)) (.i (((ringT n w).getD s []).getD j 0)) = _
    rw [ring_cell hs (hu j List.mem_cons_self), ring_run n0 u _ (fun x hx => hu x (List.mem_cons_of_mem _ hx)) (Nat.mod_lt _ n0), List.length_cons]
    congr 1
    rw [Nat.mod_add_mod]
    congr 1
    omega
theorem ring_acc {n r s : Nat} (hs : s < n) : acM (ringA n r) (.i s) = decide (s = r) := by
  show (ringA n r).getD s false = _
  unfold ringA
  rw [List.getD_eq_getElem?_getD, List.getElem?_map, List.getElem?_range hs]
  rfl
theorem ring_tells {n w r : Nat} {u : List Nat} (n0 : 0 < n) (hu : Lw w u) : acM (ringA n r) (u.foldl (nxM (ringT n w)) (.i 0)) = decide (u.length % n = r) := by
  rw [ring_run n0 u 0 hu n0, ring_acc (Nat.mod_lt _ n0), Nat.zero_add]
def zs (n : Nat) : List Nat := List.replicate n 0
theorem zs_lw {w n : Nat} (w0 : 0 < w) : Lw w (zs n) := fun x hx => by rw [List.eq_of_mem_replicate hx]; exact w0
theorem zs_snoc (n : Nat) : zs (n + 1) = zs n ++ [0] := by unfold zs; rw [List.replicate_succ']
/-- the word of first letters is the least of its length -/
theorem cd_zs {w : Nat} : ∀ (n : Nat) {v : List Nat}, v.length = n → cd w (zs n) ≤ cd w v
  | 0, v, h => Nat.zero_le _
  | n + 1, v, h => by
    rcases List.eq_nil_or_concat v with z | ⟨y, j, z⟩
    · rw [z] at h; cases h
    · rw [List.concat_eq_append] at z
      subst z
      rw [List.length_append] at h
      have := cd_zs (w := w) n (v := y) (by simpa using h)
      rw [zs_snoc, cd_snoc, cd_snoc]
      have := Nat.mul_le_mul_left w this
      omega
/-- what a rule on lengths alone finds -/
theorem lst_len {κ : Type} {w m : Nat} {nx : κ → Nat → κ} {st : κ} {acc : κ → Bool} {r : Option (List Nat)} (w0 : 0 < w) {p : Nat → Bool} (hp : ∀ u, Lw w u → acc (u.foldl nx st) = p u.length) (L : Lst w nx st acc m r) :
    (∀ u, r = some u → u = zs u.length ∧ p u.length = true ∧ ∀ k, k < u.length → p k = false) ∧ (r = none → ∀ k, p k = false) := by
  refine ⟨fun u e => ?_, fun e k => ?_⟩
  · subst e
    obtain ⟨h1, h2, _, h4⟩ := L
    rw [hp u h1] at h2
    have hz : ∀ k, (zs k).length = k := fun k => List.length_replicate
    refine ⟨?_, h2, fun k hk => ?_⟩
    · have h5 := cd_zs (w := w) u.length (v := u) rfl
      rcases Nat.lt_or_ge (cd w (zs u.length)) (cd w u) with z | z
      · have := h4 (zs u.length) (zs_lw w0) z
        rw [hp _ (zs_lw w0), hz, h2] at this
        cases this
      · exact (cd_inj (zs_lw w0) h1 (Nat.le_antisymm h5 z)).symm
    · have := h4 (zs k) (zs_lw w0) (cd_len (zs_lw w0) h1 (by rw [hz]; exact hk))
      rw [hp _ (zs_lw w0), hz] at this
      exact this
  · subst e
    have := L (zs k) (zs_lw w0)
    rw [hp _ (zs_lw w0)] at this
    rw [← this]
    unfold zs
    rw [List.length_replicate]
end
section
variable (T : Txt K mg)
/-! ### drawn machines -/
def partsN (acc : List Bool) (tab : List (List Nat)) : PyData := .tuple [.list (acc.map PyData.bool), nL tab]
def spParts : Sp := fun vs H Q _ => ∃ (p : Addr) (ls : Str) (most : Nat) (S : List Addr), vs = [.str ls, .ref p, .int (most : Int)] ∧ 0 < ls.length ∧ ls.length ≤ 10 ∧ 0 < most ∧ most ≤ 10 ∧ StAt H p ∧ p ∈ S ∧ (∀ b ∈ S, ∃ o, H b = some o) ∧
  ∀ (v : V) (acc : List Bool) (tab : List (List Nat)) (H' : Hp), Dp K (hid S H') v (partsN acc tab) → GM acc tab → acc.length ≤ most → (∀ row ∈ tab, row.length = ls.length) → Dr p H H' → Q v H'
theorem ok_parts : FnOk P w K mg base CX0 3 T.a_parts T.d_parts ["letters", "state", "most"] (spParts (K := K)) := by
  refine T.f_parts.ok sc_parts (fun vs H Q E h => ?_) (fun cdv A outer s H vs Q E hr h => ?_)
  · obtain ⟨_, _, _, _, rfl, _⟩ := h; rfl
  · obtain ⟨p, ls, most, S, rfl, l0, l1, m0, m1, hS, hp, hs, q⟩ := h
    refine ⟨_, (pss_cons (ps_set (i := 3) sc_parts.nd rfl (by first | exact Or.inl rfl | exact Or.inr rfl) (pe_op (kAdd K) pe_int (pe_callE (ok_next T) (hr.mono (by decide)) T.o_next (pa_cons (pv 1) (pa_cons (pv 2) pa_nil)))))
  (pss_cons (ps_setLc (i := 4) (own := [("k", 5)]) (g := gName 5) (tt := tYes) (by rfl) sc_parts.nd rfl rfl (sw_true rfl rfl rfl (by decide +kernel)) (pi_range1 (by rfl) T.nb_range (pa_cons (pv 3) pa_nil)) (blkOk_by (own := [("k", 5)]) (N := ["letters", "state", "most", "many", "accepting", "k", "table", "letter"]) (sc := defScope s_parts) (by decide +kernel)) (fun _ _ _ _ _ => (pg_name (i := 5) sc_parts.nd rfl (by first | exact Or.inl rfl | exact Or.inr rfl))) (fun _ _ _ _ _ => pts_nil) (fun _ _ _ _ _ => (pe_cmpR (kEq K rfl hr.units) (pe_callE (ok_next T) (hr.mono (by decide)) T.o_next (pa_cons (pv 1) (pa_cons pe_int pa_nil))) pe_int (by first | rfl | exact nomark _))))
  (pss_cons (ps_setLc (i := 6) (own := [("k", 5)]) (g := gName 5) (tt := tYes) (by rfl) sc_parts.nd rfl rfl (sw_true rfl rfl rfl (by decide +kernel)) (pi_range1 (by rfl) T.nb_range (pa_cons (pv 3) pa_nil)) (blkOk_by (own := [("k", 5)]) (N := ["letters", "state", "most", "many", "accepting", "k", "table", "letter"]) (sc := defScope s_parts) (by decide +kernel)) (fun _ _ _ _ _ => (pg_name (i := 5) sc_parts.nd rfl (by first | exact Or.inl rfl | exact Or.inr rfl))) (fun _ _ _ _ _ => pts_nil) (fun _ _ _ _ _ => (pe_lc (own := [("letter", 7)]) (g := gName 7) (tt := tYes) (by rfl) sc_parts.nd (kAny K rfl (pv 0)) (by exact blkOk_in (N := ["letters", "state", "most", "many", "accepting", "k", "table", "letter"]) rfl (by decide +kernel)) (fun _ _ _ _ _ => (pg_name (i := 7) sc_parts.nd rfl (by first | exact Or.inl rfl | exact Or.inr rfl))) (fun _ _ _ _ _ => pts_nil) (fun _ _ _ _ _ => (pe_callE (ok_next T) (hr.mono (by decide)) T.o_next (pa_cons (pv 1) (pa_cons (pv 3) pa_nil)))))))
  (pss_one (ps_ret (pe_tup (pa_cons (pv 4) (pa_cons (pv 6) pa_nil)))))))), ?_⟩
    walk_at "rc"
    refine ⟨p, most, rfl, by omega, hS, fun n0 H1 r0 r1 S1 o1 i1 => ?_⟩
    have d1 : Dr p H H1 := ⟨S1, o1, i1.2⟩
    obtain ⟨n1, rfl⟩ := Int.eq_ofNat_of_zero_le r0
    have en : (1 : Int) + (n1 : Int) = ((1 + n1 : Nat) : Int) := by omega
    refine rd_addI ?_
    rw [en]
    have hn : 1 + n1 ≤ 10 := by omega
    have hn0 : 1 + n1 ≤ most := by omega
    generalize hnn : 1 + n1 = n at hn hn0
    have n0 : 0 < n := by omega
    have hs1 : ∀ b ∈ S, ∃ o, H1 b = some o := fun b hb => d1.st' (hs b hb)
    walk_at "rc"
    refine ⟨(n : Int), rfl, by omega, by omega, ?_⟩
    rw [Int.toNat_natCast]
    refine lc_R (K := K) (S := S) (P := fun i x => x = V.int (i : Nat)) (tr_dr S1 hp) hs1 walk_range0 rng_Y (by omega) (fun _ _ => True.intro) (fun i d => ∃ b : Bool, d = .bool b ∧ True) (hg_name fun v => rfl) (fun L i σ2 Hc hi p2 hL nL dc hs up N hN => ?_) fun Lf uf H2 ds d2 hLf nLf huf hdf hlf hRf => ?_
    · obtain ⟨v, rfl, rfl⟩ := p2
      walk_at "rc"
      refine ⟨p, 3, rfl, by decide, dc.st, fun r H3 q0 q1 S3 o3 i3 => ?_⟩
      have d3 : Dr p Hc H3 := ⟨S3, o3, i3.2⟩
      walk_at "rc"
      exact hN _ _ _ d3 (.bl _) ⟨_, rfl, True.intro⟩
    obtain ⟨acc, rfl, _⟩ := map_ofD (f := PyData.bool) ds hRf
    rw [List.length_map] at hlf
    have dH2 := d1.trans d2
    have S2 := d2.st
    have hs2 : ∀ b ∈ S, ∃ o, H2 b = some o := fun b hb => d2.st' (hs1 b hb)
    have fF : Dp K (hid S H2) (.ref Lf) (.list (acc.map PyData.bool)) := Dp.frz huf nLf hdf
    walk_at "rc"
    refine ⟨(n : Int), rfl, by omega, by omega, ?_⟩
    rw [Int.toNat_natCast]
    refine lc_R (K := K) (S := S) (P := fun i x => x = V.int (i : Nat)) (tr_dr S2 hp) hs2 walk_range0 rng_Y (by omega) (fun _ _ => True.intro) (fun i d => ∃ row : List Nat, d = .list (row.map nI) ∧ row.length = ls.length ∧ ∀ x ∈ row, x < n) (hg_name fun v => rfl) (fun L i σ2 Hc hi p2 hL nL dc hsL up N hN => ?_) fun Lt ut H3 ds d3 hLt nLt hut hdt hlt hRt => ?_
    · obtain ⟨v, rfl, rfl⟩ := p2
      have hp1 : p ∈ L :: S := List.mem_cons_of_mem _ hp
      walk_at "rc"
      refine rd_anyS (fun Q q => ⟨_, rfl, q⟩) ?_
      refine lc_R (K := K) (S := L :: S) (P := fun i x => ∃ c, ls.cps.toList[i]? = some c ∧ x = V.str ⟨#[c]⟩) (tr_dr dc.st hp1) hsL walk_str str_Y (by show ls.length < 100000; omega) (fun _ _ => True.intro) (fun i d => ∃ x : Nat, d = nI x ∧ x < n) (hg_name fun v => rfl) (fun L2 i σ2 Hc2 hi2 p2 hL2 nL2 dc2 hsL2 up2 N2 hN2 => ?_) fun Lr ur H4 ds d4 hLr nLr hur hdr hlr hRr => ?_
      · obtain ⟨v, ⟨c, _, rfl⟩, rfl⟩ := p2
        walk_at "rc"
        refine ⟨p, (n : Int), rfl, by omega, dc2.st, fun r H5 q0 q1 S5 o5 i5 => ?_⟩
        have d5 : Dr p Hc2 H5 := ⟨S5, o5, i5.2⟩
        obtain ⟨x, rfl⟩ := Int.eq_ofNat_of_zero_le q0
        exact hN2 _ _ _ d5 (.int _) ⟨x, rfl, by omega⟩
      · obtain ⟨row, rfl, hrow⟩ := map_ofD (f := nI) ds hRr
        rw [List.length_map] at hlr
        exact hN _ _ _ d4 (Dp.frz hur nLr hdr) ⟨row, rfl, hlr, hrow⟩
    obtain ⟨tab, rfl, htab⟩ := map_ofD (f := fun row : List Nat => PyData.list (row.map nI)) ds hRt
    rw [List.length_map] at hlt
    have fT : Dp K (hid S H3) (.ref Lt) (nL tab) := Dp.frz hut nLt hdt
    have dH3 := dH2.trans d3
    walk_at "rc"
    refine ⟨by show 2 ≤ sizeLine; decide, fun qa hqa => ?_⟩
    have nq : qa ∉ S := notin_of (fun b hb => d3.st' (hs2 b hb)) hqa
    have hD : Dp K (hid S (upd H3 qa (.tup [.ref Lf, .ref Lt]))) (.ref qa) (partsN acc tab) := Dp.newT hqa nq (.cons (fF.ex (d3.kp hp).ex) (.cons fT .nil))
    refine q _ acc tab _ hD ⟨by omega, by omega, ⟨by omega, fun row hr x hx => ?_⟩, fun row hr => ?_⟩ (by omega) (fun row hr => (htab row hr).1) (dH3.put hS (dH3.back hS hqa))
    · have := (htab row hr).2 x hx
      omega
    · have := (htab row hr).1
      omega
end
section
/-! ### what stays through calls that make functions -/
section
variable {nm : Nat → Nat → Str} {Ps : List Addr} {H H' : Hp}
theorem Tbs.off (t : Tbs nm Ps H) {b : Addr} {o : HO} (h : H b = some o) (x : ∀ ps, o ≠ .tbl ps) : b ∉ Ps := fun z => by
  obtain ⟨ps, e⟩ := TabN.isT (t b z)
  rw [h] at e
  exact x _ (Option.some.inj e)
theorem Tbs.kpA (t : Tbs nm Ps H) (k : Kp Ps H H') {b : Addr} {o : HO} (h : H b = some o) (x : ∀ ps, o ≠ .tbl ps) : H' b = some o := k b o (t.off h x) h
theorem Tbs.kpL (t : Tbs nm Ps H) (k : Kp Ps H H') {b : Addr} {xs : List V} (h : H b = some (.lst xs)) : H' b = some (.lst xs) := t.kpA k h fun _ z => nomatch z
theorem StAt.kpT {p : Addr} (s : StAt H p) (t : Tbs nm Ps H) (k : Kp Ps H H') : StAt H' p := by
  obtain ⟨l, ns, pl, h1, h2, h3, h4, h5, h6⟩ := s
  exact ⟨l, ns, pl, t.kpL k h1, t.kpL k h2, h3, h4, h5, h6⟩
theorem dp_kpT {v : V} {d : PyData} (h : Dp K H v d) (t : Tbs nm Ps H) (k : Kp Ps H H') : Dp K H' v d := ((Dp.hidF t.noD _ h).ex k.ex).ex hid_ex
theorem MachD.kpT {C : Addr} {m : Addr} {ls : Str} {acc : List Bool} {tab : List (List Nat)} (h : MachD K C H m ls acc tab) (t : Tbs nm Ps H) (k : Kp Ps H H') : MachD K C H' m ls acc tab := by
  obtain ⟨dx, ta, tt, h1, h2, h3⟩ := h
  exact ⟨dx, ta, tt, t.kpA k h1 (fun _ z => nomatch z), dp_kpT h2 t k, dp_kpT h3 t k⟩
theorem MachF.kpT {C : Addr} {m : Addr} {ls : Str} {acc : List Bool} (h : MachF C H m ls acc) (t : Tbs nm Ps H) (k : Kp Ps H H') : MachF C H' m ls acc := by
  obtain ⟨dx, ta, tt, h1, o, h2, h3⟩ := h
  exact ⟨dx, ta, tt, t.kpA k h1 (fun _ z => nomatch z), o, t.kpA k h2 (fun _ z => nomatch z), h3⟩
theorem Dr.tbs {p : Addr} (d : Dr p H H') (s : StAt H p) (t : Tbs nm Ps H) : Tbs nm Ps H' := by
  obtain ⟨l, ns, pl, h1, _⟩ := s
  refine t.kp (S := [p]) (d.kp List.mem_cons_self) fun b hb o e => ?_
  rw [List.mem_singleton.mp hb, h1] at e
  cases e
  exact ⟨(fun z => z), (fun ps z => nomatch z)⟩
end
theorem rd_ite3 {l : Nat} {σ : L2.St} {H : Hp} {Q : VK} (h : ∀ n : Nat, (l = 3 ∧ n = 2 ∨ l ≠ 3 ∧ n = 3) → Q (.int (n : Int)) H) : if decide ((l : Int) = 3) = true then tC (.int 2) σ H Q else tC (.int 3) σ H Q := by
  by_cases e : l = 3
  · exact rd_itet (decide_eq_true (by omega)) (h 2 (.inl ⟨e, rfl⟩))
  · exact rd_itef (decide_eq_false (by omega)) (h 3 (.inr ⟨e, rfl⟩))
/-! ### texts of one letter -/
theorem mul_zs (ls : Str) (n : Nat) : Txt.mul (⟨#[ls.cps.toList.getD 0 0]⟩ : Str) (n : Int) = tx ls (zs n) := by
  refine str_ext ?_
  have key : ∀ (k : Nat) (z : Nat) (a : Array Nat), (List.foldl (fun x y => x ++ y) a (List.replicate k #[z])).toList = a.toList ++ List.replicate k z := by
    intro k z
    induction k with
    | zero => intro a; simp
    | succ k ih =>
      intro a
      rw [List.replicate_succ, List.foldl_cons, ih, List.replicate_succ, Array.toList_append]
      simp
  rw [tx_list]
  unfold zs
  rw [List.map_replicate]
  unfold Txt.mul
  split
  · rename_i h
    have : n = 0 := by omega
    subst this
    rfl
  · split
    · rename_i h1 h2
      have : n = 1 := by
        simp at h2
        rcases h2 with z | z
        · omega
        · exact absurd (show (1 : Nat) = 0 from z) (by decide)
      subst this
      rfl
    · show (List.foldl (fun x y => x ++ y) #[] (List.replicate (Int.toNat (n : Int)) #[ls.cps.toList.getD 0 0])).toList = _
      rw [Int.toNat_natCast, key]
      rfl
theorem mulOk1 {z : Str} {n : Nat} (hz : z.length = 1) (h1 : n < 100000) : MulOk z (n : Int) := by
  refine ⟨by simp; omega, fun _ _ => ?_, fun _ _ => ?_⟩
  · intro hh
    have : (z.length : Int) ≤ ((2:Int) ^ 63 - 1) / (n : Int) := by
      refine Int.le_ediv_of_mul_le (by omega) ?_
      rw [hz]
      omega
    omega
  · unfold Builtin.Str.tooLong
    have : sizeLine ≥ 100000 := by decide
    rw [Int.toNat_natCast, hz]
    exact decide_eq_false (by omega)
theorem ring_lst {n w rr m : Nat} {r : Option (List Nat)} (w0 : 0 < w) (h : rr < n) (L : Lst w (nxM (ringT n w)) (.i 0) (acM (ringA n rr)) m r) : r = some (zs rr) := by
  obtain ⟨A, B⟩ := lst_len w0 (p := fun k => decide (k % n = rr)) (fun u hu => ring_tells (by omega) hu) L
  cases r with
  | none =>
    have := B rfl rr
    rw [Nat.mod_eq_of_lt h] at this
    simp at this
  | some u =>
    obtain ⟨h1, h2, h3⟩ := A u rfl
    have h2' : u.length % n = rr := of_decide_eq_true h2
    have hge : rr ≤ u.length := h2' ▸ Nat.mod_le _ _
    have hle : ¬ rr < u.length := fun z => by
      have := h3 rr z
      rw [Nat.mod_eq_of_lt h] at this
      simp at this
    rw [h1, show u.length = rr by omega]
theorem ringA_at {n rr m : Nat} (h : m < n) : (ringA n rr)[m]? = some (decide (m = rr)) := by
  unfold ringA
  rw [List.getElem?_map, List.getElem?_range h]
  rfl
theorem str0 {ls : Str} (l0 : 0 < ls.length) : atI ls.cps.toList 0 = some (ls.cps.toList.getD 0 0) := by
  have h : 0 < ls.cps.toList.length := l0
  obtain ⟨c, hc⟩ := getQ h
  rw [List.getD_eq_getElem?_getD, hc]
  exact atI_nat (j := 0) hc
/-! ### a machine stands beside a list that grows -/
theorem sqt_off {H : Hp} {L a : Addr} {us vs : List V} (h : H L = some (.lst us)) (q : SqT K H a vs) : SqT K (hid [L] H) a vs := by
  have off : ∀ {o}, H a = some o → (∀ us, o ≠ .lst us) → hid [L] H a = some o := fun e x => by
    rw [hid_at fun hb => ?_]
    · exact e
    · rw [List.mem_singleton.mp hb, h] at e
      exact x us (Option.some.inj e).symm
  rcases q with (q | ⟨o, q⟩) | q
  · exact .inl (.inl (off q fun _ z => nomatch z))
  · exact .inl (.inr ⟨o, off q fun _ z => nomatch z⟩)
  · exact .inr q
theorem atoms_D {H H' : Hp} : ∀ {ds : List PyData} {vs : List V}, (∀ d ∈ ds, (∃ i, d = .int i) ∨ ∃ b, d = .bool b) → DpAll K H vs ds → DpAll K H' vs ds
  | [], _, _, .nil => .nil
  | d :: ds, _, h, .cons q t => by
    refine .cons ?_ (atoms_D (fun d hd => h d (List.mem_cons_of_mem _ hd)) t)
    rcases h d List.mem_cons_self with ⟨i, rfl⟩ | ⟨b, rfl⟩
    · cases q; exact .int i
    · cases q; exact .bl b
theorem rows_off {H : Hp} {L : Addr} {us : List V} (h : H L = some (.lst us)) : ∀ {tab : List (List Nat)} {vs : List V}, DpAll K H vs (tab.map fun row => .tuple (row.map nI)) → DpAll K (hid [L] H) vs (tab.map fun row => .tuple (row.map nI))
  | [], _, .nil => .nil
  | row :: tab, _, .cons q t => by
    refine .cons ?_ (rows_off h t)
    cases q with
    | tup a b => exact .tup (sqt_off h a) (atoms_D (fun d hd => by obtain ⟨x, _, rfl⟩ := List.mem_map.mp hd; exact .inl ⟨_, rfl⟩) b)
theorem MachD.off {C L : Addr} {H : Hp} {m : Addr} {ls : Str} {acc : List Bool} {tab : List (List Nat)} {us : List V} (M : MachD K C H m ls acc tab) (h : H L = some (.lst us)) : MachD K C (hid [L] H) m ls acc tab := by
  obtain ⟨dx, ta, tt, h1, h2, h3⟩ := M
  refine ⟨dx, ta, tt, ?_, ?_, ?_⟩
  · rw [hid_at fun hb => ?_]
    · exact h1
    · rw [List.mem_singleton.mp hb, h] at h1; cases h1
  · cases h2 with
    | tup a b => exact .tup (sqt_off h a) (atoms_D (fun d hd => by obtain ⟨x, _, rfl⟩ := List.mem_map.mp hd; exact .inr ⟨_, rfl⟩) b)
  · cases h3 with
    | tup a b => exact .tup (sqt_off h a) (rows_off h b)
/-! ### lists of lengths -/
theorem rd_lrg {te : L2.St → Hp → (Int → Int → Hp → Prop) → Prop} {σ : L2.St} {H : Hp} {Q : VK} (h : te σ H fun a b H1 => RgOk a b ∧ ∀ q, H1 q = none → Q (.ref q) (upd H1 q (.lst (rgV a b)))) : tLstRg te σ H Q := h
theorem rd_neE {K : PySem.W.Frag} {H : Hp} {x y : V} {k : Nat} {l : List Nat} {Q : VK} (hx : Dp K H x (.list ((k :: l).map nI))) (hy : Dp K H y (.list [])) (q : Q (.bl true) H) : oNe K x y H Q :=
  .inr ⟨_, _, hx, hy, ((Ly.list (n := 0) fun d hd => by obtain ⟨_, _, rfl⟩ := List.mem_map.mp hd; exact Ly.int).lay (by decide)).sh, ((Ly.list (n := 0) (ds := []) fun d hd => nomatch hd).lay (by decide)).sh, by
    have e : (!PyData.eqv (.list ((k :: l).map nI)) (.list [])) = true := rfl
    rw [e]
    exact q⟩
theorem len_ringA (n r : Nat) : (ringA n r).length = n := by unfold ringA; rw [List.length_map, List.length_range]
def isK (p : Nat → Bool) : PyData → Bool
  | .int z => p z.toNat
  | _ => false
theorem isK_f (p : Nat → Bool) (A : List Nat) : ((A.map nI).filter (isK p)).map id = (A.filter p).map nI := by
  rw [List.map_id, List.filter_map]
  rfl
theorem rd_rg1 {ta : TE} {σ : L2.St} {H : Hp} {Q : Int → Int → Hp → Prop} (h : ta σ H fun x H1 => ∃ n, x = .int n ∧ Q 0 n H1) : tRg1 ta σ H Q := h
theorem rgV0 (n : Nat) : rgV 0 (n : Int) = (List.range n).map fun k => V.int (k : Nat) := by
  unfold rgV
  rw [show ((n : Int) - 0).toNat = n by omega]
  exact List.map_congr_left fun i _ => by rw [Int.zero_add]
theorem dp_ints {H : Hp} : ∀ (A : List Nat), DpAll K H (A.map fun k => V.int (k : Nat)) (A.map nI)
  | [] => .nil
  | _ :: A => .cons (.int _) (dp_ints A)
theorem row_of {p : Nat → Bool} {N : Nat} (N0 : 0 < N) (per : ∀ k, p k = p (k % N)) {r : Option (List Nat)} (A : ∀ u, r = some u → u = zs u.length ∧ p u.length = true ∧ ∀ k, k < u.length → p k = false) (B : r = none → ∀ k, p k = false) :
    ((List.range N).filter p = [] ∧ r = none) ∨ ∃ k l, (List.range N).filter p = k :: l ∧ k < N ∧ r = some (zs k) := by
  cases r with
  | none => exact .inl ⟨List.filter_eq_nil_iff.mpr fun k _ => by rw [B rfl k]; exact Bool.false_ne_true, rfl⟩
  | some u =>
    obtain ⟨h1, h2, h3⟩ := A u rfl
    have hN : u.length < N := by
      rcases Nat.lt_or_ge u.length N with z | z
      · exact z
      · have := h3 (u.length % N) (Nat.lt_of_lt_of_le (Nat.mod_lt _ N0) z)
        rw [← per, h2] at this
        cases this
    have hm : u.length ∈ (List.range N).filter p := List.mem_filter.mpr ⟨List.mem_range.mpr hN, h2⟩
    have sorted : ((List.range N).filter p).Pairwise (· < ·) := List.Pairwise.filter _ List.pairwise_lt_range
    cases e : (List.range N).filter p with
    | nil => rw [e] at hm; cases hm
    | cons x l =>
      rw [e] at hm sorted
      have hx : p x = true := (List.mem_filter.mp (show x ∈ (List.range N).filter p by rw [e]; exact List.mem_cons_self)).2
      have hge : ¬ x < u.length := fun z => by rw [h3 x z] at hx; cases hx
      have hxe : x = u.length := by
        rcases List.mem_cons.mp hm with z | z
        · exact z.symm
        · have := (List.pairwise_cons.mp sorted).1 _ z
          omega
      exact .inr ⟨x, l, rfl, by rw [hxe]; exact hN, by rw [hxe, ← h1]⟩
/-! ### the law -/
abbrev lvLaw := 10
variable (T : Txt K mg)
def spLaw : Sp := fun vs H Q _ => ∃ (a : Addr) (ns : List Int), vs = [.ref a] ∧ SqL K H a (ns.map V.int) ∧ ns.length ≤ 63 ∧ Tbs nmT (Ps T) H ∧ ∀ H', Q (.bl true) H'
theorem ok_law (B : Bs T base) : FnOk P w K mg base CX0 lvLaw T.a_law T.d_law ["script"] (spLaw T) := by
  refine T.f_law.ok sc_law (fun vs H Q E h => ?_) (fun cdv A outer s H vs Q E hr h => ?_)
  · obtain ⟨_, _, rfl, _⟩ := h; rfl
  · obtain ⟨a, ns, rfl, hs, hn, hT, q⟩ := h
    refine ⟨_, (pss_cons (ps_set (i := 1) sc_law.nd rfl (by first | exact Or.inl rfl | exact Or.inr rfl) (pe_callE (ok_state T) (hr.mono (by decide)) T.o_state (pa_cons (pv 0) (pa_cons pe_int (pa_cons pe_int pa_nil)))))
  (pss_cons (ps_set (i := 2) sc_law.nd rfl (by first | exact Or.inl rfl | exact Or.inr rfl) (pe_callE (ok_letters T) (hr.mono (by decide)) T.o_letters (pa_cons (pv 1) (pa_cons pe_int pa_nil))))
  (pss_cons (ps_set (i := 3) sc_law.nd rfl (by first | exact Or.inl rfl | exact Or.inr rfl) (pe_callE (ok_parts T) (hr.mono (by decide)) T.o_parts (pa_cons (pv 2) (pa_cons (pv 1) (pa_cons pe_int pa_nil)))))
  (pss_cons (ps_set (i := 4) sc_law.nd rfl (by first | exact Or.inl rfl | exact Or.inr rfl) (pe_callE (ok_parts T) (hr.mono (by decide)) T.o_parts (pa_cons (pv 2) (pa_cons (pv 1) (pa_cons (pe_ifExp (pt_cmpR (kEq K rfl hr.units) (pe_callB (kLen K) (by rfl) T.nb_len (by decide +kernel) (pa_cons (pv 2) pa_nil)) pe_int (by first | rfl | exact nomark _)) pe_int pe_int) pa_nil)))))
  (pss_cons (ps_set (i := 5) sc_law.nd rfl (by first | exact Or.inl rfl | exact Or.inr rfl) (pe_makeR T.mk_Machine (ok_Machine_init T) (hr.mono (by decide)) T.g_Machine T.b_Machine_init takes0 (pa_cons (pv 2) (pa_cons (pe_ix (kIx K) (pv 3) pe_int (fun _ _ => rfl)) (pa_cons (pe_ix (kIx K) (pv 3) pe_int (fun _ _ => rfl)) pa_nil)))))
  (pss_cons (ps_set (i := 6) sc_law.nd rfl (by first | exact Or.inl rfl | exact Or.inr rfl) (pe_makeR T.mk_Machine (ok_Machine_init T) (hr.mono (by decide)) T.g_Machine T.b_Machine_init takes0 (pa_cons (pv 2) (pa_cons (pe_ix (kIx K) (pv 4) pe_int (fun _ _ => rfl)) (pa_cons (pe_ix (kIx K) (pv 4) pe_int (fun _ _ => rfl)) pa_nil)))))
  (pss_cons (ps_set (i := 7) sc_law.nd rfl (by first | exact Or.inl rfl | exact Or.inr rfl) (pe_lst (pa_cons pe_non (pa_cons pe_non (pa_cons pe_non pa_nil)))))
  (pss_cons (ps_for PassesOwn.never rfl (kAny K rfl (pe_callE (ok_texts T) (hr.mono (by decide)) T.o_texts (pa_cons (pv 2) (pa_cons (pe_ix (kIx K) (pe_lst (pa_cons pe_int (pa_cons pe_int (pa_cons pe_int pa_nil)))) (pe_op op_subP (pe_callB (kLen K) (by rfl) T.nb_len (by decide +kernel) (pa_cons (pv 2) pa_nil)) pe_int) (fun _ _ => rfl)) pa_nil)))) (pg_name (i := 8) sc_law.nd rfl (by first | exact Or.inl rfl | exact Or.inr rfl))
    (pss_cons (ps_set (i := 9) sc_law.nd rfl (by first | exact Or.inl rfl | exact Or.inr rfl) (pe_callE (ok_accepts T) (hr.mono (by decide)) T.o_accepts (pa_cons (pv 2) (pa_cons (pe_ix (kIx K) (pv 3) pe_int (fun _ _ => rfl)) (pa_cons (pe_ix (kIx K) (pv 3) pe_int (fun _ _ => rfl)) (pa_cons (pv 8) pa_nil))))))
  (pss_cons (ps_set (i := 10) sc_law.nd rfl (by first | exact Or.inl rfl | exact Or.inr rfl) (pe_callE (ok_accepts T) (hr.mono (by decide)) T.o_accepts (pa_cons (pv 2) (pa_cons (pe_ix (kIx K) (pv 4) pe_int (fun _ _ => rfl)) (pa_cons (pe_ix (kIx K) (pv 4) pe_int (fun _ _ => rfl)) (pa_cons (pv 8) pa_nil))))))
  (pss_cons (ps_if (PW.pt (pw_and (pt_cmpR op_isN (pe_ix (kIx K) (pv 7) pe_int (fun _ _ => rfl)) pe_non (by first | rfl | exact nomark _)) (pw_and1 (pt_val (pv 9)))))
    (pss_one (ps_asg (pv 8) (pg_sub (pv 7) pe_int set_list)))
    pss_nil)
  (pss_cons (ps_if (PW.pt (pw_and (pt_cmpR op_isN (pe_ix (kIx K) (pv 7) pe_int (fun _ _ => rfl)) pe_non (by first | rfl | exact nomark _)) (pw_and (pt_val (pv 9)) (pw_and1 (pt_not (pt_val (pv 10)))))))
    (pss_one (ps_asg (pv 8) (pg_sub (pv 7) pe_int set_list)))
    pss_nil)
  (pss_one (ps_if (PW.pt (pw_and (pt_cmpR op_isN (pe_ix (kIx K) (pv 7) pe_int (fun _ _ => rfl)) pe_non (by first | rfl | exact nomark _)) (pw_and1 (pt_cmpR (kNe K rfl hr.units) (pv 9) (pv 10) (by first | rfl | exact nomark _)))))
    (pss_one (ps_asg (pv 8) (pg_sub (pv 7) pe_int set_list)))
    pss_nil)))))))
  (pss_cons (ps_if (pt_cmpR (kNe K rfl hr.units) (pe_lst (pa_cons (pe_callE (ok_first_text T B) (hr.mono (by decide)) T.o_first_text (pa_cons (pv 5) pa_nil)) (pa_cons (pe_callE (ok_outside T B) (hr.mono (by decide)) T.o_outside (pa_cons (pv 5) (pa_cons (pv 6) pa_nil))) (pa_cons (pe_callE (ok_parting T B) (hr.mono (by decide)) T.o_parting (pa_cons (pv 5) (pa_cons (pv 6) pa_nil))) pa_nil)))) (pv 7) (by first | rfl | exact nomark _))
    (pss_one (ps_ret pe_bl))
    pss_nil)
  (pss_cons (ps_if (PW.pt (pw_or (pt_cmpR (kNe K rfl hr.units) (pe_callE (ok_parting T B) (hr.mono (by decide)) T.o_parting (pa_cons (pv 6) (pa_cons (pv 5) pa_nil))) (pe_ix (kIx K) (pv 7) pe_int (fun _ _ => rfl)) (by first | rfl | exact nomark _)) (pw_or (pt_cmpR op_notN (pe_callE (ok_outside T B) (hr.mono (by decide)) T.o_outside (pa_cons (pv 5) (pa_cons (pv 5) pa_nil))) pe_non (by first | rfl | exact nomark _)) (pw_or1 (pt_cmpR op_notN (pe_callE (ok_parting T B) (hr.mono (by decide)) T.o_parting (pa_cons (pv 5) (pa_cons (pv 5) pa_nil))) pe_non (by first | rfl | exact nomark _))))))
    (pss_one (ps_ret pe_bl))
    pss_nil)
  (pss_cons (ps_if (pt_cmpR (kNe K rfl hr.units) (pe_callB call_reprP (by rfl) T.nb_repr (by decide +kernel) (pa_cons (pe_callE (ok_is_empty T B) (hr.mono (by decide)) T.o_is_empty (pa_cons (pv 5) pa_nil)) pa_nil)) (pe_callB call_reprP (by rfl) T.nb_repr (by decide +kernel) (pa_cons (pe_cmpR op_isN (pe_ix (kIx K) (pv 7) pe_int (fun _ _ => rfl)) pe_non (by first | rfl | exact nomark _)) pa_nil)) (by first | rfl | exact nomark _))
    (pss_one (ps_ret pe_bl))
    pss_nil)
  (pss_cons (ps_set (i := 11) sc_law.nd rfl (by first | exact Or.inl rfl | exact Or.inr rfl) (pe_op (kAdd K) pe_int (pe_callE (ok_next T) (hr.mono (by decide)) T.o_next (pa_cons (pv 1) (pa_cons pe_int pa_nil)))))
  (pss_cons (ps_set (i := 12) sc_law.nd rfl (by first | exact Or.inl rfl | exact Or.inr rfl) (pe_callE (ok_ring T) (hr.mono (by decide)) T.o_ring (pa_cons (pv 2) (pa_cons (pv 11) (pa_cons (pe_callE (ok_next T) (hr.mono (by decide)) T.o_next (pa_cons (pv 1) (pa_cons pe_int pa_nil))) pa_nil)))))
  (pss_cons (ps_if (pt_cmpR (kNe K rfl hr.units) (pe_callE (ok_first_text T B) (hr.mono (by decide)) T.o_first_text (pa_cons (pv 12) pa_nil)) (pe_op op_mulPP (pe_ix (kIx K) (pv 2) pe_int (fun _ _ => rfl)) (pe_bmF PySem.F.plainAttrs_tuple PySem.F.slot_tuple_index PySem.F.type_tuple_index (kIdxB K) (kFld K rfl (pe_fld (pv 12) rfl)) (pa_cons pe_bl pa_nil))) (by first | rfl | exact nomark _))
    (pss_one (ps_ret pe_bl))
    pss_nil)
  (pss_cons (ps_set (i := 13) sc_law.nd rfl (by first | exact Or.inl rfl | exact Or.inr rfl) (pe_lst (pa_cons (pe_op (kAdd K) pe_int (pe_callE (ok_next T) (hr.mono (by decide)) T.o_next (pa_cons (pv 1) (pa_cons pe_int pa_nil)))) (pa_cons (pe_op (kAdd K) pe_int (pe_callE (ok_next T) (hr.mono (by decide)) T.o_next (pa_cons (pv 1) (pa_cons pe_int pa_nil)))) pa_nil))))
  (pss_cons (ps_set (i := 14) sc_law.nd rfl (by first | exact Or.inl rfl | exact Or.inr rfl) (pe_lc (own := [("size", 15)]) (g := gName 15) (tt := tYes) (by rfl) sc_law.nd (kAny K rfl (pv 13)) (blkOk_by (own := [("size", 15)]) (N := ["script", "state", "letters", "one", "two", "first", "second", "due", "text", "in_one", "in_two", "many", "ring", "sizes", "rests", "size", "rings", "k", "lengths", "apart", "alone", "told", "row"]) (sc := defScope s_law) (by decide +kernel)) (fun _ _ _ _ _ => (pg_name (i := 15) sc_law.nd rfl (by first | exact Or.inl rfl | exact Or.inr rfl))) (fun _ _ _ _ _ => pts_nil) (fun _ _ _ _ _ => (pe_callE (ok_next T) (hr.mono (by decide)) T.o_next (pa_cons (pv 1) (pa_cons (pv 15) pa_nil))))))
  (pss_cons (ps_setLc (i := 16) (own := [("k", 17)]) (g := gName 17) (tt := tYes) (by rfl) sc_law.nd rfl rfl (sw_true rfl rfl rfl (by decide +kernel)) (pi_range1 (by rfl) T.nb_range (pa_cons pe_int pa_nil)) (blkOk_by (own := [("k", 17)]) (N := ["script", "state", "letters", "one", "two", "first", "second", "due", "text", "in_one", "in_two", "many", "ring", "sizes", "rests", "size", "rings", "k", "lengths", "apart", "alone", "told", "row"]) (sc := defScope s_law) (by decide +kernel)) (fun _ _ _ _ _ => (pg_name (i := 17) sc_law.nd rfl (by first | exact Or.inl rfl | exact Or.inr rfl))) (fun _ _ _ _ _ => pts_nil) (fun _ _ _ _ _ => (pe_callE (ok_ring T) (hr.mono (by decide)) T.o_ring (pa_cons (pv 2) (pa_cons (pe_ix (kIx K) (pv 13) (pv 17) (fun _ _ => rfl)) (pa_cons (pe_ix (kIx K) (pv 14) (pv 17) (fun _ _ => rfl)) pa_nil))))))
  (pss_cons (ps_set (i := 18) sc_law.nd rfl (by first | exact Or.inl rfl | exact Or.inr rfl) (pe_listRg rfl (by rfl) T.nb_list (prg_1 (by rfl) T.nb_range (pe_op op_mulPP (pe_ix (kIx K) (pv 13) pe_int (fun _ _ => rfl)) (pe_ix (kIx K) (pv 13) pe_int (fun _ _ => rfl))))))
  (pss_cons (ps_setLc (i := 19) (own := [("k", 17)]) (g := gName 17)  (by rfl) sc_law.nd rfl rfl (sw_true rfl rfl rfl (by decide +kernel)) (kAny K rfl (pv 18)) (blkOk_by (own := [("k", 17)]) (N := ["script", "state", "letters", "one", "two", "first", "second", "due", "text", "in_one", "in_two", "many", "ring", "sizes", "rests", "size", "rings", "k", "lengths", "apart", "alone", "told", "row"]) (sc := defScope s_law) (by decide +kernel)) (fun _ _ _ _ _ => (pg_name (i := 17) sc_law.nd rfl (by first | exact Or.inl rfl | exact Or.inr rfl))) (fun _ _ _ _ _ => (pts_one (pt_cmpR (kNe K rfl hr.units) (pe_cmpR (kEq K rfl hr.units) (pe_op op_modP (pe_callTy call_intP (by rfl) T.nb_int (by decide +kernel) (pa_cons (pv 17) pa_nil)) (pe_ix (kIx K) (pv 13) pe_int (fun _ _ => rfl))) (pe_ix (kIx K) (pv 14) pe_int (fun _ _ => rfl)) (by first | rfl | exact nomark _)) (pe_cmpR (kEq K rfl hr.units) (pe_op op_modP (pe_callTy call_intP (by rfl) T.nb_int (by decide +kernel) (pa_cons (pv 17) pa_nil)) (pe_ix (kIx K) (pv 13) pe_int (fun _ _ => rfl))) (pe_ix (kIx K) (pv 14) pe_int (fun _ _ => rfl)) (by first | rfl | exact nomark _)) (by first | rfl | exact nomark _)))) (fun _ _ _ _ _ => (pv 17)))
  (pss_cons (ps_setLc (i := 20) (own := [("k", 17)]) (g := gName 17)  (by rfl) sc_law.nd rfl rfl (sw_true rfl rfl rfl (by decide +kernel)) (kAny K rfl (pv 19)) (blkOk_by (own := [("k", 17)]) (N := ["script", "state", "letters", "one", "two", "first", "second", "due", "text", "in_one", "in_two", "many", "ring", "sizes", "rests", "size", "rings", "k", "lengths", "apart", "alone", "told", "row"]) (sc := defScope s_law) (by decide +kernel)) (fun _ _ _ _ _ => (pg_name (i := 17) sc_law.nd rfl (by first | exact Or.inl rfl | exact Or.inr rfl))) (fun _ _ _ _ _ => (pts_one (pt_cmpR (kEq K rfl hr.units) (pe_op op_modP (pe_callTy call_intP (by rfl) T.nb_int (by decide +kernel) (pa_cons (pv 17) pa_nil)) (pe_ix (kIx K) (pv 13) pe_int (fun _ _ => rfl))) (pe_ix (kIx K) (pv 14) pe_int (fun _ _ => rfl)) (by first | rfl | exact nomark _)))) (fun _ _ _ _ _ => (pv 17)))
  (pss_cons (ps_set (i := 21) sc_law.nd rfl (by first | exact Or.inl rfl | exact Or.inr rfl) (pe_lst (pa_cons (pe_callE (ok_parting T B) (hr.mono (by decide)) T.o_parting (pa_cons (pe_ix (kIx K) (pv 16) pe_int (fun _ _ => rfl)) (pa_cons (pe_ix (kIx K) (pv 16) pe_int (fun _ _ => rfl)) pa_nil))) (pa_cons (pe_callE (ok_outside T B) (hr.mono (by decide)) T.o_outside (pa_cons (pe_ix (kIx K) (pv 16) pe_int (fun _ _ => rfl)) (pa_cons (pe_ix (kIx K) (pv 16) pe_int (fun _ _ => rfl)) pa_nil))) pa_nil))))
  (pss_one (ps_ret (pe_cmpR (kEq K rfl hr.units) (pv 21) (pe_lc (own := [("row", 22)]) (g := gName 22) (tt := tYes) (by rfl) sc_law.nd (kAny K rfl (pe_lst (pa_cons (pv 19) (pa_cons (pv 20) pa_nil)))) (blkOk_by (own := [("row", 22)]) (N := ["script", "state", "letters", "one", "two", "first", "second", "due", "text", "in_one", "in_two", "many", "ring", "sizes", "rests", "size", "rings", "k", "lengths", "apart", "alone", "told", "row"]) (sc := defScope s_law) (by decide +kernel)) (fun _ _ _ _ _ => (pg_name (i := 22) sc_law.nd rfl (by first | exact Or.inl rfl | exact Or.inr rfl))) (fun _ _ _ _ _ => pts_nil) (fun _ _ _ _ _ => (pe_ifExp (pt_cmpR (kNe K rfl hr.units) (pv 22) (pe_lst pa_nil) (by first | rfl | exact nomark _)) (pe_op op_mulPP (pe_ix (kIx K) (pv 2) pe_int (fun _ _ => rfl)) (pe_ix (kIx K) (pv 22) pe_int (fun _ _ => rfl))) pe_non))) (by first | rfl | exact nomark _))))))))))))))))))))))))), ?_⟩
    walk_at "rc"
    refine ⟨a, ns, 0, 6, rfl, hs, by decide, by decide, by decide, by decide, fun p H1 hp e1 S1 => ?_⟩
    walk_at "rc"
    refine ⟨p, 3, rfl, by decide, by decide, S1, fun ls H2 al d2 => ?_⟩
    have l0 := al.l0
    have l1 := al.l1
    have S2 := d2.st
    have T2 := d2.tbs S1 (hT.ex e1)
    walk_at "rc"
    refine ⟨p, ls, 3, [p], rfl, l0, by omega, by decide, by decide, S2, List.mem_cons_self, st1 S2.some.choose_spec, fun v1 a1 t1 H3 hv1 g1m an1 hw1 d3 => ?_⟩
    have g1 : GMw ls a1 t1 := ⟨g1m, hw1⟩
    have S3 := d3.st
    have T3 := d3.tbs S2 T2
    walk_at "rc"
    have sl : 1000000 ≤ sizeLine := by decide
    refine rd_ife ?_
    walk_at "rc"
    refine rd_lenS (z := ls) (by omega) ?_
    walk_at "rc"
    refine rd_ite3 fun m hm => ?_
    have m0 : 0 < m := by omega
    have m3 : m ≤ 3 := by omega
    walk_at "rc"
    refine ⟨p, ls, m, [p], rfl, l0, by omega, m0, by omega, S3, List.mem_cons_self, st1 S3.some.choose_spec, fun v2 a2 t2 H4 hv2 g2m an2 hw2 d4 => ?_⟩
    have g2 : GMw ls a2 t2 := ⟨g2m, hw2⟩
    have S4 := d4.st
    have T4 := d4.tbs S3 T3
    walk_at "rc"
    have hv1 := hv1.ex (d4.kp (S := [p]) List.mem_cons_self).ex
    refine rd_ixDT hid_ex hv1 rfl fun vA1 hA1 => ?_
    walk_at "rc"
    refine rd_ixDT hid_ex hv1 rfl fun vT1 hT1 => ?_
    walk_at "rc"
    have hA1 := hA1.ex hid_ex
    have hT1 := hT1.ex hid_ex
    intro x1 dx1 hx1 hdx1 ne1
    refine made_D T hx1 hdx1 ne1 l0 (by omega) hA1 hT1 g1m hw1 fun H5 e5 M1 => ⟨rfl, ?_⟩
    walk_at "rc"
    refine rd_ixDT (hid_ex.trans e5) hv2 rfl fun vA2 hA2 => ?_
    walk_at "rc"
    refine rd_ixDT (hid_ex.trans e5) hv2 rfl fun vT2 hT2 => ?_
    walk_at "rc"
    have hA2 := hA2.ex hid_ex
    have hT2 := hT2.ex hid_ex
    have hA25 := hA2.ex e5
    have hT25 := hT2.ex e5
    intro x2 dx2 hx2 hdx2 ne2
    refine made_D T hx2 hdx2 ne2 l0 (by omega) hA25 hT25 g2m hw2 fun H6 e6 M2 => ⟨rfl, ?_⟩
    walk_at "rc"
    refine ⟨by show 3 ≤ sizeLine; decide, fun D hD => ?_⟩
    walk_at "rc"
    have e7 : Ex H6 (upd H6 D (.lst [.non, .non, .non])) := Evl.Ex.new hD
    have h7 : upd H6 D (.lst [.non, .non, .non]) D = some (.lst [.non, .non, .non]) := upd_same
    generalize upd H6 D (.lst [.non, .non, .non]) = H7 at e7 h7
    walk_at "rs"
    walk_at "rc"
    refine rd_anyL' ?_
    walk_at "rc"
    refine ⟨by show 3 ≤ sizeLine; decide, fun I hI => ?_⟩
    have e8 : Ex H7 (upd H7 I (.lst [.int 9, .int 9, .int 6])) := Evl.Ex.new hI
    have h8 : upd H7 I (.lst [.int 9, .int 9, .int 6]) I = some (.lst [.int 9, .int 9, .int 6]) := upd_same
    generalize upd H7 I (.lst [.int 9, .int 9, .int 6]) = H8 at e8 h8
    walk_at "rc"
    refine rd_lenS (z := ls) (by omega) ?_
    walk_at "rc"
    obtain ⟨M, hM, hM9, hMM, hMa⟩ : ∃ M : Nat, atI [V.int 9, .int 9, .int 6] ((ls.length : Int) - 1) = some (.int (M : Int)) ∧ M ≤ 9 ∧ a1.length * a2.length ≤ M + 1 ∧ a1.length ≤ M + 1 := by
      have b1 : a1.length ≤ 3 := an1
      have b2 : a2.length ≤ m := an2
      rcases hm with ⟨e, rfl⟩ | ⟨e, rfl⟩
      · refine ⟨6, by rw [e]; rfl, by decide, ?_, by omega⟩
        exact Nat.le_trans (Nat.mul_le_mul b1 b2) (by decide)
      · have h33 : a1.length * a2.length ≤ 9 + 1 := Nat.le_trans (Nat.mul_le_mul b1 b2) (by decide)
        rcases (show ls.length = 1 ∨ ls.length = 2 by omega) with e | e
        · exact ⟨9, by rw [e]; rfl, by decide, h33, by omega⟩
        · exact ⟨9, by rw [e]; rfl, by decide, h33, by omega⟩
    refine rd_ixL (SqL.of h8) hM ?_
    walk_at "rc"
    refine ⟨ls, M, 3, rfl, by omega, by decide, by decide, hM9, fun pt H9 e9 hpt => ⟨pt, rfl, ⟨_, SqL.of hpt⟩, ?_⟩⟩
    obtain ⟨R, hR⟩ : ∃ R, rowsW ls.length M = R := ⟨_, rfl⟩
    rw [hR] at hpt
    have h9 : H9 D = some (.lst [.non, .non, .non]) := e9 _ _ (e8 _ _ h7)
    have e69 : Ex H6 H9 := (e7.trans e8).trans e9
    obtain ⟨p0, hp0⟩ : ∃ f : List Nat → Bool, f = fun u => acM a1 (u.foldl (nxM t1) (.i 0)) := ⟨_, rfl⟩
    obtain ⟨p1, hp1⟩ : ∃ f : List Nat → Bool, f = fun u => chOut (acM a1 (u.foldl (nxM t1) (.i 0))) (acM a2 (u.foldl (nxM t2) (.i 0))) := ⟨_, rfl⟩
    obtain ⟨p2, hp2⟩ : ∃ f : List Nat → Bool, f = fun u => chPart (acM a1 (u.foldl (nxM t1) (.i 0))) (acM a2 (u.foldl (nxM t2) (.i 0))) := ⟨_, rfl⟩
    have npD : pt ≠ D := fun z => by rw [z, h9] at hpt; have hpt := HO.lst.inj (Option.some.inj hpt); cases R with | nil => exact nomatch hpt | cons r R => exact nomatch (List.cons.inj hpt).1
    refine fo_list (fun i σ H' => (∃ k8 k9 k10 k11 k12 k13 k14 k15 k16 k17 k18 k19 k20 k21 k22 : Option V, σ = [some (.ref a), some (.ref p), some (.str ls), some v1, some v2, some (.ref x1), some (.ref x2), some (.ref D), k8, k9, k10, k11, k12, k13, k14, k15, k16, k17, k18, k19, k20, k21, k22]) ∧ Kp [D] H9 H' ∧ H' D = some (.lst [lstV ls (dueP R i p0), lstV ls (dueP R i p1), lstV ls (dueP R i p2)])) ⟨⟨_, _, _, _, _, _, _, _, _, _, _, _, _, _, _, rfl⟩, Kp.refl, h9⟩ (fun i σ H' _ p => SqL.of (p.2.1 _ _ (fun z => npD (List.mem_singleton.mp z)) hpt)) ?_ ?_
    · rintro i x σ H10 hi ⟨⟨k8, k9, k10, k11, k12, k13, k14, k15, k16, k17, k18, k19, k20, k21, k22, rfl⟩, k910, h10⟩
      rw [List.getElem?_map, List.getElem?_map] at hi
      obtain ⟨t, ht, rfl⟩ := Option.map_eq_some_iff.mp hi
      obtain ⟨u, hu, rfl⟩ := Option.map_eq_some_iff.mp ht
      have hul : Lw ls.length u := by have := List.mem_of_getElem? hu; rw [← hR] at this; exact (mem_rowsW.mp this).1
      have e610 : ∀ {H}, Kp [D] H9 H → Ex H6 H := fun k b o z => k b o (fun y => ne_of_none z hD (List.mem_singleton.mp y)) (e69 b o z)
      have e4 : Ex (hid [p] H4) H10 := ((hid_ex.trans e5).trans e6).trans (e610 k910)
      walk_at "rc"
      refine rd_ixDT e4 hv1 rfl fun w1 hw1' => ?_
      walk_at "rc"
      refine rd_ixDT e4 hv1 rfl fun w2 hw2' => ?_
      walk_at "rc"
      refine ⟨ls, w1, w2, a1, t1, u, rfl, hw1'.ex e4, hw2'.ex e4, g1, al.nd, hul, ?_⟩
      walk_at "rc"
      refine rd_ixDT e4 hv2 rfl fun w3 hw3' => ?_
      walk_at "rc"
      refine rd_ixDT e4 hv2 rfl fun w4 hw4' => ?_
      walk_at "rc"
      refine ⟨ls, w3, w4, a2, t2, u, rfl, hw3'.ex e4, hw4'.ex e4, g2, al.nd, hul, ?_⟩
      walk_at "rc"
      have step : ∀ (p : List Nat → Bool), dueP R (i + 1) p = match dueP R i p with | some x => some x | none => if p u = true then some u else none := fun p => dueP_succ hu
      generalize hb1 : acM a1 (u.foldl (nxM t1) (.i 0)) = b1
      generalize hb2 : acM a2 (u.foldl (nxM t2) (.i 0)) = b2
      have y0 : p0 u = b1 := (congrFun hp0 u).trans hb1
      have y1 : p1 u = chOut b1 b2 := (congrFun hp1 u).trans (by rw [hb1, hb2])
      have y2 : p2 u = chPart b1 b2 := (congrFun hp2 u).trans (by rw [hb1, hb2])
      refine rd_cut (fun σ H => σ = [some (.ref a), some (.ref p), some (.str ls), some v1, some v2, some (.ref x1), some (.ref x2), some (.ref D), some (.str (tx ls u)), some (.bl b1), some (.bl b2), k11, k12, k13, k14, k15, k16, k17, k18, k19, k20, k21, k22] ∧ Kp [D] H9 H ∧ H D = some (.lst [lstV ls (dueP R (i + 1) p0), lstV ls (dueP R i p1), lstV ls (dueP R i p2)])) (fun N hN => ?_) ?_
      · rw [step p0, y0] at hN
        walk_at "rc"
        refine rd_ixL (SqL.of h10) rfl ?_
        walk_at "rc"
        cases e0 : dueP R i p0 with
        | some z =>
          rw [e0] at hN h10
          refine rd_itef (decide_eq_false fun y => nomatch y) ?_
          walk_at "rc"
          exact hN _ _ ⟨rfl, k910, h10⟩
        | none =>
          rw [e0] at hN h10
          refine rd_itet (decide_eq_true rfl) ?_
          walk_at "rc"
          cases b1 with
          | false => exact hN _ _ ⟨rfl, k910, h10⟩
          | true =>
            walk_at "rc"
            exact ⟨D, _, 0, 0, rfl, rfl, h10, rfl, hN _ _ ⟨rfl, k910.trans (Kp.put List.mem_cons_self), upd_same⟩⟩
      · rintro _ H11 ⟨rfl, k911, h11⟩
        refine rd_cut (fun σ H => σ = [some (.ref a), some (.ref p), some (.str ls), some v1, some v2, some (.ref x1), some (.ref x2), some (.ref D), some (.str (tx ls u)), some (.bl b1), some (.bl b2), k11, k12, k13, k14, k15, k16, k17, k18, k19, k20, k21, k22] ∧ Kp [D] H9 H ∧ H D = some (.lst [lstV ls (dueP R (i + 1) p0), lstV ls (dueP R (i + 1) p1), lstV ls (dueP R i p2)])) (fun N hN => ?_) ?_
        · rw [step p1, y1] at hN
          walk_at "rc"
          refine rd_ixL (SqL.of h11) rfl ?_
          walk_at "rc"
          cases e0 : dueP R i p1 with
          | some z =>
            rw [e0] at hN h11
            refine rd_itef (decide_eq_false fun y => nomatch y) ?_
            walk_at "rc"
            exact hN _ _ ⟨rfl, k911, h11⟩
          | none =>
            rw [e0] at hN h11
            refine rd_itet (decide_eq_true rfl) ?_
            walk_at "rc"
            cases b1 with
            | false => exact hN _ _ ⟨rfl, k911, h11⟩
            | true =>
              walk_at "rc"
              cases b2 with
              | true => exact hN _ _ ⟨rfl, k911, h11⟩
              | false =>
                walk_at "rc"
                exact ⟨D, _, 1, 1, rfl, rfl, h11, rfl, hN _ _ ⟨rfl, k911.trans (Kp.put List.mem_cons_self), upd_same⟩⟩
        · rintro _ H12 ⟨rfl, k912, h12⟩
          walk_at "rc"
          refine rd_ixL (SqL.of h12) rfl ?_
          walk_at "rc"
          cases e0 : dueP R i p2 with
          | some z =>
            rw [e0] at h12
            refine rd_itef (decide_eq_false fun y => nomatch y) ?_
            walk_at "rc"
            refine ⟨⟨_, _, _, _, _, _, _, _, _, _, _, _, _, _, _, rfl⟩, k912, ?_⟩
            rw [step p2, e0]; exact h12
          | none =>
            rw [e0] at h12
            refine rd_itet (decide_eq_true rfl) ?_
            walk_at "rc"
            refine rd_neB ?_
            rw [show (b1 != b2) = chPart b1 b2 from rfl]
            cases e3 : chPart b1 b2 with
            | false =>
              walk_at "rc"
              refine ⟨⟨_, _, _, _, _, _, _, _, _, _, _, _, _, _, _, rfl⟩, k912, ?_⟩
              rw [step p2, e0, y2, e3]; exact h12
            | true =>
              walk_at "rc"
              refine ⟨D, _, 2, 2, rfl, rfl, h12, rfl, ⟨_, _, _, _, _, _, _, _, _, _, _, _, _, _, _, rfl⟩, k912.trans (Kp.put List.mem_cons_self), ?_⟩
              rw [step p2, e0, y2, e3]; exact upd_same
    · rintro σ H10 ⟨⟨k8, k9, k10, k11, k12, k13, k14, k15, k16, k17, k18, k19, k20, k21, k22, rfl⟩, k910, h10⟩
      have e610 : Ex H6 H10 := fun b o z => k910 b o (fun y => ne_of_none z hD (List.mem_singleton.mp y)) (e69 b o z)
      have ll : ((R.map (tx ls)).map V.str).length = R.length := by rw [List.length_map, List.length_map]
      have dR : ∀ f, dueP R R.length f = R.find? f := fun f => by unfold dueP; rw [List.take_length]
      rw [ll, dR, dR, dR, ← hR, hp0, hp1, hp2] at h10
      have T10 := T4.ex ((e5.trans e6).trans e610)
      have S10 := S4.ex ((e5.trans e6).trans e610)
      have M1 := M1.ex (e6.trans e610)
      have M2 := M2.ex e610
      walk_at "rs"
      walk_at "rc"
      refine ⟨x1, ls, a1, t1, rfl, M1, g1, l0, by omega, T10, fun r0 H11 k1 T11 L0 => ?_⟩
      have M1 := M1.kpT T10 k1
      have M2 := M2.kpT T10 k1
      have h11 := T10.kpL k1 h10
      have S11 := S10.kpT T10 k1
      have nn : a1.length * a2.length ≤ 50000 := Nat.le_trans hMM (by omega)
      have f0 := L0.find hMa
      walk_at "rc"
      refine ⟨x1, x2, ls, a1, a2, t1, t2, rfl, M1, g1, M2, g2, l0, by omega, nn, T11, fun r1 H12 k2 T12 L1 => ?_⟩
      have M1 := M1.kpT T11 k2
      have M2 := M2.kpT T11 k2
      have h12 := T11.kpL k2 h11
      have S12 := S11.kpT T11 k2
      have f1 : (rowsW ls.length M).find? (fun u => chOut (acM a1 (u.foldl (nxM t1) (.i 0))) (acM a2 (u.foldl (nxM t2) (.i 0)))) = r1 := by
        rw [← L1.find hMM]; congr 1; funext u; exact (acP_run u).symm
      walk_at "rc"
      refine ⟨x1, x2, ls, a1, a2, t1, t2, rfl, M1, g1, M2, g2, l0, by omega, nn, T12, fun r2 H13 k3 T13 L2 => ?_⟩
      have M1 := M1.kpT T12 k3
      have M2 := M2.kpT T12 k3
      have h13 := T12.kpL k3 h12
      have S13 := S12.kpT T12 k3
      have f2 : (rowsW ls.length M).find? (fun u => chPart (acM a1 (u.foldl (nxM t1) (.i 0))) (acM a2 (u.foldl (nxM t2) (.i 0)))) = r2 := by
        rw [← L2.find hMM]; congr 1; funext u; exact (acP_run u).symm
      rw [f0, f1, f2] at h13
      walk_at "rc"
      refine ⟨by show 3 ≤ sizeLine; decide, fun qa hqa => ?_⟩
      have e14 : Ex H13 (upd H13 qa (.lst [lstV ls r0, lstV ls r1, lstV ls r2])) := Evl.Ex.new hqa
      have hq14 : upd H13 qa (.lst [lstV ls r0, lstV ls r1, lstV ls r2]) qa = some (.lst [lstV ls r0, lstV ls r1, lstV ls r2]) := upd_same
      generalize upd H13 qa (.lst [lstV ls r0, lstV ls r1, lstV ls r2]) = H14 at e14 hq14
      have W3 : ∀ {b : Addr}, H14 b = some (.lst [lstV ls r0, lstV ls r1, lstV ls r2]) → Dp K H14 (.ref b) (.list [encW ls r0, encW ls r1, encW ls r2]) := fun z => .lst (SqL.of z) (.cons (dp_W ls r0) (.cons (dp_W ls r1) (.cons (dp_W ls r2) .nil)))
      have hD14 := e14 _ _ h13
      walk_at "rc"
      refine rd_neD (Evl.Ex.refl _) (Evl.Ex.refl _) (W3 hq14) (W3 hD14) ((Ly.list (n := 0) fun d hd => ?_).lay (by decide)) ?_
      · rcases List.mem_cons.mp hd with rfl | hd
        · exact lay_W al.ok L0.lw
        rcases List.mem_cons.mp hd with rfl | hd
        · exact lay_W al.ok L1.lw
        · rw [List.mem_singleton.mp hd]
          exact lay_W al.ok L2.lw
      walk_at "rc"
      have M1 := M1.ex e14
      have M2 := M2.ex e14
      have T14 := T13.ex e14
      have S14 := S13.ex e14
      have hMM' : a2.length * a1.length ≤ M + 1 := by rw [Nat.mul_comm]; exact hMM
      have chs : ∀ x y, chPart x y = chPart y x := fun x y => by cases x <;> cases y <;> rfl
      walk_at "rs"
      walk_at "rc"
      refine ⟨x2, x1, ls, a2, a1, t2, t1, rfl, M2, g2, M1, g1, l0, by omega, by rw [Nat.mul_comm]; exact nn, T14, fun r3 H15 k4 T15 L3 => ?_⟩
      have M1 := M1.kpT T14 k4
      have h15 := T14.kpL k4 hD14
      have S15 := S14.kpT T14 k4
      have f3 : (rowsW ls.length M).find? (fun u => chPart (acM a1 (u.foldl (nxM t1) (.i 0))) (acM a2 (u.foldl (nxM t2) (.i 0)))) = r3 := by
        rw [← L3.find hMM']; congr 1; funext u; rw [chs]; exact (acP_run u).symm
      obtain rfl : r2 = r3 := f2.symm.trans f3
      walk_at "rc"
      refine rd_ixL (SqL.of h15) rfl ?_
      refine rd_neD (Evl.Ex.refl _) (Evl.Ex.refl _) (dp_W ls r2) (dp_W ls r2) ((lay_W al.ok L2.lw).lay (by decide)) ?_
      walk_at "rc"
      refine ⟨x1, x1, ls, a1, a1, t1, t1, rfl, M1, g1, M1, g1, l0, by omega, Nat.le_trans (Nat.mul_le_mul an1 an1) (by decide), T15, fun r4 H16 k5 T16 L4 => ?_⟩
      have M1 := M1.kpT T15 k5
      have h16 := T15.kpL k5 h15
      have S16 := S15.kpT T15 k5
      obtain rfl := lst_same (fun x => by cases x <;> rfl) L4
      walk_at "rc"
      refine rd_iteN (fun z => absurd rfl z) fun _ => ?_
      walk_at "rc"
      refine ⟨x1, x1, ls, a1, a1, t1, t1, rfl, M1, g1, M1, g1, l0, by omega, Nat.le_trans (Nat.mul_le_mul an1 an1) (by decide), T16, fun r5 H17 k6 T17 L5 => ?_⟩
      have M1 := M1.kpT T16 k6
      have h17 := T16.kpL k6 h16
      have S17 := S16.kpT T16 k6
      obtain rfl := lst_same (fun x => by cases x <;> rfl) L5
      walk_at "rc"
      refine rd_iteN (fun z => absurd rfl z) fun _ => ?_
      walk_at "rc"
      walk_at "rs"
      walk_at "rc"
      refine ⟨x1, ls, a1, t1, rfl, M1, g1, l0, by omega, T17, fun r6 H18 k7 T18 L6 => ?_⟩
      have h18 := T17.kpL k7 h17
      have S18 := S17.kpT T17 k7
      obtain rfl : r0 = r6 := f0.symm.trans (L6.find hMa)
      walk_at "rc"
      refine rd_reprB ?_
      walk_at "rc"
      refine rd_ixL (SqL.of h18) rfl ?_
      walk_at "rc"
      rw [lstV_non]
      refine rd_reprB ?_
      walk_at "rc"
      refine rd_iteN (fun z => absurd rfl z) fun _ => ?_
      walk_at "rc"
      refine ⟨p, 40, rfl, by decide, S18, fun n0 H19 r0a r1a S19 o19 i19 => ?_⟩
      have d19 : Dr p H18 H19 := ⟨S19, o19, i19.2⟩
      have T19 := d19.tbs S18 T18
      obtain ⟨n1, rfl⟩ := Int.eq_ofNat_of_zero_le r0a
      refine rd_addI ?_
      rw [show (1 : Int) + (n1 : Int) = ((1 + n1 : Nat) : Int) by omega]
      have hn1 : 1 + n1 ≤ 40 := by omega
      have hn0 : 0 < 1 + n1 := by omega
      generalize 1 + n1 = n at hn1 hn0
      walk_at "rc"
      refine ⟨p, 40, rfl, by decide, S19, fun r0b H20 r0c r1c S20 o20 i20 => ?_⟩
      have d20 : Dr p H19 H20 := ⟨S20, o20, i20.2⟩
      have T20 := d20.tbs S19 T19
      obtain ⟨rw0, rfl⟩ := Int.eq_ofNat_of_zero_le r0c
      walk_at "rc"
      refine ⟨ls, n, rw0, rfl, l0, by omega, hn0, by omega, fun xr H21 e21 Mr Fr => ?_⟩
      have T21 := T20.ex e21
      have S21 := S20.ex e21
      have hrr : rw0 % n < n := Nat.mod_lt _ hn0
      obtain ⟨rr, hrr0⟩ : ∃ rr, rw0 % n = rr := ⟨_, rfl⟩
      rw [hrr0] at Mr Fr hrr
      walk_at "rc"
      walk_at "rs"
      walk_at "rc"
      refine ⟨xr, ls, _, _, rfl, Mr, ring_gm hn0 (by omega) (by omega), l0, by omega, T21, fun r7 H22 k22a T22 L7 => ?_⟩
      have Fr := Fr.kpT T21 k22a
      have S22 := S21.kpT T21 k22a
      walk_at "rc"
      obtain rfl := ring_lst l0 hrr L7
      refine rd_ixS (z := ls) (by omega) (str0 l0) ?_
      obtain ⟨dxr, tar, ttr, hmr, htar⟩ := id Fr
      refine rd_bmF ?_
      walk_at "rc"
      refine ⟨xr, _, dxr, _, _, rfl, hmr, T.cl_Machine, T.na_Machine_accepting, rfl, ?_⟩
      walk_at "rc"
      refine ⟨⟨tar, _, rfl, htar⟩, ?_⟩
      walk_at "rc"
      refine ⟨tar, ringA n rr, rr, rfl, rfl, htar.sq, by rw [ringA_at hrr]; simp, fun m hm => by rw [ringA_at (by omega)]; simp; omega, ?_⟩
      refine rd_mulT (mulOk1 rfl (by omega)) ?_
      rw [mul_zs]
      have okz : ∀ k, okS (tx ls (zs k)) := fun k => tx_ok al.ok (zs_lw l0)
      refine rd_neD (Evl.Ex.refl _) (Evl.Ex.refl _) (.str _) (.str _) ((Ly.str (okz rr)).lay (by decide)) ?_
      walk_at "rc"
      refine ⟨p, 20, rfl, by decide, S22, fun w0 H23 w0a w0b S23 o23 i23 => ?_⟩
      have d23 : Dr p H22 H23 := ⟨S23, o23, i23.2⟩
      obtain ⟨s0, rfl⟩ := Int.eq_ofNat_of_zero_le w0a
      refine rd_addI ?_
      rw [show (1 : Int) + (s0 : Int) = ((1 + s0 : Nat) : Int) by omega]
      have hs0 : 0 < 1 + s0 := by omega
      have hs0' : 1 + s0 ≤ 20 := by omega
      generalize 1 + s0 = s0 at hs0 hs0'
      walk_at "rc"
      refine ⟨p, 20, rfl, by decide, S23, fun w1 H24 w1a w1b S24 o24 i24 => ?_⟩
      have d24 : Dr p H22 H24 := d23.trans ⟨S24, o24, i24.2⟩
      obtain ⟨s1, rfl⟩ := Int.eq_ofNat_of_zero_le w1a
      refine rd_addI ?_
      rw [show (1 : Int) + (s1 : Int) = ((1 + s1 : Nat) : Int) by omega]
      have hs1 : 0 < 1 + s1 := by omega
      have hs1' : 1 + s1 ≤ 20 := by omega
      generalize 1 + s1 = s1 at hs1 hs1'
      have T24 := d24.tbs S22 T22
      walk_at "rc"
      refine ⟨by show 2 ≤ sizeLine; decide, fun sz hsz => ?_⟩
      have e25 : Ex H24 (upd H24 sz (.lst [.int (s0 : Int), .int (s1 : Int)])) := Evl.Ex.new hsz
      have h25 : upd H24 sz (.lst [.int (s0 : Int), .int (s1 : Int)]) sz = some (.lst [.int (s0 : Int), .int (s1 : Int)]) := upd_same
      generalize upd H24 sz (.lst [.int (s0 : Int), .int (s1 : Int)]) = H25 at e25 h25
      have T25 := T24.ex e25
      have S25 := S24.ex e25
      have nsz : sz ≠ p := fun z => by obtain ⟨o, ho⟩ := S24.some; rw [← z, hsz] at ho; cases ho
      walk_at "rc"
      have h25' : hid [p] H25 sz = some (.lst [.int (s0 : Int), .int (s1 : Int)]) := by rw [hid_at fun z => nsz (List.mem_singleton.mp z)]; exact h25
      refine rd_anyL (fun Q q => ⟨_, rfl, q⟩) (SqL.of h25) ?_
      refine lc_R (K := K) (S := [p]) (H := H25) (P := fun i x => ∃ d, [nI s0, nI s1][i]? = some d ∧ Dp K (hid [p] H25) x d) (tr_dr S25 List.mem_cons_self) (st1 S25.some.choose_spec) (wd_list (SqL.of h25') (.cons (.int _) (.cons (.int _) .nil))) wd_Y (by show 2 < 100000; decide) (fun Hc z => ((tr_dr S25 List.mem_cons_self).kp z).ex.trans hid_ex) (fun i d => ∃ r : Nat, d = nI r ∧ r < [s0, s1].getD i 0) (hg_name fun v => rfl) (fun L i σ2 Hc hi p2 hL nL dc hs up N hN => ?_) fun rs ur H26 ds d26 hrs nrs hur hdr hlr hRr => ?_
      · obtain ⟨v, ⟨d, hd, hv⟩, rfl⟩ := p2
        obtain ⟨si, hsi, hsi0, hsi1, rfl⟩ : ∃ si : Nat, [s0, s1].getD i 0 = si ∧ 0 < si ∧ si ≤ 20 ∧ d = nI si := by
          rcases (show i = 0 ∨ i = 1 by have : i < 2 := hi; omega) with rfl | rfl
          · exact ⟨s0, rfl, hs0, hs0', (Option.some.inj hd).symm⟩
          · exact ⟨s1, rfl, hs1, hs1', (Option.some.inj hd).symm⟩
        cases Dp.int_iff hv
        walk_at "rc"
        refine ⟨p, (si : Int), rfl, by omega, dc.st, fun r H3 q0 q1 S3 o3 i3 => ?_⟩
        have d3 : Dr p Hc H3 := ⟨S3, o3, i3.2⟩
        obtain ⟨r, rfl⟩ := Int.eq_ofNat_of_zero_le q0
        exact hN _ _ _ d3 (.int _) ⟨r, rfl, by rw [hsi]; omega⟩
      obtain ⟨r0', r1', rfl, hr0, hr1⟩ : ∃ r0 r1 : Nat, ds = [nI r0, nI r1] ∧ r0 < s0 ∧ r1 < s1 := by
        match ds, hlr with
        | [d0, d1], _ =>
          obtain ⟨r0, rfl, z0⟩ := hRr 0 d0 rfl
          obtain ⟨r1, rfl, z1⟩ := hRr 1 d1 rfl
          exact ⟨r0, r1, rfl, z0, z1⟩
      have hur' : H26 rs = some (.lst [.int (r0' : Int), .int (r1' : Int)]) := by
        cases hdr with
        | cons q1 t1 => cases t1 with
          | cons q2 t2 => cases t2; cases Dp.int_iff q1; cases Dp.int_iff q2; exact hur
      have T26 := d26.tbs S25 T25
      have h26 : H26 sz = some (.lst [.int (s0 : Int), .int (s1 : Int)]) := d26.old _ _ nsz h25
      walk_at "rc"
      refine ⟨2, rfl, by decide, by decide, ?_⟩
      obtain ⟨sf, hsf⟩ : ∃ f : Nat → Nat, f = fun j => [s0, s1].getD j 0 := ⟨_, rfl⟩
      obtain ⟨rf, hrf⟩ : ∃ f : Nat → Nat, f = fun j => [r0', r1'].getD j 0 := ⟨_, rfl⟩
      refine lc_gen (n := 2) (fun L i vs Hc => Ex H26 Hc ∧ ∀ j, j < i → ∃ m, vs[j]? = some (.ref m) ∧ MachD K T.C_Machine (hid [L] Hc) m ls (ringA (sf j) (rf j)) (ringT (sf j) ls.length)) walk_range0 (xs := fun i => V.int (i : Nat)) (fun _ _ _ _ _ y => y) (by decide) (fun L hL => ⟨Evl.Ex.new hL, fun j hj => absurd hj (Nat.not_lt_zero j)⟩) (fun L i vs Hc hL p => True.intro) (fun L i vs Hc hi hL h1 h2 pp N hN => ?_) fun rg vs H27 hL hrg hvl pp => ?_
      · obtain ⟨eHc, pp⟩ := pp
        obtain ⟨hsi, hsi1, hri, hat, hat2⟩ : 0 < sf i ∧ sf i ≤ 20 ∧ rf i < sf i ∧ atI [V.int (s0 : Int), .int (s1 : Int)] (i : Int) = some (.int (sf i : Int)) ∧ atI [V.int (r0' : Int), .int (r1' : Int)] (i : Int) = some (.int (rf i : Int)) := by
          subst hsf hrf
          rcases (show i = 0 ∨ i = 1 by omega) with rfl | rfl
          · exact ⟨hs0, hs0', hr0, rfl, rfl⟩
          · exact ⟨hs1, hs1', hr1, rfl, rfl⟩
        walk_at "rc"
        refine rd_ixL (SqL.of (eHc _ _ h26)) hat ?_
        walk_at "rc"
        refine rd_ixL (SqL.of (eHc _ _ hur')) hat2 ?_
        walk_at "rc"
        refine ⟨ls, sf i, rf i, rfl, l0, by omega, hsi, by omega, fun m H3 e3 M3 F3 => ?_⟩
        rw [Nat.mod_eq_of_lt hri] at M3
        refine hN _ _ (e3 _ _ h1) ⟨fun b o z => by rw [upd_ne (ne_of_none z hL)]; exact (eHc.trans e3) b o z, fun j hj => ?_⟩
        have kp : Ex (hid [L] H3) (hid [L] (upd H3 L (.lst (vs ++ [.ref m])))) := (Kp.put List.mem_cons_self).ex
        rcases Nat.lt_or_ge j i with z | z
        · obtain ⟨m', g1, g2⟩ := pp j z
          exact ⟨m', by rw [List.getElem?_append_left (by omega)]; exact g1, (g2.ex (Kp.of_ex e3).ex).ex kp⟩
        · obtain rfl : j = i := by omega
          exact ⟨m, by rw [← h2, List.getElem?_append_right (Nat.le_refl _), Nat.sub_self]; rfl, (M3.off (e3 _ _ h1)).ex kp⟩
      obtain ⟨e27, pp⟩ := pp
      obtain ⟨m0, m1, hvs, Ma, Mb⟩ : ∃ m0 m1, vs = [.ref m0, .ref m1] ∧ MachD K T.C_Machine H27 m0 ls (ringA s0 r0') (ringT s0 ls.length) ∧ MachD K T.C_Machine H27 m1 ls (ringA s1 r1') (ringT s1 ls.length) := by
        obtain ⟨m0, z0, M0⟩ := pp 0 (by decide)
        obtain ⟨m1, z1, M1⟩ := pp 1 (by decide)
        subst hsf hrf
        match vs, hvl with
        | [v0, v1], _ =>
          cases z0
          cases z1
          exact ⟨m0, m1, rfl, M0.ex hid_ex, M1.ex hid_ex⟩
      subst hvs
      have T27 := T26.ex e27
      have h27 := e27 _ _ h26
      have hr27 := e27 _ _ hur'
      walk_at "rc"
      refine rd_lrg ?_
      refine rd_rg1 ?_
      walk_at "rc"
      refine rd_ixL (SqL.of h27) rfl ?_
      walk_at "rc"
      refine rd_ixL (SqL.of h27) rfl ?_
      refine rd_mulN (.inl ⟨by omega, by omega⟩) ?_
      obtain ⟨N, hN0⟩ : ∃ N, s0 * s1 = N := ⟨_, rfl⟩
      have hNpos : 0 < N := by rw [← hN0]; exact Nat.mul_pos hs0 hs1
      have hN400 : N ≤ 400 := by rw [← hN0]; exact Nat.mul_le_mul hs0' hs1'
      rw [show (s0 : Int) * (s1 : Int) = (N : Int) by rw [← hN0]; exact (Int.natCast_mul _ _).symm]
      refine ⟨_, rfl, RgOk.of_le (by decide) (by omega) (by decide) (by omega), fun le hle => ?_⟩
      rw [rgV0]
      have e28 : Ex H27 (upd H27 le (.lst ((List.range N).map fun k => V.int (k : Nat)))) := Evl.Ex.new hle
      have h28 : upd H27 le (.lst ((List.range N).map fun k => V.int (k : Nat))) le = some (.lst ((List.range N).map fun k => V.int (k : Nat))) := upd_same
      generalize upd H27 le (.lst ((List.range N).map fun k => V.int (k : Nat))) = H28 at e28 h28
      have hs28 := e28 _ _ h27
      have hr28 := e28 _ _ hr27
      walk_at "rc"
      have q1 : ∀ (k s r : Nat), 0 < s → decide ((k : Int).fmod (s : Int) = (r : Int)) = decide (k % s = r) := fun k s r h => by
        rw [Int.fmod_eq_emod_of_nonneg _ (by omega), Bool.eq_iff_iff, decide_eq_true_iff, decide_eq_true_iff]
        omega
      obtain ⟨p1k, hp1k⟩ : ∃ f : Nat → Bool, f = fun k => chPart (decide (k % s0 = r0')) (decide (k % s1 = r1')) := ⟨_, rfl⟩
      refine rd_anyL (fun Q q => ⟨_, rfl, q⟩) (SqL.of h28) ?_
      refine lc_FD (K := K) (S := []) tr_ex (fun b hb => nomatch hb) (H0 := hid [] H28) (ds := (List.range N).map nI) (wd_list (SqL.of (by rw [hid_nil]; exact h28)) (dp_ints _)) (Evl.Ex.refl _) (by rw [List.length_map, List.length_range]; omega) (fun v => rfl) (isK p1k) id (fun L d v Hc hd hv hL nL eHc hsB up N2 hN2 => ?_) (fun L d v Hc hd hv _ hL nL eHc hsB up N2 hN2 => ?_) fun ap us H29 e29 hap nap hua hda => ?_
      · obtain ⟨k, hk, rfl⟩ := List.mem_map.mp hd
        cases Dp.int_iff hv
        walk_at "rc"
        refine rd_ixL (SqL.of (eHc _ _ hs28)) rfl ?_
        refine rd_modI (by omega) ?_
        walk_at "rc"
        refine rd_ixL (SqL.of (eHc _ _ hr28)) rfl ?_
        walk_at "rc"
        refine rd_ixL (SqL.of (eHc _ _ hs28)) rfl ?_
        refine rd_modI (by omega) ?_
        walk_at "rc"
        refine rd_ixL (SqL.of (eHc _ _ hr28)) rfl ?_
        walk_at "rc"
        rw [q1 _ _ _ hs0, q1 _ _ _ hs1]
        refine rd_neB ?_
        have hb : isK p1k (nI k) = (decide (k % s0 = r0') != decide (k % s1 = r1')) := by rw [hp1k]; rfl
        have := hN2 Hc (Evl.Ex.refl _)
        rw [hb] at this
        exact ⟨_, rfl, this⟩
      · obtain ⟨k, hk, rfl⟩ := List.mem_map.mp hd
        cases Dp.int_iff hv
        walk_at "rc"
        exact hN2 _ _ (Evl.Ex.refl _) (.int _)
      rw [isK_f] at hda
      obtain rfl := dp_nats hda
      walk_at "rc"
      have hs29 := e29 _ _ hs28
      have hr29 := e29 _ _ hr28
      obtain ⟨A, hA⟩ : ∃ A, (List.range N).filter p1k = A := ⟨_, rfl⟩
      rw [hA] at hua
      have hAN : ∀ k ∈ A, k < N := fun k hk => by rw [← hA] at hk; exact List.mem_range.mp (List.mem_filter.mp hk).1
      have hAl : A.length ≤ N := by rw [← hA]; exact Nat.le_trans (List.length_filter_le _ _) (by rw [List.length_range]; exact Nat.le_refl _)
      refine rd_anyL (fun Q q => ⟨_, rfl, q⟩) (SqL.of hua) ?_
      refine lc_FD (K := K) (S := []) tr_ex (fun b hb => nomatch hb) (H0 := hid [] H29) (ds := A.map nI) (wd_list (SqL.of (by rw [hid_nil]; exact hua)) (dp_ints _)) (Evl.Ex.refl _) (by rw [List.length_map]; omega) (fun v => rfl) (isK fun k => decide (k % s0 = r0')) id (fun L d v Hc hd hv hL nL eHc hsB up N2 hN2 => ?_) (fun L d v Hc hd hv _ hL nL eHc hsB up N2 hN2 => ?_) fun al2 us H30 e30 hal nal hub hdb => ?_
      · obtain ⟨k, hk, rfl⟩ := List.mem_map.mp hd
        cases Dp.int_iff hv
        have := hAN k hk
        walk_at "rc"
        refine rd_ixL (SqL.of (eHc _ _ hs29)) rfl ?_
        refine rd_modI (by omega) ?_
        walk_at "rc"
        refine rd_ixL (SqL.of (eHc _ _ hr29)) rfl ?_
        walk_at "rc"
        rw [q1 _ _ _ hs0]
        exact hN2 Hc (Evl.Ex.refl _)
      · obtain ⟨k, hk, rfl⟩ := List.mem_map.mp hd
        cases Dp.int_iff hv
        walk_at "rc"
        exact hN2 _ _ (Evl.Ex.refl _) (.int _)
      rw [isK_f] at hdb
      obtain rfl := dp_nats hdb
      walk_at "rc"
      have hrg30 : H30 rg = some (.lst [.ref m0, .ref m1]) := e30 _ _ (e29 _ _ (e28 _ _ hrg))
      have T30 := T27.ex ((e28.trans e29).trans e30)
      have Ma := Ma.ex ((e28.trans e29).trans e30)
      have Mb := Mb.ex ((e28.trans e29).trans e30)
      have ha30 := e30 _ _ hua
      have ga := ring_gm (ls := ls) (r := r0') hs0 (by omega) (by omega)
      have gb := ring_gm (ls := ls) (r := r1') hs1 (by omega) (by omega)
      have nn2 : (ringA s0 r0').length * (ringA s1 r1').length ≤ 50000 := by rw [len_ringA, len_ringA, hN0]; omega
      refine rd_ixL (SqL.of hrg30) rfl ?_
      walk_at "rc"
      refine rd_ixL (SqL.of hrg30) rfl ?_
      walk_at "rc"
      refine ⟨m0, m1, ls, _, _, _, _, rfl, Ma, ga, Mb, gb, l0, by omega, nn2, T30, fun r8 H31 k31 T31 L8 => ?_⟩
      have Ma := Ma.kpT T30 k31
      have Mb := Mb.kpT T30 k31
      have hrg31 := T30.kpL k31 hrg30
      have ha31 := T30.kpL k31 ha30
      have hb31 := T30.kpL k31 hub
      walk_at "rc"
      refine rd_ixL (SqL.of hrg31) rfl ?_
      walk_at "rc"
      refine rd_ixL (SqL.of hrg31) rfl ?_
      walk_at "rc"
      refine ⟨m0, m1, ls, _, _, _, _, rfl, Ma, ga, Mb, gb, l0, by omega, nn2, T31, fun r9 H32 k32 T32 L9 => ?_⟩
      have ha32 := T31.kpL k32 ha31
      have hb32 := T31.kpL k32 hb31
      walk_at "rc"
      refine ⟨by show 2 ≤ sizeLine; decide, fun td htd => ?_⟩
      have e33 : Ex H32 (upd H32 td (.lst [lstV ls r8, lstV ls r9])) := Evl.Ex.new htd
      have h33 : upd H32 td (.lst [lstV ls r8, lstV ls r9]) td = some (.lst [lstV ls r8, lstV ls r9]) := upd_same
      generalize upd H32 td (.lst [lstV ls r8, lstV ls r9]) = H33 at e33 h33
      walk_at "rc"
      refine rd_anyL' ?_
      walk_at "rc"
      refine ⟨by show 2 ≤ sizeLine; decide, fun tm htm => ?_⟩
      have e34 : Ex H33 (upd H33 tm (.lst [.ref ap, .ref al2])) := Evl.Ex.new htm
      have h34 : upd H33 tm (.lst [.ref ap, .ref al2]) tm = some (.lst [.ref ap, .ref al2]) := upd_same
      generalize upd H33 tm (.lst [.ref ap, .ref al2]) = H34 at e34 h34
      refine ⟨tm, rfl, ⟨_, SqL.of h34⟩, ?_⟩
      have hd34 := e34 _ _ h33
      have ha34 := e34 _ _ (e33 _ _ ha32)
      have hb34 := e34 _ _ (e33 _ _ hb32)
      have per0 : ∀ k, (k % N) % s0 = k % s0 := fun k => Nat.mod_mod_of_dvd _ ⟨s1, hN0.symm⟩
      have per1 : ∀ k, (k % N) % s1 = k % s1 := fun k => Nat.mod_mod_of_dvd _ ⟨s0, by rw [Nat.mul_comm]; exact hN0.symm⟩
      have row8 : (A = [] ∧ r8 = none) ∨ ∃ k l, A = k :: l ∧ k < N ∧ r8 = some (zs k) := by
        obtain ⟨x, y⟩ := lst_len l0 (p := p1k) (fun u hu => by rw [acP_run, ring_tells hs0 hu, ring_tells hs1 hu, hp1k]) L8
        have := row_of hNpos (p := p1k) (fun k => by rw [hp1k]; show chPart _ _ = chPart _ _; rw [per0, per1]) x y
        rw [hA] at this
        exact this
      have row9 : (A.filter (fun k => decide (k % s0 = r0')) = [] ∧ r9 = none) ∨ ∃ k l, A.filter (fun k => decide (k % s0 = r0')) = k :: l ∧ k < N ∧ r9 = some (zs k) := by
        obtain ⟨x, y⟩ := lst_len l0 (p := fun k => chOut (decide (k % s0 = r0')) (decide (k % s1 = r1'))) (fun u hu => by rw [acP_run, ring_tells hs0 hu, ring_tells hs1 hu]) L9
        have := row_of hNpos (p := fun k => chOut (decide (k % s0 = r0')) (decide (k % s1 = r1'))) (fun k => by show chOut _ _ = chOut _ _; rw [per0, per1]) x y
        have e : A.filter (fun k => decide (k % s0 = r0')) = (List.range N).filter (fun k => chOut (decide (k % s0 = r0')) (decide (k % s1 = r1'))) := by
          rw [← hA, List.filter_filter, hp1k]
          congr 1
          funext k
          show (decide (k % s0 = r0') && chPart _ _) = chOut _ _
          cases decide (k % s0 = r0') <;> cases decide (k % s1 = r1') <;> rfl
        rw [e]
        exact this
      have yl : ∀ (i : Nat) (H : Hp) (x : V) (H' : Hp), i < 2 → YAt [V.ref ap, .ref al2] i H x H' → H' = H ∧ x = [V.ref ap, .ref al2].getD i .non := fun i H x H' _ y => ⟨y.1, by rw [List.getD_eq_getElem?_getD, y.2]; rfl⟩
      have rows : ∀ i, i < 2 → ∃ (b : Addr) (C : List Nat) (r : Option (List Nat)), [V.ref ap, .ref al2].getD i .non = .ref b ∧ H34 b = some (.lst (C.map vI)) ∧ [lstV ls r8, lstV ls r9].take (i + 1) = [lstV ls r8, lstV ls r9].take i ++ [lstV ls r] ∧ ((C = [] ∧ r = none) ∨ ∃ k l, C = k :: l ∧ k < N ∧ r = some (zs k)) := fun i hi => by
        rcases (show i = 0 ∨ i = 1 by omega) with rfl | rfl
        · exact ⟨ap, _, r8, rfl, ha34, rfl, row8⟩
        · exact ⟨al2, _, r9, rfl, hb34, rfl, row9⟩
      refine lc_gen (n := 2) (G := fun Hc => SqL K Hc tm [V.ref ap, .ref al2]) (fun L i vs Hc => Ex H34 Hc ∧ vs = [lstV ls r8, lstV ls r9].take i) (walk_list (xs := [V.ref ap, .ref al2])) yl (by decide) (fun L hL => ⟨Evl.Ex.new hL, rfl⟩) (fun L i vs Hc hL p => SqL.of (p.1 _ _ h34)) (fun L i vs Hc hi hL h1 h2 pp N2 hN2 => ?_) fun tg vs H35 hL htg hvl pp => ?_
      · obtain ⟨eHc, rfl⟩ := pp
        obtain ⟨b, C, r, hx, hb, ht, hC⟩ := rows i hi
        rw [hx]
        rw [ht] at hN2
        have fin : ∀ H2, Ex Hc H2 → N2 (lstV ls r) H2 := fun H2 e2 => hN2 _ _ (e2 _ _ h1) ⟨fun b o z => by rw [upd_ne (ne_of_none z hL)]; exact (eHc.trans e2) b o z, rfl⟩
        refine rd_ife ?_
        walk_at "rc"
        refine ⟨by show 0 ≤ sizeLine; decide, fun em hem => ?_⟩
        have e36 : Ex Hc (upd Hc em (.lst [])) := Evl.Ex.new hem
        have h36 : upd Hc em (.lst []) em = some (.lst []) := upd_same
        generalize upd Hc em (.lst []) = H36 at e36 h36
        have hb36 := e36 _ _ (eHc _ _ hb)
        rcases hC with ⟨rfl, rfl⟩ | ⟨k, l, rfl, hk, rfl⟩
        · refine rd_neD (Evl.Ex.refl _) (Evl.Ex.refl _) (.lst (SqL.of hb36) .nil) (.lst (SqL.of h36) .nil) ((Ly.list (n := 0) (ds := []) fun d hd => nomatch hd).lay (by decide)) ?_
          walk_at "rc"
          exact fin _ e36
        · refine rd_neE (k := k) (l := l) (.lst (SqL.of hb36) (dp_ints _)) (.lst (SqL.of h36) .nil) ?_
          walk_at "rc"
          refine rd_ixS (z := ls) (by omega) (str0 l0) ?_
          walk_at "rc"
          refine rd_ixL (SqL.of hb36) (show atI ((k :: l).map vI) 0 = some (.int (k : Int)) from atI_nat (j := 0) rfl) ?_
          refine rd_mulT (mulOk1 rfl (by omega)) ?_
          rw [mul_zs]
          exact fin _ e36
      · obtain ⟨e35, rfl⟩ := pp
        have W2 : ∀ {b : Addr}, H35 b = some (.lst [lstV ls r8, lstV ls r9]) → Dp K H35 (.ref b) (.list [encW ls r8, encW ls r9]) := fun z => .lst (SqL.of z) (.cons (dp_W ls r8) (.cons (dp_W ls r9) .nil))
        refine rd_eqD (Evl.Ex.refl _) (Evl.Ex.refl _) (W2 (e35 _ _ hd34)) (W2 htg) ((Ly.list (n := 0) fun d hd => ?_).lay (by decide)) ?_
        · rcases List.mem_cons.mp hd with rfl | hd
          · exact lay_W al.ok L8.lw
          · rw [List.mem_singleton.mp hd]
            exact lay_W al.ok L9.lw
        · exact q _
end
end
theorem all_mk {l : PySem.W.OpenLaw} {w : World} {K : PySem.W.Frag} {h : Heap} {mg : Str → Option Value} {fa : Addr} (X : K.In h) (G : h.Ns mainGlobals mg) (hfa : mg "law" = some (.ref fa))
    {cc_first_text PP_first_text cc_outside PP_outside cc_parting PP_parting cc__first_of_two PP__first_of_two : Addr}
    {a__wall : Addr} {od__wall an__wall : Option Addr} {sl__wall : Array (Option Value)} {oc__wall kV__wall dc__wall pm__wall cd__wall ct__wall : Value}
    {a_least_way : Addr} {od_least_way an_least_way : Option Addr} {sl_least_way : Array (Option Value)} {oc_least_way kV_least_way dc_least_way pm_least_way cd_least_way ct_least_way : Value}
    {a__text_to : Addr} {od__text_to an__text_to : Option Addr} {sl__text_to : Array (Option Value)} {oc__text_to kV__text_to dc__text_to pm__text_to cd__text_to ct__text_to : Value}
    {a_first_text : Addr} {od_first_text an_first_text : Option Addr} {sl_first_text : Array (Option Value)} {oc_first_text kV_first_text dc_first_text pm_first_text cd_first_text ct_first_text : Value}
    {a_is_empty : Addr} {od_is_empty an_is_empty : Option Addr} {sl_is_empty : Array (Option Value)} {oc_is_empty kV_is_empty dc_is_empty pm_is_empty cd_is_empty ct_is_empty : Value}
    {a_outside : Addr} {od_outside an_outside : Option Addr} {sl_outside : Array (Option Value)} {oc_outside kV_outside dc_outside pm_outside cd_outside ct_outside : Value}
    {a_parting : Addr} {od_parting an_parting : Option Addr} {sl_parting : Array (Option Value)} {oc_parting kV_parting dc_parting pm_parting cd_parting ct_parting : Value}
    {a__first_of_two : Addr} {od__first_of_two an__first_of_two : Option Addr} {sl__first_of_two : Array (Option Value)} {oc__first_of_two kV__first_of_two dc__first_of_two pm__first_of_two cd__first_of_two ct__first_of_two : Value}
    {a_cell : Addr} {od_cell an_cell : Option Addr} {sl_cell : Array (Option Value)} {oc_cell kV_cell dc_cell pm_cell cd_cell ct_cell : Value}
    {a_numbers : Addr} {od_numbers an_numbers : Option Addr} {sl_numbers : Array (Option Value)} {oc_numbers kV_numbers dc_numbers pm_numbers cd_numbers ct_numbers : Value}
    {a_state : Addr} {od_state an_state : Option Addr} {sl_state : Array (Option Value)} {oc_state kV_state dc_state pm_state cd_state ct_state : Value}
    {a_next : Addr} {od_next an_next : Option Addr} {sl_next : Array (Option Value)} {oc_next kV_next dc_next pm_next cd_next ct_next : Value}
    {a_letters : Addr} {od_letters an_letters : Option Addr} {sl_letters : Array (Option Value)} {oc_letters kV_letters dc_letters pm_letters cd_letters ct_letters : Value}
    {a_texts : Addr} {od_texts an_texts : Option Addr} {sl_texts : Array (Option Value)} {oc_texts kV_texts dc_texts pm_texts cd_texts ct_texts : Value}
    {a_parts : Addr} {od_parts an_parts : Option Addr} {sl_parts : Array (Option Value)} {oc_parts kV_parts dc_parts pm_parts cd_parts ct_parts : Value}
    {a_accepts : Addr} {od_accepts an_accepts : Option Addr} {sl_accepts : Array (Option Value)} {oc_accepts kV_accepts dc_accepts pm_accepts cd_accepts ct_accepts : Value}
    {a_ring : Addr} {od_ring an_ring : Option Addr} {sl_ring : Array (Option Value)} {oc_ring kV_ring dc_ring pm_ring cd_ring ct_ring : Value}
    {a_law : Addr} {od_law an_law : Option Addr} {sl_law : Array (Option Value)} {oc_law kV_law dc_law pm_law cd_law ct_law : Value}
    {C_AnytextError C_MachineError C_BadMachine : Addr}
    {a_init T_init : Addr} {od_init an_init : Option Addr} {sl_init : Array (Option Value)} {oc_init kV_init dc_init pm_init cd_init ct_init : Value} {dd_init : Option Addr} {nn_init : Nat} {sm_init : Array (Option Value)} {oc2_init : Value}
    {nm_BadMachine q_BadMachine : Str} {N_BadMachine : Addr} {bs_BadMachine : List Value} {sn_BadMachine : List Str} {sb_BadMachine : List Value} {ab_BadMachine : Bool} {col_BadMachine : Option Bool} {dd_BadMachine : Option Addr} {m0_BadMachine m1_BadMachine m2_BadMachine m3_BadMachine m5_BadMachine : Option Value}
    {C_Machine : Addr}
    {a_Machine_init : Addr} {od_Machine_init an_Machine_init : Option Addr} {sl_Machine_init : Array (Option Value)} {oc_Machine_init kV_Machine_init dc_Machine_init pm_Machine_init cd_Machine_init ct_Machine_init : Value}
    {a_Machine_check : Addr} {od_Machine_check an_Machine_check : Option Addr} {sl_Machine_check : Array (Option Value)} {oc_Machine_check kV_Machine_check dc_Machine_check pm_Machine_check cd_Machine_check ct_Machine_check : Value}
    {a_Machine_run : Addr} {od_Machine_run an_Machine_run : Option Addr} {sl_Machine_run : Array (Option Value)} {oc_Machine_run kV_Machine_run dc_Machine_run pm_Machine_run cd_Machine_run ct_Machine_run : Value}
    {a_Machine_run_from : Addr} {od_Machine_run_from an_Machine_run_from : Option Addr} {sl_Machine_run_from : Array (Option Value)} {oc_Machine_run_from kV_Machine_run_from dc_Machine_run_from pm_Machine_run_from cd_Machine_run_from ct_Machine_run_from : Value}
    {a_Machine_accepts : Addr} {od_Machine_accepts an_Machine_accepts : Option Addr} {sl_Machine_accepts : Array (Option Value)} {oc_Machine_accepts kV_Machine_accepts dc_Machine_accepts pm_Machine_accepts cd_Machine_accepts ct_Machine_accepts : Value}
    {a_Machine_picture : Addr} {od_Machine_picture an_Machine_picture : Option Addr} {sl_Machine_picture : Array (Option Value)} {oc_Machine_picture kV_Machine_picture dc_Machine_picture pm_Machine_picture cd_Machine_picture ct_Machine_picture : Value}
    (n__wall : PySem.W.nsIn K mainGlobals "_wall" = some (some (.ref a__wall)))
    (l__wall : K.lookup a__wall = some ⟨oc__wall, od__wall, .func (PySem.W.fnOf "_wall" "_wall" (defArgs s__wall) (defBody s__wall) (defScope s__wall) .none kV__wall dc__wall pm__wall an__wall cd__wall ct__wall), sl__wall⟩)
    (c__wall : PySem.W.codeIn K cd__wall "_wall" = true)
    (k__wall : PySem.W.keepIn K (.ref a__wall) = true)
    (n_least_way : PySem.W.nsIn K mainGlobals "least_way" = some (some (.ref a_least_way)))
    (l_least_way : K.lookup a_least_way = some ⟨oc_least_way, od_least_way, .func (PySem.W.fnOf "least_way" "least_way" (defArgs s_least_way) (defBody s_least_way) (defScope s_least_way) .none kV_least_way dc_least_way pm_least_way an_least_way cd_least_way ct_least_way), sl_least_way⟩)
    (c_least_way : PySem.W.codeIn K cd_least_way "least_way" = true)
    (k_least_way : PySem.W.keepIn K (.ref a_least_way) = true)
    (n__text_to : PySem.W.nsIn K mainGlobals "_text_to" = some (some (.ref a__text_to)))
    (l__text_to : K.lookup a__text_to = some ⟨oc__text_to, od__text_to, .func (PySem.W.fnOf "_text_to" "_text_to" (defArgs s__text_to) (defBody s__text_to) (defScope s__text_to) .none kV__text_to dc__text_to pm__text_to an__text_to cd__text_to ct__text_to), sl__text_to⟩)
    (c__text_to : PySem.W.codeIn K cd__text_to "_text_to" = true)
    (k__text_to : PySem.W.keepIn K (.ref a__text_to) = true)
    (n_first_text : PySem.W.nsIn K mainGlobals "first_text" = some (some (.ref a_first_text)))
    (l_first_text : K.lookup a_first_text = some ⟨oc_first_text, od_first_text, .func (PySem.W.fnOf "first_text" "first_text" (defArgs s_first_text) (defBody s_first_text) (defScope s_first_text) .none kV_first_text dc_first_text pm_first_text an_first_text cd_first_text ct_first_text), sl_first_text⟩)
    (c_first_text : PySem.W.codeIn K cd_first_text "first_text" = true)
    (k_first_text : PySem.W.keepIn K (.ref a_first_text) = true)
    (n_is_empty : PySem.W.nsIn K mainGlobals "is_empty" = some (some (.ref a_is_empty)))
    (l_is_empty : K.lookup a_is_empty = some ⟨oc_is_empty, od_is_empty, .func (PySem.W.fnOf "is_empty" "is_empty" (defArgs s_is_empty) (defBody s_is_empty) (defScope s_is_empty) .none kV_is_empty dc_is_empty pm_is_empty an_is_empty cd_is_empty ct_is_empty), sl_is_empty⟩)
    (c_is_empty : PySem.W.codeIn K cd_is_empty "is_empty" = true)
    (k_is_empty : PySem.W.keepIn K (.ref a_is_empty) = true)
    (n_outside : PySem.W.nsIn K mainGlobals "outside" = some (some (.ref a_outside)))
    (l_outside : K.lookup a_outside = some ⟨oc_outside, od_outside, .func (PySem.W.fnOf "outside" "outside" (defArgs s_outside) (defBody s_outside) (defScope s_outside) .none kV_outside dc_outside pm_outside an_outside cd_outside ct_outside), sl_outside⟩)
    (c_outside : PySem.W.codeIn K cd_outside "outside" = true)
    (k_outside : PySem.W.keepIn K (.ref a_outside) = true)
    (n_parting : PySem.W.nsIn K mainGlobals "parting" = some (some (.ref a_parting)))
    (l_parting : K.lookup a_parting = some ⟨oc_parting, od_parting, .func (PySem.W.fnOf "parting" "parting" (defArgs s_parting) (defBody s_parting) (defScope s_parting) .none kV_parting dc_parting pm_parting an_parting cd_parting ct_parting), sl_parting⟩)
    (c_parting : PySem.W.codeIn K cd_parting "parting" = true)
    (k_parting : PySem.W.keepIn K (.ref a_parting) = true)
    (n__first_of_two : PySem.W.nsIn K mainGlobals "_first_of_two" = some (some (.ref a__first_of_two)))
    (l__first_of_two : K.lookup a__first_of_two = some ⟨oc__first_of_two, od__first_of_two, .func (PySem.W.fnOf "_first_of_two" "_first_of_two" (defArgs s__first_of_two) (defBody s__first_of_two) (defScope s__first_of_two) .none kV__first_of_two dc__first_of_two pm__first_of_two an__first_of_two cd__first_of_two ct__first_of_two), sl__first_of_two⟩)
    (c__first_of_two : PySem.W.codeIn K cd__first_of_two "_first_of_two" = true)
    (k__first_of_two : PySem.W.keepIn K (.ref a__first_of_two) = true)
    (n_cell : PySem.W.nsIn K mainGlobals "_law_cell" = some (some (.ref a_cell)))
    (l_cell : K.lookup a_cell = some ⟨oc_cell, od_cell, .func (PySem.W.fnOf "_law_cell" "_law_cell" (defArgs s_cell) (defBody s_cell) (defScope s_cell) .none kV_cell dc_cell pm_cell an_cell cd_cell ct_cell), sl_cell⟩)
    (c_cell : PySem.W.codeIn K cd_cell "_law_cell" = true)
    (k_cell : PySem.W.keepIn K (.ref a_cell) = true)
    (n_numbers : PySem.W.nsIn K mainGlobals "_law_numbers" = some (some (.ref a_numbers)))
    (l_numbers : K.lookup a_numbers = some ⟨oc_numbers, od_numbers, .func (PySem.W.fnOf "_law_numbers" "_law_numbers" (defArgs s_numbers) (defBody s_numbers) (defScope s_numbers) .none kV_numbers dc_numbers pm_numbers an_numbers cd_numbers ct_numbers), sl_numbers⟩)
    (c_numbers : PySem.W.codeIn K cd_numbers "_law_numbers" = true)
    (k_numbers : PySem.W.keepIn K (.ref a_numbers) = true)
    (n_state : PySem.W.nsIn K mainGlobals "_law_state" = some (some (.ref a_state)))
    (l_state : K.lookup a_state = some ⟨oc_state, od_state, .func (PySem.W.fnOf "_law_state" "_law_state" (defArgs s_state) (defBody s_state) (defScope s_state) .none kV_state dc_state pm_state an_state cd_state ct_state), sl_state⟩)
    (c_state : PySem.W.codeIn K cd_state "_law_state" = true)
    (k_state : PySem.W.keepIn K (.ref a_state) = true)
    (n_next : PySem.W.nsIn K mainGlobals "_law_next" = some (some (.ref a_next)))
    (l_next : K.lookup a_next = some ⟨oc_next, od_next, .func (PySem.W.fnOf "_law_next" "_law_next" (defArgs s_next) (defBody s_next) (defScope s_next) .none kV_next dc_next pm_next an_next cd_next ct_next), sl_next⟩)
    (c_next : PySem.W.codeIn K cd_next "_law_next" = true)
    (k_next : PySem.W.keepIn K (.ref a_next) = true)
    (n_letters : PySem.W.nsIn K mainGlobals "_law_letters" = some (some (.ref a_letters)))
    (l_letters : K.lookup a_letters = some ⟨oc_letters, od_letters, .func (PySem.W.fnOf "_law_letters" "_law_letters" (defArgs s_letters) (defBody s_letters) (defScope s_letters) .none kV_letters dc_letters pm_letters an_letters cd_letters ct_letters), sl_letters⟩)
    (c_letters : PySem.W.codeIn K cd_letters "_law_letters" = true)
    (k_letters : PySem.W.keepIn K (.ref a_letters) = true)
    (n_texts : PySem.W.nsIn K mainGlobals "_law_texts" = some (some (.ref a_texts)))
    (l_texts : K.lookup a_texts = some ⟨oc_texts, od_texts, .func (PySem.W.fnOf "_law_texts" "_law_texts" (defArgs s_texts) (defBody s_texts) (defScope s_texts) .none kV_texts dc_texts pm_texts an_texts cd_texts ct_texts), sl_texts⟩)
    (c_texts : PySem.W.codeIn K cd_texts "_law_texts" = true)
    (k_texts : PySem.W.keepIn K (.ref a_texts) = true)
    (n_parts : PySem.W.nsIn K mainGlobals "_law_parts" = some (some (.ref a_parts)))
    (l_parts : K.lookup a_parts = some ⟨oc_parts, od_parts, .func (PySem.W.fnOf "_law_parts" "_law_parts" (defArgs s_parts) (defBody s_parts) (defScope s_parts) .none kV_parts dc_parts pm_parts an_parts cd_parts ct_parts), sl_parts⟩)
    (c_parts : PySem.W.codeIn K cd_parts "_law_parts" = true)
    (k_parts : PySem.W.keepIn K (.ref a_parts) = true)
    (n_accepts : PySem.W.nsIn K mainGlobals "_law_accepts" = some (some (.ref a_accepts)))
    (l_accepts : K.lookup a_accepts = some ⟨oc_accepts, od_accepts, .func (PySem.W.fnOf "_law_accepts" "_law_accepts" (defArgs s_accepts) (defBody s_accepts) (defScope s_accepts) .none kV_accepts dc_accepts pm_accepts an_accepts cd_accepts ct_accepts), sl_accepts⟩)
    (c_accepts : PySem.W.codeIn K cd_accepts "_law_accepts" = true)
    (k_accepts : PySem.W.keepIn K (.ref a_accepts) = true)
    (n_ring : PySem.W.nsIn K mainGlobals "_law_ring" = some (some (.ref a_ring)))
    (l_ring : K.lookup a_ring = some ⟨oc_ring, od_ring, .func (PySem.W.fnOf "_law_ring" "_law_ring" (defArgs s_ring) (defBody s_ring) (defScope s_ring) .none kV_ring dc_ring pm_ring an_ring cd_ring ct_ring), sl_ring⟩)
    (c_ring : PySem.W.codeIn K cd_ring "_law_ring" = true)
    (k_ring : PySem.W.keepIn K (.ref a_ring) = true)
    (n_law : PySem.W.nsIn K mainGlobals "law" = some (some (.ref a_law)))
    (l_law : K.lookup a_law = some ⟨oc_law, od_law, .func (PySem.W.fnOf "law" "law" (defArgs s_law) (defBody s_law) (defScope s_law) .none kV_law dc_law pm_law an_law cd_law ct_law), sl_law⟩)
    (c_law : PySem.W.codeIn K cd_law "law" = true)
    (k_law : PySem.W.keepIn K (.ref a_law) = true)
    (n_AnytextError : PySem.W.nsIn K mainGlobals "AnytextError" = some (some (.ref C_AnytextError)))
    (n_MachineError : PySem.W.nsIn K mainGlobals "MachineError" = some (some (.ref C_MachineError)))
    (n_BadMachine : PySem.W.nsIn K mainGlobals "BadMachine" = some (some (.ref C_BadMachine)))
    (ini_BadMachine : PySem.W.findIn K (.ref C_BadMachine) "__init__" = some (some (.ref a_init)))
    (l_init : K.lookup a_init = some ⟨oc_init, od_init, .func (PySem.W.fnOf "__init__" "AnytextError.__init__" (defArgs s_init) (defBody s_init) (defScope s_init) (.ref T_init) kV_init dc_init pm_init an_init cd_init ct_init), sl_init⟩)
    (c_init : PySem.W.codeIn K cd_init "AnytextError.__init__" = true)
    (k_init : PySem.W.keepIn K (.ref a_init) = true)
    (ti_init : PySem.W.typeIn K (.ref a_init) = some (.type "function"))
    (lt_init : K.lookup T_init = some ⟨oc2_init, dd_init, .seq #[.none] nn_init, sm_init⟩)
    (l_BadMachine : K.lookup C_BadMachine = some (excClassObj nm_BadMachine q_BadMachine C_BadMachine N_BadMachine bs_BadMachine [.ref C_MachineError, .ref C_AnytextError, .type "ValueError", .type "Exception", .type "BaseException", .type "object"] true sn_BadMachine sb_BadMachine ab_BadMachine col_BadMachine dd_BadMachine m0_BadMachine m1_BadMachine m2_BadMachine m3_BadMachine m5_BadMachine "ValueError.__new__"))
    (sa_BadMachine : PySem.W.findIn K (.ref C_BadMachine) "__setattr__" = some (some (.builtin "object.__setattr__")))
    (ga_BadMachine : PySem.W.findIn K (.ref C_BadMachine) "__getattribute__" = some (some (.builtin "BaseException.__getattribute__")))
    (gg_BadMachine : PySem.W.findIn K (.ref C_BadMachine) "__getattr__" = some none)
    (nw_BadMachine : PySem.W.findIn K (.ref C_BadMachine) "what" = some none)
    (cc_BadMachine : PySem.W.findIn K (.ref C_BadMachine) "__class__" = some (some (.builtin "object.__class__")))
    (mo_BadMachine : PySem.W.mroIn K C_BadMachine (.type "object") = some true)
    (se_BadMachine : PySem.W.subIn K (.ref C_BadMachine) (.ref C_BadMachine) = some true)
    (kC_BadMachine : PySem.W.keepIn K (.ref C_BadMachine) = true)
    (i_BadMachine : PySem.W.isClsIn K C_BadMachine = true)
    (t_BadMachine : PySem.W.typeIn K (.ref C_BadMachine) = some (.type "type"))
    (e_BadMachine : PySem.W.subIn K (.ref C_BadMachine) (.type "BaseException") = some true)
    (h_BadMachine : PySem.W.hasDictIn K C_BadMachine = true)
    (sp_B : PySem.W.specialIn K (.builtin "object.__class__") "__get__" = some (some (.builtin "getset_descriptor.__get__")))
    (tk_B : PySem.W.takesIn K (.builtin "object.__class__") = some true)
    (n_Machine : PySem.W.nsIn K mainGlobals "Machine" = some (some (.ref C_Machine)))
    (pg_Machine : PySem.W.plainGet K C_Machine Str.empty = true)
    (hd_Machine : PySem.W.hasDictIn K C_Machine = true)
    (po_Machine : PySem.W.plainOver K C_Machine = true)
    (sa_Machine : PySem.W.findIn K (.ref C_Machine) "__setattr__" = some (some (.builtin "object.__setattr__")))
    (mk_Machine : PySem.W.makesIn K C_Machine = true)
    (kc_Machine : PySem.W.keepIn K (.ref C_Machine) = true)
    (na_Machine_letters : PySem.W.findIn K (.ref C_Machine) "letters" = some none)
    (na_Machine_accepting : PySem.W.findIn K (.ref C_Machine) "accepting" = some none)
    (na_Machine_table : PySem.W.findIn K (.ref C_Machine) "table" = some none)
    (i_Machine_init : PySem.W.findIn K (.ref C_Machine) "__init__" = some (some (.ref a_Machine_init)))
    (q_Machine_init : PySem.W.isFn K (.ref a_Machine_init) = true)
    (l_Machine_init : K.lookup a_Machine_init = some ⟨oc_Machine_init, od_Machine_init, .func (PySem.W.fnOf "__init__" "Machine.__init__" (defArgs s_Machine_init) (defBody s_Machine_init) (defScope s_Machine_init) .none kV_Machine_init dc_Machine_init pm_Machine_init an_Machine_init cd_Machine_init ct_Machine_init), sl_Machine_init⟩)
    (c_Machine_init : PySem.W.codeIn K cd_Machine_init "Machine.__init__" = true)
    (k_Machine_init : PySem.W.keepIn K (.ref a_Machine_init) = true)
    (i_Machine_check : PySem.W.findIn K (.ref C_Machine) "check" = some (some (.ref a_Machine_check)))
    (q_Machine_check : PySem.W.isFn K (.ref a_Machine_check) = true)
    (l_Machine_check : K.lookup a_Machine_check = some ⟨oc_Machine_check, od_Machine_check, .func (PySem.W.fnOf "check" "Machine.check" (defArgs s_Machine_check) (defBody s_Machine_check) (defScope s_Machine_check) .none kV_Machine_check dc_Machine_check pm_Machine_check an_Machine_check cd_Machine_check ct_Machine_check), sl_Machine_check⟩)
    (c_Machine_check : PySem.W.codeIn K cd_Machine_check "Machine.check" = true)
    (k_Machine_check : PySem.W.keepIn K (.ref a_Machine_check) = true)
    (i_Machine_run : PySem.W.findIn K (.ref C_Machine) "run" = some (some (.ref a_Machine_run)))
    (q_Machine_run : PySem.W.isFn K (.ref a_Machine_run) = true)
    (l_Machine_run : K.lookup a_Machine_run = some ⟨oc_Machine_run, od_Machine_run, .func (PySem.W.fnOf "run" "Machine.run" (defArgs s_Machine_run) (defBody s_Machine_run) (defScope s_Machine_run) .none kV_Machine_run dc_Machine_run pm_Machine_run an_Machine_run cd_Machine_run ct_Machine_run), sl_Machine_run⟩)
    (c_Machine_run : PySem.W.codeIn K cd_Machine_run "Machine.run" = true)
    (k_Machine_run : PySem.W.keepIn K (.ref a_Machine_run) = true)
    (i_Machine_run_from : PySem.W.findIn K (.ref C_Machine) "run_from" = some (some (.ref a_Machine_run_from)))
    (q_Machine_run_from : PySem.W.isFn K (.ref a_Machine_run_from) = true)
    (l_Machine_run_from : K.lookup a_Machine_run_from = some ⟨oc_Machine_run_from, od_Machine_run_from, .func (PySem.W.fnOf "run_from" "Machine.run_from" (defArgs s_Machine_run_from) (defBody s_Machine_run_from) (defScope s_Machine_run_from) .none kV_Machine_run_from dc_Machine_run_from pm_Machine_run_from an_Machine_run_from cd_Machine_run_from ct_Machine_run_from), sl_Machine_run_from⟩)
    (c_Machine_run_from : PySem.W.codeIn K cd_Machine_run_from "Machine.run_from" = true)
    (k_Machine_run_from : PySem.W.keepIn K (.ref a_Machine_run_from) = true)
    (i_Machine_accepts : PySem.W.findIn K (.ref C_Machine) "accepts" = some (some (.ref a_Machine_accepts)))
    (q_Machine_accepts : PySem.W.isFn K (.ref a_Machine_accepts) = true)
    (l_Machine_accepts : K.lookup a_Machine_accepts = some ⟨oc_Machine_accepts, od_Machine_accepts, .func (PySem.W.fnOf "accepts" "Machine.accepts" (defArgs s_Machine_accepts) (defBody s_Machine_accepts) (defScope s_Machine_accepts) .none kV_Machine_accepts dc_Machine_accepts pm_Machine_accepts an_Machine_accepts cd_Machine_accepts ct_Machine_accepts), sl_Machine_accepts⟩)
    (c_Machine_accepts : PySem.W.codeIn K cd_Machine_accepts "Machine.accepts" = true)
    (k_Machine_accepts : PySem.W.keepIn K (.ref a_Machine_accepts) = true)
    (i_Machine_picture : PySem.W.findIn K (.ref C_Machine) "picture" = some (some (.ref a_Machine_picture)))
    (q_Machine_picture : PySem.W.isFn K (.ref a_Machine_picture) = true)
    (l_Machine_picture : K.lookup a_Machine_picture = some ⟨oc_Machine_picture, od_Machine_picture, .func (PySem.W.fnOf "picture" "Machine.picture" (defArgs s_Machine_picture) (defBody s_Machine_picture) (defScope s_Machine_picture) .none kV_Machine_picture dc_Machine_picture pm_Machine_picture an_Machine_picture cd_Machine_picture ct_Machine_picture), sl_Machine_picture⟩)
    (c_Machine_picture : PySem.W.codeIn K cd_Machine_picture "Machine.picture" = true)
    (k_Machine_picture : PySem.W.keepIn K (.ref a_Machine_picture) = true)
    (z_abs : PySem.W.nsIn K mainGlobals "abs" = some none)
    (z_enumerate : PySem.W.nsIn K mainGlobals "enumerate" = some none)
    (z_int : PySem.W.nsIn K mainGlobals "int" = some none)
    (z_len : PySem.W.nsIn K mainGlobals "len" = some none)
    (z_list : PySem.W.nsIn K mainGlobals "list" = some none)
    (z_max : PySem.W.nsIn K mainGlobals "max" = some none)
    (z_min : PySem.W.nsIn K mainGlobals "min" = some none)
    (z_range : PySem.W.nsIn K mainGlobals "range" = some none)
    (z_repr : PySem.W.nsIn K mainGlobals "repr" = some none)
    (z_reversed : PySem.W.nsIn K mainGlobals "reversed" = some none)
    (z_tuple : PySem.W.nsIn K mainGlobals "tuple" = some none)
    (ec_first_text : cd_first_text = .ref cc_first_text)
    (hdt_first_text : PySem.W.codeHdIn K cc_first_text PP_first_text = true)
    (nt_first_text : K.lookup PP_first_text = none)
    (ht_first_text : h.get? PP_first_text = some (PySem.W.tabObj #[]))
    (ec_outside : cd_outside = .ref cc_outside)
    (hdt_outside : PySem.W.codeHdIn K cc_outside PP_outside = true)
    (nt_outside : K.lookup PP_outside = none)
    (ht_outside : h.get? PP_outside = some (PySem.W.tabObj #[]))
    (ec_parting : cd_parting = .ref cc_parting)
    (hdt_parting : PySem.W.codeHdIn K cc_parting PP_parting = true)
    (nt_parting : K.lookup PP_parting = none)
    (ht_parting : h.get? PP_parting = some (PySem.W.tabObj #[]))
    (ec__first_of_two : cd__first_of_two = .ref cc__first_of_two)
    (hdt__first_of_two : PySem.W.codeHdIn K cc__first_of_two PP__first_of_two = true)
    (nt__first_of_two : K.lookup PP__first_of_two = none)
    (ht__first_of_two : h.get? PP__first_of_two = some (PySem.W.tabObj #[]))
    : LamX.LawAtS l w K L2.CX0 lvLaw 63 "script" mg fa h := by
  have e := hfa.symm.trans (PySem.W.mg_of X G n_law)
  cases e
  have f__wall := fun_mk (st := s__wall) l__wall c__wall k__wall
  have b__wall := f__wall.binds (ps := ["k"]) fun _ _ _ _ _ _ us hl => match us, hl with | [_], _ => rfl
  have f_least_way := fun_mk (st := s_least_way) l_least_way c_least_way k_least_way
  have b_least_way := f_least_way.binds (ps := ["letters", "start", "step", "accepts"]) fun _ _ _ _ _ _ us hl => match us, hl with | [_, _, _, _], _ => rfl
  have f__text_to := fun_mk (st := s__text_to) l__text_to c__text_to k__text_to
  have b__text_to := f__text_to.binds (ps := ["origins", "number"]) fun _ _ _ _ _ _ us hl => match us, hl with | [_, _], _ => rfl
  have f_first_text := fun_mk (st := s_first_text) l_first_text c_first_text k_first_text
  have b_first_text := f_first_text.binds (ps := ["machine"]) fun _ _ _ _ _ _ us hl => match us, hl with | [_], _ => rfl
  have f_is_empty := fun_mk (st := s_is_empty) l_is_empty c_is_empty k_is_empty
  have b_is_empty := f_is_empty.binds (ps := ["machine"]) fun _ _ _ _ _ _ us hl => match us, hl with | [_], _ => rfl
  have f_outside := fun_mk (st := s_outside) l_outside c_outside k_outside
  have b_outside := f_outside.binds (ps := ["first", "second"]) fun _ _ _ _ _ _ us hl => match us, hl with | [_, _], _ => rfl
  have f_parting := fun_mk (st := s_parting) l_parting c_parting k_parting
  have b_parting := f_parting.binds (ps := ["first", "second"]) fun _ _ _ _ _ _ us hl => match us, hl with | [_, _], _ => rfl
  have f__first_of_two := fun_mk (st := s__first_of_two) l__first_of_two c__first_of_two k__first_of_two
  have b__first_of_two := f__first_of_two.binds (ps := ["first", "second", "chosen"]) fun _ _ _ _ _ _ us hl => match us, hl with | [_, _, _], _ => rfl
  have f_cell := fun_mk (st := s_cell) l_cell c_cell k_cell
  have b_cell := f_cell.binds (ps := ["script", "k"]) fun _ _ _ _ _ _ us hl => match us, hl with | [_, _], _ => rfl
  have f_numbers := fun_mk (st := s_numbers) l_numbers c_numbers k_numbers
  have b_numbers := f_numbers.binds (ps := ["cell", "many"]) fun _ _ _ _ _ _ us hl => match us, hl with | [_, _], _ => rfl
  have f_state := fun_mk (st := s_state) l_state c_state k_state
  have b_state := f_state.binds (ps := ["script", "start", "many"]) fun _ _ _ _ _ _ us hl => match us, hl with | [_, _, _], _ => rfl
  have f_next := fun_mk (st := s_next) l_next c_next k_next
  have b_next := f_next.binds (ps := ["state", "many"]) fun _ _ _ _ _ _ us hl => match us, hl with | [_, _], _ => rfl
  have f_letters := fun_mk (st := s_letters) l_letters c_letters k_letters
  have b_letters := f_letters.binds (ps := ["state", "most"]) fun _ _ _ _ _ _ us hl => match us, hl with | [_, _], _ => rfl
  have f_texts := fun_mk (st := s_texts) l_texts c_texts k_texts
  have b_texts := f_texts.binds (ps := ["letters", "most"]) fun _ _ _ _ _ _ us hl => match us, hl with | [_, _], _ => rfl
  have f_parts := fun_mk (st := s_parts) l_parts c_parts k_parts
  have b_parts := f_parts.binds (ps := ["letters", "state", "most"]) fun _ _ _ _ _ _ us hl => match us, hl with | [_, _, _], _ => rfl
  have f_accepts := fun_mk (st := s_accepts) l_accepts c_accepts k_accepts
  have b_accepts := f_accepts.binds (ps := ["letters", "accepting", "table", "text"]) fun _ _ _ _ _ _ us hl => match us, hl with | [_, _, _, _], _ => rfl
  have f_ring := fun_mk (st := s_ring) l_ring c_ring k_ring
  have b_ring := f_ring.binds (ps := ["letters", "many", "wanted"]) fun _ _ _ _ _ _ us hl => match us, hl with | [_, _, _], _ => rfl
  have f_law := fun_mk (st := s_law) l_law c_law k_law
  have b_law := f_law.binds (ps := ["script"]) fun _ _ _ _ _ _ us hl => match us, hl with | [_], _ => rfl
  have f_Machine_init := fun_mk (st := s_Machine_init) l_Machine_init c_Machine_init k_Machine_init
  have b_Machine_init := f_Machine_init.binds (ps := ["self", "letters", "accepting", "table"]) fun _ _ _ _ _ _ us hl => match us, hl with | [_, _, _, _], _ => rfl
  have f_Machine_check := fun_mk (st := s_Machine_check) l_Machine_check c_Machine_check k_Machine_check
  have b_Machine_check := f_Machine_check.binds (ps := ["self"]) fun _ _ _ _ _ _ us hl => match us, hl with | [_], _ => rfl
  have f_Machine_run := fun_mk (st := s_Machine_run) l_Machine_run c_Machine_run k_Machine_run
  have b_Machine_run := f_Machine_run.binds (ps := ["self", "text"]) fun _ _ _ _ _ _ us hl => match us, hl with | [_, _], _ => rfl
  have f_Machine_run_from := fun_mk (st := s_Machine_run_from) l_Machine_run_from c_Machine_run_from k_Machine_run_from
  have b_Machine_run_from := f_Machine_run_from.binds (ps := ["self", "state", "text"]) fun _ _ _ _ _ _ us hl => match us, hl with | [_, _, _], _ => rfl
  have f_Machine_accepts := fun_mk (st := s_Machine_accepts) l_Machine_accepts c_Machine_accepts k_Machine_accepts
  have b_Machine_accepts := f_Machine_accepts.binds (ps := ["self", "text"]) fun _ _ _ _ _ _ us hl => match us, hl with | [_, _], _ => rfl
  have f_Machine_picture := fun_mk (st := s_Machine_picture) l_Machine_picture c_Machine_picture k_Machine_picture
  have b_Machine_picture := f_Machine_picture.binds (ps := ["self"]) fun _ _ _ _ _ _ us hl => match us, hl with | [_], _ => rfl
  have fI : FunD K "__init__" "AnytextError.__init__" (defArgs s_init) (defBody s_init) (defScope s_init) [.non] [] a_init _ := ⟨⟨oc_init, od_init, .ref T_init, kV_init, dc_init, pm_init, an_init, cd_init, ct_init, sl_init, rfl, l_init, c_init, .inr ⟨(fun z => nomatch z), T_init, _, [.none], nn_init, rfl, lt_init, rfl, .cons rfl .nil⟩, .inl rfl⟩, k_init⟩
  have bI0 := fI.binds1 (ps := ["self", "what"]) 2 1 (fun z => nomatch z) rfl fun T kV doc pm an cdv ct us its hu hi => match us, hu, its, hi with | [_, _], _, [_], _ => ⟨_, rfl, rfl⟩
  have bI : Binds K (PySem.W.fnOf "__init__" "AnytextError.__init__" (defArgs s_init) (defBody s_init) (defScope s_init) (.ref T_init) kV_init dc_init pm_init an_init cd_init ct_init) ["self", "what"] [] := by
    obtain ⟨ds, hv, hb⟩ := bI0
    cases hv
    exact hb
  let T : Txt K mg := {
    C_Machine := C_Machine, g_Machine := PySem.W.mg_of X G n_Machine, cl_Machine := ⟨pg_Machine, hd_Machine, po_Machine, sa_Machine⟩,
    na_Machine_letters := na_Machine_letters,
    na_Machine_accepting := na_Machine_accepting,
    na_Machine_table := na_Machine_table,
    a_Machine_init := a_Machine_init, d_Machine_init := _, f_Machine_init := f_Machine_init, b_Machine_init := b_Machine_init,
    mk_Machine := ⟨mk_Machine, i_Machine_init, q_Machine_init, kc_Machine⟩,
    a_Machine_check := a_Machine_check, d_Machine_check := _, f_Machine_check := f_Machine_check, b_Machine_check := b_Machine_check,
    m_Machine_check := ⟨i_Machine_check, q_Machine_check, k_Machine_check⟩,
    a_Machine_run := a_Machine_run, d_Machine_run := _, f_Machine_run := f_Machine_run, b_Machine_run := b_Machine_run,
    m_Machine_run := ⟨i_Machine_run, q_Machine_run, k_Machine_run⟩,
    a_Machine_run_from := a_Machine_run_from, d_Machine_run_from := _, f_Machine_run_from := f_Machine_run_from, b_Machine_run_from := b_Machine_run_from,
    m_Machine_run_from := ⟨i_Machine_run_from, q_Machine_run_from, k_Machine_run_from⟩,
    a_Machine_accepts := a_Machine_accepts, d_Machine_accepts := _, f_Machine_accepts := f_Machine_accepts, b_Machine_accepts := b_Machine_accepts,
    m_Machine_accepts := ⟨i_Machine_accepts, q_Machine_accepts, k_Machine_accepts⟩,
    a_Machine_picture := a_Machine_picture, d_Machine_picture := _, f_Machine_picture := f_Machine_picture, b_Machine_picture := b_Machine_picture,
    m_Machine_picture := ⟨i_Machine_picture, q_Machine_picture, k_Machine_picture⟩,
    a__wall := a__wall, d__wall := _, f__wall := f__wall, o__wall := ⟨PySem.W.mg_of X G n__wall, k__wall, b__wall⟩,
    a_least_way := a_least_way, d_least_way := _, f_least_way := f_least_way, o_least_way := ⟨PySem.W.mg_of X G n_least_way, k_least_way, b_least_way⟩,
    a__text_to := a__text_to, d__text_to := _, f__text_to := f__text_to, o__text_to := ⟨PySem.W.mg_of X G n__text_to, k__text_to, b__text_to⟩,
    a_first_text := a_first_text, d_first_text := _, f_first_text := f_first_text, o_first_text := ⟨PySem.W.mg_of X G n_first_text, k_first_text, b_first_text⟩,
    a_is_empty := a_is_empty, d_is_empty := _, f_is_empty := f_is_empty, o_is_empty := ⟨PySem.W.mg_of X G n_is_empty, k_is_empty, b_is_empty⟩,
    a_outside := a_outside, d_outside := _, f_outside := f_outside, o_outside := ⟨PySem.W.mg_of X G n_outside, k_outside, b_outside⟩,
    a_parting := a_parting, d_parting := _, f_parting := f_parting, o_parting := ⟨PySem.W.mg_of X G n_parting, k_parting, b_parting⟩,
    a__first_of_two := a__first_of_two, d__first_of_two := _, f__first_of_two := f__first_of_two, o__first_of_two := ⟨PySem.W.mg_of X G n__first_of_two, k__first_of_two, b__first_of_two⟩,
    a_cell := a_cell, d_cell := _, f_cell := f_cell, o_cell := ⟨PySem.W.mg_of X G n_cell, k_cell, b_cell⟩,
    a_numbers := a_numbers, d_numbers := _, f_numbers := f_numbers, o_numbers := ⟨PySem.W.mg_of X G n_numbers, k_numbers, b_numbers⟩,
    a_state := a_state, d_state := _, f_state := f_state, o_state := ⟨PySem.W.mg_of X G n_state, k_state, b_state⟩,
    a_next := a_next, d_next := _, f_next := f_next, o_next := ⟨PySem.W.mg_of X G n_next, k_next, b_next⟩,
    a_letters := a_letters, d_letters := _, f_letters := f_letters, o_letters := ⟨PySem.W.mg_of X G n_letters, k_letters, b_letters⟩,
    a_texts := a_texts, d_texts := _, f_texts := f_texts, o_texts := ⟨PySem.W.mg_of X G n_texts, k_texts, b_texts⟩,
    a_parts := a_parts, d_parts := _, f_parts := f_parts, o_parts := ⟨PySem.W.mg_of X G n_parts, k_parts, b_parts⟩,
    a_accepts := a_accepts, d_accepts := _, f_accepts := f_accepts, o_accepts := ⟨PySem.W.mg_of X G n_accepts, k_accepts, b_accepts⟩,
    a_ring := a_ring, d_ring := _, f_ring := f_ring, o_ring := ⟨PySem.W.mg_of X G n_ring, k_ring, b_ring⟩,
    a_law := _, d_law := _, f_law := f_law, o_law := ⟨PySem.W.mg_of X G n_law, k_law, b_law⟩,
    a_init := a_init, d_init := _, T_init := T_init, f_init := fI, tI := ti_init, bI := bI,
    C_AnytextError := C_AnytextError,
    C_MachineError := C_MachineError,
    C_BadMachine := C_BadMachine,
    g_BadMachine := PySem.W.mg_of X G n_BadMachine,
    x_BadMachine := ⟨⟨⟨nm_BadMachine, q_BadMachine, N_BadMachine, bs_BadMachine, _, sn_BadMachine, sb_BadMachine, ab_BadMachine, col_BadMachine, dd_BadMachine, m0_BadMachine, m1_BadMachine, m2_BadMachine, m3_BadMachine, m5_BadMachine, l_BadMachine, by rfl⟩, sa_BadMachine, e_BadMachine, t_BadMachine, kC_BadMachine⟩, ⟨ga_BadMachine, gg_BadMachine, e_BadMachine, h_BadMachine⟩, nw_BadMachine, ini_BadMachine, i_BadMachine, cc_BadMachine, mo_BadMachine, se_BadMachine⟩,
    clsB := ⟨sp_B, tk_B⟩,
    c_first_text := cc_first_text, P_first_text := PP_first_text, t_first_text := funT_mk l_first_text ec_first_text c_first_text,
    c_outside := cc_outside, P_outside := PP_outside, t_outside := funT_mk l_outside ec_outside c_outside,
    c_parting := cc_parting, P_parting := PP_parting, t_parting := funT_mk l_parting ec_parting c_parting,
    c__first_of_two := cc__first_of_two, P__first_of_two := PP__first_of_two, t__first_of_two := funT_mk l__first_of_two ec__first_of_two c__first_of_two,
    nb_abs := PySem.W.mg_none_of X G z_abs,
    nb_enumerate := PySem.W.mg_none_of X G z_enumerate,
    nb_int := PySem.W.mg_none_of X G z_int,
    nb_len := PySem.W.mg_none_of X G z_len,
    nb_list := PySem.W.mg_none_of X G z_list,
    nb_max := PySem.W.mg_none_of X G z_max,
    nb_min := PySem.W.mg_none_of X G z_min,
    nb_range := PySem.W.mg_none_of X G z_range,
    nb_repr := PySem.W.mg_none_of X G z_repr,
    nb_reversed := PySem.W.mg_none_of X G z_reversed,
    nb_tuple := PySem.W.mg_none_of X G z_tuple }
  refine ⟨T.d_law, [(cc_first_text, PP_first_text), (cc_outside, PP_outside), (cc_parting, PP_parting), (cc__first_of_two, PP__first_of_two)], spLaw T, ?_, ?_, ?_, fun s v => .of_eq rfl, fun H a ns hn _ ht hs => ⟨a, ns, rfl, hs, hn, ?_, fun _ => rfl⟩, fun base hk hg ht => ok_law T ⟨ht (cc_first_text, PP_first_text) (by simp), by simp [Ps, T], ht (cc_outside, PP_outside) (by simp), by simp [Ps, T], ht (cc_parting, PP_parting) (by simp), by simp [Ps, T], ht (cc__first_of_two, PP__first_of_two) (by simp), by simp [Ps, T]⟩⟩
  · intro p hp
    simp only [List.mem_cons, List.not_mem_nil, or_false] at hp
    rcases hp with rfl | rfl | rfl | rfl
    · exact ht_first_text
    · exact ht_outside
    · exact ht_parting
    · exact ht__first_of_two
  · intro p hp
    simp only [List.mem_cons, List.not_mem_nil, or_false] at hp
    rcases hp with rfl | rfl | rfl | rfl
    · exact nt_first_text
    · exact nt_outside
    · exact nt_parting
    · exact nt__first_of_two
  · intro p hp
    simp only [List.mem_cons, List.not_mem_nil, or_false] at hp
    rcases hp with rfl | rfl | rfl | rfl
    · exact PySem.W.codeHd_of_K X hdt_first_text
    · exact PySem.W.codeHd_of_K X hdt_outside
    · exact PySem.W.codeHd_of_K X hdt_parting
    · exact PySem.W.codeHd_of_K X hdt__first_of_two
  · intro R hR
    have hR : R ∈ [PP_first_text, PP_outside, PP_parting, PP__first_of_two] := hR
    simp only [List.mem_cons, List.not_mem_nil, or_false] at hR
    rcases hR with e | e | e | e
    · rw [e]; exact NdefX.TabN.nil (ht (cc_first_text, PP_first_text) (by simp))
    · rw [e]; exact NdefX.TabN.nil (ht (cc_outside, PP_outside) (by simp))
    · rw [e]; exact NdefX.TabN.nil (ht (cc_parting, PP_parting) (by simp))
    · rw [e]; exact NdefX.TabN.nil (ht (cc__first_of_two, PP__first_of_two) (by simp))
end AT
open PySem PySem.W PyProof.Rows
set_option maxRecDepth 100000 in
set_option maxHeartbeats 0 in
theorem PySem.Challenge.cw_anytext_k13_least_texts_holds : PySem.Challenge.rw_anytext_k13_least_texts.Holds := by
  w_on; o_law; k_head; (case hw => w_witness2)
  k_fill
  refine LamX.walk_ofTs (l := PySem.Challenge.rw_anytext_k13_least_texts) (n := 63) (k := AT.lvLaw) (x := "script") (CX := fun _ => L2.CX0) rfl (by decide) rfl ⟨rfl, by decide, by decide⟩ (fun w h Y => PySem.W.km_in_of Y) ?F fun _ _ _ _ _ z => z
  case F =>
    intro w mg fa h Y KX G hmg
    have hT8 := PySem.W.km_tabs_of Y
    refine' AT.all_mk KX G hmg ?n__wall ?l__wall ?c__wall ?k__wall ?n_least_way ?l_least_way ?c_least_way ?k_least_way ?n__text_to ?l__text_to ?c__text_to ?k__text_to ?n_first_text ?l_first_text ?c_first_text ?k_first_text ?n_is_empty ?l_is_empty ?c_is_empty ?k_is_empty ?n_outside ?l_outside ?c_outside ?k_outside ?n_parting ?l_parting ?c_parting ?k_parting ?n__first_of_two ?l__first_of_two ?c__first_of_two ?k__first_of_two ?n_cell ?l_cell ?c_cell ?k_cell ?n_numbers ?l_numbers ?c_numbers ?k_numbers ?n_state ?l_state ?c_state ?k_state ?n_next ?l_next ?c_next ?k_next ?n_letters ?l_letters ?c_letters ?k_letters ?n_texts ?l_texts ?c_texts ?k_texts ?n_parts ?l_parts ?c_parts ?k_parts ?n_accepts ?l_accepts ?c_accepts ?k_accepts ?n_ring ?l_ring ?c_ring ?k_ring ?n_law ?l_law ?c_law ?k_law ?n_AnytextError ?n_MachineError ?n_BadMachine ?ini_BadMachine ?l_init ?c_init ?k_init ?ti_init ?lt_init ?l_BadMachine ?sa_BadMachine ?ga_BadMachine ?gg_BadMachine ?nw_BadMachine ?cc_BadMachine ?mo_BadMachine ?se_BadMachine ?kC_BadMachine ?i_BadMachine ?t_BadMachine ?e_BadMachine ?h_BadMachine ?sp_B ?tk_B ?n_Machine ?pg_Machine ?hd_Machine ?po_Machine ?sa_Machine ?mk_Machine ?kc_Machine ?na_Machine_letters ?na_Machine_accepting ?na_Machine_table ?i_Machine_init ?q_Machine_init ?l_Machine_init ?c_Machine_init ?k_Machine_init ?i_Machine_check ?q_Machine_check ?l_Machine_check ?c_Machine_check ?k_Machine_check ?i_Machine_run ?q_Machine_run ?l_Machine_run ?c_Machine_run ?k_Machine_run ?i_Machine_run_from ?q_Machine_run_from ?l_Machine_run_from ?c_Machine_run_from ?k_Machine_run_from ?i_Machine_accepts ?q_Machine_accepts ?l_Machine_accepts ?c_Machine_accepts ?k_Machine_accepts ?i_Machine_picture ?q_Machine_picture ?l_Machine_picture ?c_Machine_picture ?k_Machine_picture ?z_abs ?z_enumerate ?z_int ?z_len ?z_list ?z_max ?z_min ?z_range ?z_repr ?z_reversed ?z_tuple ?ec_first_text ?hdt_first_text ?nt_first_text ?ht_first_text ?ec_outside ?hdt_outside ?nt_outside ?ht_outside ?ec_parting ?hdt_parting ?nt_parting ?ht_parting ?ec__first_of_two ?hdt__first_of_two ?nt__first_of_two ?ht__first_of_two
    (case n__wall => k_is); (case l__wall => k_is); (case c__wall => k_is); (case k__wall => k_is); (case n_least_way => k_is); (case l_least_way => k_is)
    (case c_least_way => k_is); (case k_least_way => k_is); (case n__text_to => k_is); (case l__text_to => k_is); (case c__text_to => k_is); (case k__text_to => k_is)
    (case n_first_text => k_is); (case l_first_text => k_is); (case c_first_text => k_is); (case k_first_text => k_is); (case n_is_empty => k_is); (case l_is_empty => k_is)
    (case c_is_empty => k_is); (case k_is_empty => k_is); (case n_outside => k_is); (case l_outside => k_is); (case c_outside => k_is); (case k_outside => k_is)
    (case n_parting => k_is); (case l_parting => k_is); (case c_parting => k_is); (case k_parting => k_is); (case n__first_of_two => k_is); (case l__first_of_two => k_is)
    (case c__first_of_two => k_is); (case k__first_of_two => k_is); (case n_cell => k_is); (case l_cell => k_is); (case c_cell => k_is); (case k_cell => k_is)
    (case n_numbers => k_is); (case l_numbers => k_is); (case c_numbers => k_is); (case k_numbers => k_is); (case n_state => k_is); (case l_state => k_is)
    (case c_state => k_is); (case k_state => k_is); (case n_next => k_is); (case l_next => k_is); (case c_next => k_is); (case k_next => k_is)
    (case n_letters => k_is); (case l_letters => k_is); (case c_letters => k_is); (case k_letters => k_is); (case n_texts => k_is); (case l_texts => k_is)
    (case c_texts => k_is); (case k_texts => k_is); (case n_parts => k_is); (case l_parts => k_is); (case c_parts => k_is); (case k_parts => k_is)
    (case n_accepts => k_is); (case l_accepts => k_is); (case c_accepts => k_is); (case k_accepts => k_is); (case n_ring => k_is); (case l_ring => k_is)
    (case c_ring => k_is); (case k_ring => k_is); (case n_law => k_is); (case l_law => k_is); (case c_law => k_is); (case k_law => k_is)
    (case n_AnytextError => k_is); (case n_MachineError => k_is); (case n_BadMachine => k_is); (case ini_BadMachine => k_is); (case l_init => k_is); (case c_init => k_is)
    (case k_init => k_is); (case ti_init => k_is); (case lt_init => k_is); (case l_BadMachine => k_is); (case sa_BadMachine => k_is); (case ga_BadMachine => k_is)
    (case gg_BadMachine => k_is); (case nw_BadMachine => k_is); (case cc_BadMachine => k_is); (case mo_BadMachine => k_is); (case se_BadMachine => k_is); (case kC_BadMachine => k_is)
    (case i_BadMachine => k_is); (case t_BadMachine => k_is); (case e_BadMachine => k_is); (case h_BadMachine => k_is); (case sp_B => k_is); (case tk_B => k_is)
    (case n_Machine => k_is); (case pg_Machine => k_is); (case hd_Machine => k_is); (case po_Machine => k_is); (case sa_Machine => k_is); (case mk_Machine => k_is)
    (case kc_Machine => k_is); (case na_Machine_letters => k_is); (case na_Machine_accepting => k_is); (case na_Machine_table => k_is); (case i_Machine_init => k_is); (case q_Machine_init => k_is)
    (case l_Machine_init => k_is); (case c_Machine_init => k_is); (case k_Machine_init => k_is); (case i_Machine_check => k_is); (case q_Machine_check => k_is); (case l_Machine_check => k_is)
    (case c_Machine_check => k_is); (case k_Machine_check => k_is); (case i_Machine_run => k_is); (case q_Machine_run => k_is); (case l_Machine_run => k_is); (case c_Machine_run => k_is)
    (case k_Machine_run => k_is); (case i_Machine_run_from => k_is); (case q_Machine_run_from => k_is); (case l_Machine_run_from => k_is); (case c_Machine_run_from => k_is); (case k_Machine_run_from => k_is)
    (case i_Machine_accepts => k_is); (case q_Machine_accepts => k_is); (case l_Machine_accepts => k_is); (case c_Machine_accepts => k_is); (case k_Machine_accepts => k_is); (case i_Machine_picture => k_is)
    (case q_Machine_picture => k_is); (case l_Machine_picture => k_is); (case c_Machine_picture => k_is); (case k_Machine_picture => k_is); (case z_abs => k_is); (case z_enumerate => k_is)
    (case z_int => k_is); (case z_len => k_is); (case z_list => k_is); (case z_max => k_is); (case z_min => k_is); (case z_range => k_is)
    (case z_repr => k_is); (case z_reversed => k_is); (case z_tuple => k_is); (case ec_first_text => rfl); (case hdt_first_text => exact AT.tab_is (by kernel_rfl)); (case nt_first_text => kernel_rfl)
    (case ht_first_text => exact hT8 _ (AT.mem_dec (by kernel_rfl))); (case ec_outside => rfl); (case hdt_outside => exact AT.tab_is (by kernel_rfl)); (case nt_outside => kernel_rfl); (case ht_outside => exact hT8 _ (AT.mem_dec (by kernel_rfl))); (case ec_parting => rfl)
    (case hdt_parting => exact AT.tab_is (by kernel_rfl)); (case nt_parting => kernel_rfl); (case ht_parting => exact hT8 _ (AT.mem_dec (by kernel_rfl))); (case ec__first_of_two => rfl); (case hdt__first_of_two => exact AT.tab_is (by kernel_rfl)); (case nt__first_of_two => kernel_rfl)
    (case ht__first_of_two => exact hT8 _ (AT.mem_dec (by kernel_rfl)))

