import PyProof.Rows.All
import Wide.All
import OpenK.AllK
import Wide.FinOn
import HandS.ForMost
import HandS.ForExc
import HandS.Walk
import HandS.Evl
import HandS.ExcInit
import HandS.ExcField
import HandS.ExcIs
import HandS.IsInst
import HandS.RaiseMore
import HandS.TupAny
import HandS.TryOnly
import HandS.Defaults
import HandS.Steps
import KE.KExcIs
import HandS.TupMul
import PyProof.ReprRoads
import HandS.Replace
import KE.DataMinMax
import KE.DataCmp
import PyProof.StrBlock2
import HandS.Ends
import HandS.Style
import KE.KDictDisplayH
import PyProof.Draws
import PyProof.EnumMake
import PyProof.WalksMore
import HandS.Zip0
import HandS.DictComp
import HandS.TupLe
import HandS.Nested
import HandS.NestedK
import HandS.EndTab
import HandS.HeadWalk
import KE.KNestM
import HandS.Rev
import HandS.MapObj
import PyProof.StrWalks
import PyProof.JoinWalk
import HandS.Strs
import HandS.Conv
import PyProof.ListIndex
import HandS.SetKeys
import HandS.SetBool
import HandS.SortInts
import KE.KDictKeyed
import HandS.SetFor
import HandS.Flow
import HandS.WordsDict
import KE.KRevSl
import PySem.Challenge.RW_anytext_k15_counting
set_option Elab.async false
set_option linter.all false
set_option maxRecDepth 100000
set_option maxHeartbeats 4000000
/-! own words: readings step by step, operators by several kinds of values -/
namespace AT
open PySem PySem.Spec PyProof.Rows L2
abbrev Ex := Evl.Ex
section
variable {X : Cx} {f : Value → Value → Sem Value} {r r' : R2}
theorem OpR.or (h : OpR X f r) (h' : OpR X f r') : OpR X f (fun x y H Q => r x y H Q ∨ r' x y H Q) := by
  intro pins s σ H x y v u Q I rx ry q
  rcases q with q | q
  · exact h pins s σ H x y v u Q I rx ry q
  · exact h' pins s σ H x y v u Q I rx ry q
theorem CallR.or {f : Value} {r r' : List V → Hp → VK → Prop} (h : CallR X f r) (h' : CallR X f r') : CallR X f (fun x H Q => r x H Q ∨ r' x H Q) := by
  intro pins s σ H x us Q I rx q
  rcases q with q | q
  · exact h pins s σ H x us Q I rx q
  · exact h' pins s σ H x us Q I rx q
end
/-! ### operators -/
/-- + of ints, of texts, of lists -/
def oAdd (K : PySem.W.Frag) : R2 := fun x y H Q => (rI0 (fun i j => .int (i + j)) x y H Q) ∨ (∃ i j : Str, x = .str i ∧ y = .str j ∧ i.length + j.length ≤ sizeLine ∧ Q (.str (i ++ j)) H) ∨ rCat x y H Q ∨ rCatT K x y H Q
theorem op_addP {X : Cx} : OpR X (binaryOp .Add) (oAdd X.K) := OpR.or op_add (OpR.or op_add_str (OpR.or op_cat op_catT))
def oSub : R2 := rI0 fun i j => .int (i - j)
theorem op_subP {X : Cx} : OpR X (binaryOp .Sub) oSub := op_sub
def oMul : R2 := rI CMul fun i j => .int (i * j)
theorem op_mulP {X : Cx} : OpR X (binaryOp .Mult) oMul := op_mul
def oMod : R2 := rI (fun _ j => j ≠ 0) fun i j => .int (i.fmod j)
theorem op_modP {X : Cx} : OpR X (binaryOp .Mod) oMod := op_modN
def oDiv : R2 := rI CDivN fun i j => .int (i.fdiv j)
theorem op_divP {X : Cx} : OpR X (binaryOp .FloorDiv) oDiv := op_fdivN
def oPow : R2 := rI CPow fun i j => .int (i ^ j.toNat)
theorem op_powP {X : Cx} : OpR X (binaryOp .Pow) oPow := op_pow
def oLt : R2 := rI0 fun i j => .bl (decide (i < j))
def oLe : R2 := rI0 fun i j => .bl (decide (i ≤ j))
def oGt : R2 := rI0 fun i j => .bl (decide (j < i))
def oGe : R2 := rI0 fun i j => .bl (decide (j ≤ i))
theorem op_ltP {X : Cx} : OpR X (compareOp .Lt) oLt := op_lt
theorem op_leP {X : Cx} : OpR X (compareOp .LtE) oLe := op_le
theorem op_gtP {X : Cx} : OpR X (compareOp .Gt) oGt := op_gt
theorem op_geP {X : Cx} : OpR X (compareOp .GtE) oGe := op_ge
/-- == of ints, bools, texts; of data -/
def oEq (K : PySem.W.Frag) : R2 := fun x y H Q => rEq x y H Q ∨ rEqD K x y H Q
def oNe (K : PySem.W.Frag) : R2 := fun x y H Q => rNe x y H Q ∨ rNeD K x y H Q
theorem op_eqP {X : Cx} (hu : X.A.units + 64 < cLine) : OpR X (compareOp .Eq) (oEq X.K) := OpR.or op_eq (op_eqD hu)
theorem op_neP {X : Cx} (hu : X.A.units + 64 < cLine) : OpR X (compareOp .NotEq) (oNe X.K) := OpR.or op_ne (op_neD hu)

/-! ### reading, step by step -/
section rd
variable {K : PySem.W.Frag} {σ : L2.St} {H : Hp} {Q : VK} {QB : Bool → Hp → Prop} {QL : List V → Hp → Prop} {D : Ends} {ta tb tc te to : TE} {tt uu : TT} {tl : TA} {t u : TS} {g : TG} {i : Nat} {v w x y : V} {r r' : R2} {QS : L2.St → Hp → Prop}
theorem rd_seq (h : t { D with nx := u D } σ H) : tSeq t u D σ H := h
theorem rd_asg (h : te σ H fun x H1 => g x σ H1 D.nx) : tAsg te g D σ H := h
theorem rd_name (h : QS (σ.set i (some v)) H) : gName i v σ H QS := h
theorem rd_var (e : σ[i]? = some (some v)) (h : Q v H) : tVar i σ H Q := ⟨v, e, h⟩
theorem rd_c (h : Q v H) : tC v σ H Q := h
theorem rd_op (h : ta σ H fun x H1 => tb σ H1 fun y H2 => r x y H2 Q) : tOp r ta tb σ H Q := h
theorem rd_ret (h : te σ H D.rt) : tRet te D σ H := h
theorem rd_retN (h : D.rt .non H) : tRetN D σ H := h
theorem rd_if (h : tt σ H fun b H1 => if b = true then t D σ H1 else u D σ H1) : tIfS tt t u D σ H := h
theorem rd_ife (h : tt σ H fun b H1 => if b = true then ta σ H1 Q else tb σ H1 Q) : tIf tt ta tb σ H Q := h
theorem rd_next (h : D.nx σ H) : tNext D σ H := h
theorem rd_drop (h : te σ H fun _ H1 => D.nx σ H1) : tDrop te D σ H := h
theorem rd_test (h : te σ H fun x H' => ∃ k, x = .bl k ∧ QB k H') : tTest te σ H QB := h
theorem rd_tB (h : te σ H fun x H' => ∃ k, x = .bl k ∧ QB k H') : tB te σ H QB := h
theorem rd_bl {b : Bool} {P : Bool → Prop} (h : P b) : ∃ k, V.bl b = .bl k ∧ P k := ⟨b, rfl, h⟩
theorem rd_not (h : tt σ H fun c H1 => QB (!c) H1) : tNot tt σ H QB := h
theorem rd_and (h : tt σ H fun c H1 => if c = true then uu σ H1 QB else QB false H1) : tAnd tt uu σ H QB := h
theorem rd_or (h : tt σ H fun c H1 => if c = true then QB true H1 else uu σ H1 QB) : tOr tt uu σ H QB := h
theorem rd_nil (h : QL [] H) : tNil σ H QL := h
theorem rd_cons (h : ta σ H fun x H1 => tl σ H1 fun xs H2 => QL (x :: xs) H2) : tCons ta tl σ H QL := h
theorem rd_lst (h : tl σ H fun xs H1 => xs.length ≤ sizeLine ∧ ∀ p, H1 p = none → Q (.ref p) (upd H1 p (.lst xs))) : tLst tl σ H Q := h
theorem rd_tup (h : tl σ H fun xs H1 => xs.length ≤ sizeLine ∧ ∀ p, H1 p = none → Q (.ref p) (upd H1 p (.tup xs))) : tTup tl σ H Q := h
theorem rd_cb {rc : List V → Hp → VK → Prop} (h : tl σ H fun vs H1 => rc vs H1 Q) : tCB rc tl σ H Q := h
theorem rd_chain (h : ta σ H fun x H1 => tb σ H1 fun y H2 => r x y H2 fun z H3 => ∃ k, z = .bl k ∧ if k = true then tc σ H3 fun w H4 => r' y w H4 Q else Q (.bl false) H3) : tChain r r' ta tb tc σ H Q := h
theorem rd_call {sp : Sp} {dvs : List V} {E : XK} (h : tl σ H fun vs H1 => sp (vs ++ dvs) H1 Q E) : tCall sp dvs E tl σ H Q := h
theorem rd_iteT {A B : Prop} (h : A) : if true = true then A else B := iteT h
theorem rd_iteF {A B : Prop} (h : B) : if false = true then A else B := iteF h
theorem rd_itet {A B : Prop} {c : Bool} (e : c = true) (h : A) : if c = true then A else B := by rw [e]; exact iteT h
theorem rd_itef {A B : Prop} {c : Bool} (e : c = false) (h : B) : if c = true then A else B := by rw [e]; exact iteF h
theorem rd_ite {A B : Prop} {c : Bool} (h1 : c = true → A) (h2 : c = false → B) : if c = true then A else B := by
  cases c with
  | true => exact iteT (h1 rfl)
  | false => exact iteF (h2 rfl)
theorem rd_iteD {A B p : Prop} [Decidable p] (h1 : p → A) (h2 : ¬ p → B) : if decide p = true then A else B := rd_ite (fun e => h1 (of_decide_eq_true e)) fun e => h2 (of_decide_eq_false e)
theorem rd_iteN {A B p : Prop} [Decidable p] (h1 : ¬ p → A) (h2 : p → B) : if (!decide p) = true then A else B := rd_ite (fun e => h1 (by simpa using e)) fun e => h2 (by simpa using e)
/-! ints -/
variable {a b : Int}
theorem rd_addI (h : Q (.int (a + b)) H) : oAdd K (.int a) (.int b) H Q := .inl ⟨a, b, rfl, rfl, h⟩
theorem rd_subI (h : Q (.int (a - b)) H) : oSub (.int a) (.int b) H Q := ⟨a, b, rfl, rfl, h⟩
theorem rd_mulI (c : CMul a b) (h : Q (.int (a * b)) H) : oMul (.int a) (.int b) H Q := ⟨a, b, rfl, rfl, c, h⟩
theorem rd_modI (c : b ≠ 0) (h : Q (.int (a.fmod b)) H) : oMod (.int a) (.int b) H Q := ⟨a, b, rfl, rfl, c, h⟩
theorem rd_divI (c : CDivN a b) (h : Q (.int (a.fdiv b)) H) : oDiv (.int a) (.int b) H Q := ⟨a, b, rfl, rfl, c, h⟩
theorem rd_powI (c : CPow a b) (h : Q (.int (a ^ b.toNat)) H) : oPow (.int a) (.int b) H Q := ⟨a, b, rfl, rfl, c, h⟩
theorem rd_lt (h : Q (.bl (decide (a < b))) H) : oLt (.int a) (.int b) H Q := ⟨a, b, rfl, rfl, h⟩
theorem rd_le (h : Q (.bl (decide (a ≤ b))) H) : oLe (.int a) (.int b) H Q := ⟨a, b, rfl, rfl, h⟩
theorem rd_gt (h : Q (.bl (decide (b < a))) H) : oGt (.int a) (.int b) H Q := ⟨a, b, rfl, rfl, h⟩
theorem rd_ge (h : Q (.bl (decide (b ≤ a))) H) : oGe (.int a) (.int b) H Q := ⟨a, b, rfl, rfl, h⟩
theorem rd_eqI (h : Q (.bl (decide (a = b))) H) : oEq K (.int a) (.int b) H Q := .inl ⟨rfl, by
  have e : decide (V.int a = V.int b) = decide (a = b) := decide_eq_decide.mpr ⟨fun z => V.int.inj z, fun z => by rw [z]⟩
  rw [e]; exact h⟩
theorem rd_neI (h : Q (.bl (!decide (a = b))) H) : oNe K (.int a) (.int b) H Q := .inl ⟨rfl, by
  have e : decide (V.int a = V.int b) = decide (a = b) := decide_eq_decide.mpr ⟨fun z => V.int.inj z, fun z => by rw [z]⟩
  rw [e]; exact h⟩
theorem rd_eqS {x y : Str} (h : Q (.bl (decide (x = y))) H) : oEq K (.str x) (.str y) H Q := .inl ⟨rfl, by
  have e : decide (V.str x = V.str y) = decide (x = y) := decide_eq_decide.mpr ⟨fun z => V.str.inj z, fun z => by rw [z]⟩
  rw [e]; exact h⟩
theorem rd_neS {x y : Str} (h : Q (.bl (!decide (x = y))) H) : oNe K (.str x) (.str y) H Q := .inl ⟨rfl, by
  have e : decide (V.str x = V.str y) = decide (x = y) := decide_eq_decide.mpr ⟨fun z => V.str.inj z, fun z => by rw [z]⟩
  rw [e]; exact h⟩
theorem rd_addS {x y : Str} (c : x.length + y.length ≤ sizeLine) (h : Q (.str (x ++ y)) H) : oAdd K (.str x) (.str y) H Q := .inr (.inl ⟨x, y, rfl, rfl, c, h⟩)
theorem rd_cat {l m : Addr} {xs ys : List V} (h1 : H l = some (.lst xs)) (h2 : H m = some (.lst ys)) (c : xs.length + ys.length ≤ sizeLine) (h : ∀ p, H p = none → Q (.ref p) (upd H p (.lst (xs ++ ys)))) : oAdd K (.ref l) (.ref m) H Q := .inr (.inr (.inl ⟨l, m, xs, ys, rfl, rfl, h1, h2, c, h⟩))
/-! calls of built-ins -/
end rd
/-! ### heaps -/
theorem ex_upd {H0 H : Hp} {p : Addr} {o : HO} (e : Ex H0 H) (h : H p = none) : Ex H0 (upd H p o) := fun a u q => by
  rw [upd_ne (ne_of_none (e a u q) h)]
  exact e a u q
theorem sq_upd {K : PySem.W.Frag} {H : Hp} {a p : Addr} {o : HO} {xs : List V} (hp : H p = none) (h : SqL K H a xs) : SqL K (upd H p o) a xs := Evl.ex_l (Evl.Ex.new hp) h
theorem sqt_upd {K : PySem.W.Frag} {H : Hp} {a p : Addr} {o : HO} {xs : List V} (hp : H p = none) (h : SqT K H a xs) : SqT K (upd H p o) a xs := Evl.ex_t (Evl.Ex.new hp) h
theorem at_upd {H : Hp} {a p : Addr} {o u : HO} (hp : H p = none) (h : H a = some u) : upd H p o a = some u := by
  rw [upd_ne (ne_of_none h hp)]; exact h

/-! ### more operators: in, len, slices, what is walked, repr -/
section
variable {X : Cx}
def oIn (K : PySem.W.Frag) : R2 := fun x y H Q => (∃ (c : Nat) (z : Str), x = .str ⟨#[c]⟩ ∧ y = .str z ∧ Q (.bl (decide (c ∈ z.cps.toList))) H) ∨ rIn K false x y H Q
def oNotIn (K : PySem.W.Frag) : R2 := fun x y H Q => (∃ (c : Nat) (z : Str), x = .str ⟨#[c]⟩ ∧ y = .str z ∧ Q (.bl (!decide (c ∈ z.cps.toList))) H) ∨ rIn K true x y H Q
theorem op_inP : OpR X (compareOp .In) (oIn X.K) := OpR.or op_in_sign op_in_seq
theorem op_notInP : OpR X (compareOp .NotIn) (oNotIn X.K) := OpR.or op_notIn_sign op_notIn_seq
def cLen (K : PySem.W.Frag) : List V → Hp → VK → Prop := fun xs H Q => (∃ x n, xs = [x] ∧ LenV K x H n ∧ Q (.int n) H) ∨ ∃ a kvs, xs = [V.ref a] ∧ H a = some (.dK kvs) ∧ Q (.int kvs.length) H
theorem call_lenP : CallR X (.builtin "len") (cLen X.K) := CallR.or call_len call_lenD
def cInt : List V → Hp → VK → Prop := fun xs H Q => (∃ i, xs = [.int i] ∧ Q (.int i) H) ∨ ∃ k, xs = [.bl k] ∧ Q (.int (if k then 1 else 0)) H
theorem call_intP : CallR X (.type "int") cInt := call_int1
def cAbs : List V → Hp → VK → Prop := fun xs H Q => ∃ i, xs = [.int i] ∧ Q (.int (if i < 0 then -i else i)) H
theorem call_absP : CallR X (.builtin "abs") cAbs := call_abs
def oSl (K : PySem.W.Frag) : V → Option Int → Option Int → Hp → VK → Prop := fun x lo hi H Q => rSlL K x lo hi H Q ∨ rSlS x lo hi H Q ∨ rSlA K x lo hi H Q
theorem sl_P : SlR X (oSl X.K) := SlR.or sl_list (SlR.or sl_str sl_tupA)
theorem PI.or {tg iter : Expr} {w w' : TI} (h : PI X tg iter w) (h' : PI X tg iter w') : PI X tg iter (fun σ H R => w σ H R ∨ w' σ H R) :=
  ⟨fun pins s σ H R I q => q.elim (h.run pins s σ H R I) (h'.run pins s σ H R I)⟩
def iAny (K : PySem.W.Frag) (te : TE) : TI := fun σ H R => iList K te σ H R ∨ iTup K te σ H R ∨ iStr te σ H R
theorem pi_any {tg e : Expr} {te : TE} (he : PE X e te) : PI X tg e (iAny X.K te) := PI.or (pi_list he) (PI.or (pi_tup he) (pi_str he))
theorem call_repr_bl : CallR X (.builtin "repr") (fun xs H Q => ∃ b, xs = [.bl b] ∧ Q (.str (if b then "True" else "False")) H) := by
  intro pins s σ H xs us Q I r h
  obtain ⟨b, rfl, q⟩ := h
  obtain ⟨u, rfl, ru⟩ := vals1 r
  cases (show u = Value.bool b from ru)
  exact PySem.P.repr_of_bool ⟨.str _, H, I.tok _, ⟨_, rfl⟩, q⟩
def cRepr : List V → Hp → VK → Prop := fun xs H Q => (∃ i, xs = [.int i] ∧ i.natAbs.log2 < 1920 ∧ Q (.str (toString i)) H) ∨ ∃ b, xs = [.bl b] ∧ Q (.str (if b then "True" else "False")) H
theorem call_reprP : CallR X (.builtin "repr") cRepr := CallR.or SkE.call_repr_int call_repr_bl
end
/-! ### own defs -/
/-- the def named x stands at f; all its parameters are written at a call -/
structure Own (K : PySem.W.Frag) (mg : Str → Option Value) (x : Str) (f : Addr) (fd : FuncData) (ps : List Str) : Prop where
  g : mg x = some (.ref f)
  k : PySem.W.keepIn K (.ref f) = true
  b : Binds K fd ps []
section
variable {X : Cx} {k : Nat} {f : Addr} {fd : FuncData} {ps : List Str} {sp : Sp} {x : Str} {p pos : Pos} {e : Expr} {es : List Expr} {t : TA}
def tCalled (sp : Sp) (t : TA) : TE := fun σ H Q => t σ H fun vs H1 => sp vs H1 Q E0
/-- a call of a def that raises nothing -/
theorem pe_callE (F : FnOk X.prog X.w X.K X.mg X.base CX0 k f fd ps sp) (hr : Room k X.A) (O : Own X.K X.mg x f fd ps) (ha : PA X (e :: es) t) (hg : Gl X x := by rfl)
    (hdb : (x == ("__debug__" : Str)) = false := by decide) (he : starEach (e :: es) X.env = (false, eval e X.env) :: starEach es X.env := by rfl) (hpl : (backTo pos (starEach es X.env)).any (·.1) = false := by rfl) :
    PE X (.Call (.Name x p) (e :: es) [] pos) (tCalled sp t) := pe_callS (E := fun _ => E0) F hr hg O.g O.k O.b (fun _ _ _ _ _ _ _ h => h.elim) ha hdb he hpl
def tCalledR (sp : Sp) (W : WX) (t : TA) : TE := fun σ H Q => t σ H fun vs H1 => sp vs H1 Q fun c d H2 => W c d σ H2
/-- a call of a def that may raise -/
theorem pe_callR {W : WX} (F : FnOk X.prog X.w X.K X.mg X.base (L2.CX X.prog X.w) k f fd ps sp) (hr : Room k X.A) (O : Own X.K X.mg x f fd ps) (tk : Takes X W) (ha : PA X (e :: es) t) (hg : Gl X x := by rfl)
    (hdb : (x == ("__debug__" : Str)) = false := by decide) (he : starEach (e :: es) X.env = (false, eval e X.env) :: starEach es X.env := by rfl) (hpl : (backTo pos (starEach es X.env)).any (·.1) = false := by rfl) :
    PE X (.Call (.Name x p) (e :: es) [] pos) (tCalledR sp W t) := pe_callS (E := WE W) F hr hg O.g O.k O.b (fun σ => passAt tk σ) ha hdb he hpl
end
/-! ### exceptions with the one attribute «what» -/
/-- the __init__ of the family: self.what = what -/
def spInit (K : PySem.W.Frag) : Sp := fun vs H Q _ => ∃ (a C : Addr) (v : V), vs = [.ref a, v] ∧ OexC K C ∧ PySem.W.findIn K (.ref C) "what" = some none ∧ H a = some (exo a C none) ∧
  ∀ dx, H dx = none → dx ≠ a → Q .non (upd (upd H dx (exd dx [("what", v)])) a (exo a C (some dx)))
/-- what the written part says of such a class -/
structure ErrX (K : PySem.W.Frag) (C fI : Addr) : Prop where
  ox : OexC K C
  xf : XfC K C
  nw : PySem.W.findIn K (.ref C) "what" = some none
  ini : PySem.W.findIn K (.ref C) "__init__" = some (some (.ref fI))
  cl : PySem.W.isClsIn K C = true
  cc : PySem.W.findIn K (.ref C) "__class__" = some (some (.builtin "object.__class__"))
  mo : PySem.W.mroIn K C (.type "object") = some true
  se : PySem.W.subIn K (.ref C) (.ref C) = some true
/-- of the builtin that tells an object's class -/
structure ClsB (K : PySem.W.Frag) : Prop where
  sp : PySem.W.specialIn K (.builtin "object.__class__") "__get__" = some (some (.builtin "getset_descriptor.__get__"))
  tk : PySem.W.takesIn K (.builtin "object.__class__") = some true
theorem mk_what {K : PySem.W.Frag} {C fI : Addr} {v : V} {H1 : Hp} {Q : XK} {vs : List V} (T : ErrX K C fI) (ev : vs = [v]) (h : ∀ d, H1 d = none → Q (.ref C) (some d) (upd H1 d (.xd [("what", v)]))) :
    vs.length ≤ 1000 ∧ ∀ a, H1 a = none → spInit K (.ref a :: (vs ++ [])) (upd H1 a (exo a C none))
      (fun u H2 => u = .non ∧ ∃ (d : Addr) (fs : List (Str × V)), H2 a = some (exo a C (some d)) ∧ H2 d = some (exd d fs) ∧ H1 d = none ∧ Q (.ref C) (some d) (upd (del H2 a) d (.xd fs))) (fun _ _ _ => False) := by
  subst ev
  refine ⟨by show 1 ≤ 1000; decide, fun a ha => ⟨a, C, v, rfl, T.ox, T.nw, upd_same, fun dx hdx ne => ⟨rfl, dx, [("what", v)], upd_same, ?_, ?_, ?_⟩⟩⟩
  · rw [upd_ne ne, upd_same]
  · rw [upd_ne ne] at hdx
    exact hdx
  · rw [upd_ne ne] at hdx
    have e : upd (del (upd (upd (upd H1 a (exo a C none)) dx (exd dx [("what", v)])) a (exo a C (some dx))) a) dx (.xd [("what", v)]) = upd H1 dx (.xd [("what", v)]) := by
      funext b
      by_cases h1 : b = dx
      · rw [h1, upd_same, upd_same]
      · rw [upd_ne h1, upd_ne h1]
        by_cases h2 : b = a
        · rw [h2, del_same, ha]
        · rw [del_ne h2, upd_ne h2, upd_ne h1, upd_ne h2]
    rw [e]
    exact h dx hdx
/-- raise C(e) -/
def tRaised (C : Addr) (W : WX) (ta : TA) : TS := fun _ σ H => ta σ H fun vs H1 => ∃ v, vs = [v] ∧ ∀ d, H1 d = none → W (.ref C) (some d) σ (upd H1 d (.xd [("what", v)]))
section
variable {X : Cx} {C fI : Addr} {fd : FuncData} {x : Str} {p pos pos2 : Pos} {e : Expr} {ta : TA} {W : WX}
theorem PA.imp {es : List Expr} {t t' : TA} (h : PA X es t) (hi : ∀ σ H Q, t' σ H Q → t σ H Q) : PA X es t' := ⟨fun pos pins s σ H Q I q => h.run pos pins s σ H Q I (hi σ H Q q)⟩
theorem PS.imp {st : Stmt} {t t' : TS} (h : PS X st t) (hi : ∀ D σ H, t' D σ H → t D σ H) : PS X st t' := ⟨fun pins s σ H D I q => h.run pins s σ H D I (hi D σ H q)⟩
/-- a reading is monotone in its wish -/
def MonoA (t : TA) : Prop := ∀ σ H (Q Q' : List V → Hp → Prop), (∀ vs H1, Q vs H1 → Q' vs H1) → t σ H Q → t σ H Q'
theorem ps_raiseW (hc : X.calm = true) (T : ErrX X.K C fI) (G : FnOk X.prog X.w X.K X.mg X.base CX0 1 fI fd ["self", "what"] (spInit X.K)) (tI : PySem.W.typeIn X.K (.ref fI) = some (.type "function")) (bI : Binds X.K fd ["self", "what"] []) (hr : Room 2 X.A) (hm : X.mg x = some (.ref C))
    (tk : Takes X W) (ha : PA X (e :: []) ta) (mo : MonoA ta) (hg : Gl X x := by rfl) (hdb : (x == ("__debug__" : Str)) = false := by decide)
    (he : starEach (e :: []) X.env = (false, eval e X.env) :: starEach [] X.env := by rfl) (hpl : (backTo pos (starEach [] X.env)).any (·.1) = false := by rfl) :
    PS X (.Raise (some (.Call (.Name x p) (e :: []) [] pos)) none pos2) (tRaised C W ta) := by
  refine PS.imp (ps_raise hc tk (pmk_oex (pos := pos) T.ox T.ini tI G hr bI .nil pass0 hg hm ha hdb he hpl)) fun D σ H q => ?_
  refine mo σ H _ _ (fun vs H1 q => ?_) q
  obtain ⟨v, ev, h⟩ := q
  exact mk_what (Q := fun c d H' => W c d σ H') T ev h
theorem MonoA.nil : MonoA tNil := fun _ _ _ _ h q => h _ _ q
theorem MonoA.one {te : TE} (m : ∀ σ H (Q Q' : VK), (∀ v H1, Q v H1 → Q' v H1) → te σ H Q → te σ H Q') : MonoA (tCons te tNil) := fun σ H Q Q' h q => m σ H _ _ (fun v H1 z => h _ _ z) q
theorem mono_var {i : Nat} : ∀ σ H (Q Q' : VK), (∀ v H1, Q v H1 → Q' v H1) → tVar i σ H Q → tVar i σ H Q' := fun _ _ _ _ h ⟨v, e, q⟩ => ⟨v, e, h _ _ q⟩
theorem mono_c {v : V} : ∀ σ H (Q Q' : VK), (∀ v H1, Q v H1 → Q' v H1) → tC v σ H Q → tC v σ H Q' := fun _ _ _ _ h q => h _ _ q
end
/-- isinstance(e, c), isinstance(e, (c, ..)): e the exception that the suite holds -/
def cIsE (K : PySem.W.Frag) (D a dd : Addr) : List V → Hp → VK → Prop := fun xs H Q => ∃ (fs : List (Str × V)) (b : Bool), H dd = some (.xd fs) ∧
  ((∃ (c : V) (cv : Value), xs = [.ref a, c] ∧ ClsV c cv ∧ PySem.W.kitOne K (.ref D) cv = some b) ∨ ∃ (tp : Addr) (cs : List V) (us : List Value), xs = [.ref a, .ref tp] ∧ H tp = some (.tup cs) ∧ Paired ClsV cs us ∧ PySem.W.kitAny K (.ref D) us = some b) ∧ Q (.bl b) H
theorem call_isX {X : Cx} {a D dd fI : Addr} {oe : Obj} {pn : List (Addr × Obj)} (T : ErrX X.K D fI) (B : ClsB X.K) (hz : Zc (.ref D) (some dd) oe) (hf : ∃ vs, oe.data = .fields vs) : CallR (X.suite a ((a, oe) :: pn)) (.builtin "isinstance") (cIsE X.K D a dd) := by
  intro pins s σ H xs us Q I r h
  obtain ⟨fs, b, hdd, hc, q⟩ := h
  obtain ⟨mA, hns, _⟩ := (show ObjOk X.prog X.w H s.heap dd (.xd fs) from I.hok dd _ hdd)
  obtain ⟨od, ho, _⟩ := lookIn_ns hns
  obtain ⟨hget, _⟩ := I.pin (a, oe) (List.mem_append.mpr (.inl List.mem_cons_self))
  obtain ⟨vs, hv⟩ := hf
  have J : PySem.W.InstAt s.heap a oe D (some od) := ⟨hget, hz.1, by unfold PySem.W.notCls; rw [hv] <;> rfl, by rw [hz.2]; exact ho⟩
  have Z : PySem.W.KitX X.K (.ref a) (.ref D) (fun h => PySem.W.InstAt h a oe D (some od)) := PySem.W.kitx_exc T.cl T.xf.ga T.xf.gg T.xf.exC T.cc B.sp B.tk T.mo
  rcases hc with ⟨c, cv, rfl, hcv, e⟩ | ⟨tp, cs, ws, rfl, hT, hcs, e⟩
  · obtain ⟨u1, u2, rfl, r1, r2⟩ := vals2 r
    cases (show u1 = Value.ref a from r1)
    have e2 := hcv.eq r2
    subst e2
    exact PySem.W.kia_one Z I.kIn J e (fun z => nomatch z) fun tk => ⟨.bl b, H, I.tok tk, rfl, q⟩
  · obtain ⟨u1, u2, rfl, r1, r2⟩ := vals2 r
    cases (show u1 = Value.ref a from r1)
    cases (show u2 = Value.ref tp from r2)
    obtain ⟨_, its, rv, o, h1, h2, n, h3⟩ := (show ObjOk X.prog X.w H s.heap tp (.tup cs) from I.hok tp _ hT)
    have e3 := ClsV.all hcs rv
    subst e3
    obtain ⟨oc, od', dt, sl⟩ := o
    simp only at h2 h3
    subst h2 h3
    exact PySem.W.kia_tup Z I.kIn J h1 e (fun z => nomatch z) fun tk => ⟨.bl b, H, I.tok tk, rfl, q⟩
/-- an own class or a class of Python's beside it: what isinstance says -/
theorem kit_ref {K : PySem.W.Frag} {D C fI : Addr} {b : Bool} (T : ErrX K D fI) (cl : PySem.W.isClsIn K C = true) (ty : PySem.W.typeIn K (.ref C) = some (.type "type")) (s : PySem.W.subIn K (.ref D) (.ref C) = some b) : PySem.W.kitOne K (.ref D) (.ref C) = some b := by
  by_cases e : D = C
  · subst e
    rw [T.se] at s
    obtain rfl : true = b := Option.some.inj s
    unfold PySem.W.kitOne
    rw [if_pos (by simp)]
  · unfold PySem.W.kitOne
    rw [if_neg (by simp [e])]
    show (if ((PySem.W.clsIn K C).isSome && PySem.W.typeIn K (.ref C) == some (.type "type")) = true then PySem.W.subIn K (.ref D) (.ref C) else none) = some b
    have e1 : (PySem.W.clsIn K C).isSome = true := cl
    rw [e1, ty, s]
    rfl
theorem kit_bt {K : PySem.W.Frag} {D : Addr} {n : String} {b : Bool} (m : PySem.W.kitMeta n = true) (s : PySem.W.subIn K (.ref D) (.type n) = some b) : PySem.W.kitOne K (.ref D) (.type n) = some b := by
  unfold PySem.W.kitOne
  rw [if_neg (by simp)]
  show (if PySem.W.kitMeta n = true then PySem.W.subIn K (.ref D) (.type n) else none) = some b
  rw [if_pos m, s]

theorem PSs.exi {ι : Type} {X : Cx} {st : List Stmt} {P : ι → Prop} {t : ι → TS} (h : ∀ i, P i → PSs X st (t i)) : PSs X st (fun D σ H => ∃ i, P i ∧ t i D σ H) :=
  ⟨fun pins s σ H D I ⟨i, p, q⟩ => (h i p).run pins s σ H D I q⟩
/-- what a suite knows of its exception: its class, its dict, where the family's __init__ stands -/
structure Caught (K : PySem.W.Frag) (cls : Value) (d : Option Addr) (i : Addr × Addr × Addr) : Prop where
  c : cls = .ref i.1
  e : d = some i.2.1
  x : ErrX K i.1 i.2.2
theorem Caught.z {K : PySem.W.Frag} {cls : Value} {d : Option Addr} {i : Addr × Addr × Addr} {oe : Obj} (h : Caught K cls d i) (hz : Zc cls d oe) : Zc (.ref i.1) (some i.2.1) oe := ⟨hz.1.trans h.c, hz.2.trans h.e⟩
/-! ### reading of calls -/
section
variable {K : PySem.W.Frag} {σ : L2.St} {H : Hp} {Q : VK} {D : Ends} {tl : TA} {te ta tb : TE} {a : Int} {v x : V} {n : Nat} {W : WX} {C : Addr}
theorem rd_called {sp : Sp} (h : tl σ H fun vs H1 => sp vs H1 Q E0) : tCalled sp tl σ H Q := h
theorem rd_calledR {sp : Sp} (h : tl σ H fun vs H1 => sp vs H1 Q fun c d H2 => W c d σ H2) : tCalledR sp W tl σ H Q := h
theorem rd_raised (h : tl σ H fun vs H1 => ∃ v, vs = [v] ∧ ∀ d, H1 d = none → W (.ref C) (some d) σ (upd H1 d (.xd [("what", v)]))) : tRaised C W tl D σ H := h
theorem rd_raised1 {P : V → Prop} (h : P v) : ∃ v', [v] = [v'] ∧ P v' := ⟨v, rfl, h⟩
theorem rd_int (h : Q (.int a) H) : cInt [.int a] H Q := .inl ⟨a, rfl, h⟩
theorem rd_abs (h : Q (.int (if a < 0 then -a else a)) H) : cAbs [.int a] H Q := ⟨a, rfl, h⟩
theorem rd_lenL {p : Addr} {xs : List V} (e : SqL K H p xs) (h : Q (.int (xs.length : Nat)) H) : cLen K [.ref p] H Q := .inl ⟨_, _, rfl, .inl ⟨xs, e, rfl⟩, h⟩
theorem rd_lenT {p : Addr} {xs : List V} (e : SqT K H p xs) (h : Q (.int (xs.length : Nat)) H) : cLen K [.ref p] H Q := .inl ⟨_, _, rfl, .inr ⟨xs, e, rfl⟩, h⟩
theorem rd_lenS {z : Str} (e : z.length ≤ sizeLine) (h : Q (.int (z.length : Nat)) H) : cLen K [.str z] H Q := .inl ⟨_, _, rfl, ⟨e, rfl⟩, h⟩
theorem rd_ixL {p : Addr} {xs : List V} (e : SqL K H p xs) (ha : atI xs a = some v) (h : Q v H) : rIx K (.ref p) (.int a) H Q := .inl ⟨p, xs, a, v, rfl, rfl, e, ha, h⟩
theorem rd_ixT {p : Addr} {xs : List V} (e : SqT K H p xs) (ha : atI xs a = some v) (h : Q v H) : rIx K (.ref p) (.int a) H Q := .inr (.inl ⟨p, xs, a, v, rfl, rfl, e, ha, h⟩)
theorem rd_ixS {z : Str} {c : Nat} (e : z.length ≤ sizeLine) (ha : atI z.cps.toList a = some c) (h : Q (.str ⟨#[c]⟩) H) : rIx K (.str z) (.int a) H Q := .inr (.inr ⟨z, a, c, rfl, rfl, e, ha, h⟩)
theorem rd_inS {c : Nat} {z : Str} (h : Q (.bl (decide (c ∈ z.cps.toList))) H) : oIn K (.str ⟨#[c]⟩) (.str z) H Q := .inl ⟨c, z, rfl, rfl, h⟩
theorem rd_niS {c : Nat} {z : Str} (h : Q (.bl (!decide (c ∈ z.cps.toList))) H) : oNotIn K (.str ⟨#[c]⟩) (.str z) H Q := .inl ⟨c, z, rfl, rfl, h⟩
theorem rd_rng1 {ta : TA} {R : It → Hp → Prop} (h : ta σ H fun vs H1 => ∃ j : Int, vs = [.int j] ∧ -(2 ^ 62) ≤ j ∧ j < 2 ^ 62 ∧ R (Itr 0 j.toNat) H1) : iRng1 ta σ H R := h
theorem rd_rng2 {ta : TA} {R : It → Hp → Prop} (h : ta σ H fun vs H1 => ∃ i j : Int, vs = [.int i, .int j] ∧ (-(2 ^ 62) ≤ i ∧ i < 2 ^ 62 ∧ -(2 ^ 62) ≤ j ∧ j < 2 ^ 62) ∧ R (Itr i (j - i).toNat) H1) : iRng2 ta σ H R := h
theorem rd_bm {T : String} {r : V → List V → Hp → VK → Prop} {to : TE} {t : TA} (h : to σ H fun x H1 => tyV K T x H1 ∧ t σ H1 fun xs H2 => r x xs H2 Q) : tBM K T r to t σ H Q := h
theorem rd_andV (h : ta σ H fun x H1 => ∃ c, x = .bl c ∧ if c = true then tb σ H1 Q else Q (.bl false) H1) : tAndV ta tb σ H Q := h
theorem rd_orV (h : ta σ H fun x H1 => ∃ c, x = .bl c ∧ if c = true then Q (.bl true) H1 else tb σ H1 Q) : tOrV ta tb σ H Q := h
theorem rd_sl {r : V → Option Int → Option Int → Hp → VK → Prop} {tl th : TO} (h : te σ H fun x H1 => tl σ H1 fun l H2 => th σ H2 fun u H3 => r x l u H3 Q) : tSl r te tl th σ H Q := h
theorem rd_noPart {Q : Option Int → Hp → Prop} (h : Q none H) : tNoPart σ H Q := h
theorem rd_part {Q : Option Int → Hp → Prop} (h : te σ H fun x H1 => ∃ i, x = .int i ∧ Q (some i) H1) : tPart te σ H Q := h
theorem rd_intv {P : Int → Prop} (h : P a) : ∃ i, V.int a = .int i ∧ P i := ⟨a, rfl, h⟩
theorem rd_slS {z : Str} {lo hi : Option Int} (e : z.length ≤ sizeLine) (h : Q (.str (cutS z lo hi)) H) : oSl K (.str z) lo hi H Q := .inr (.inl ⟨z, rfl, e, h⟩)
end

section
variable {CX : CXT} {P : Program} {w : World} {K : PySem.W.Frag} {mg : Str → Option Value} {base : Heap} {N : List Str} {q : Str} {sc : Scope} {f : Addr} {cdv : Value} {A : Around} {outer : List Env} {s : Shared} {H : Hp} {E : XK}
theorem cxK : (cxOf CX P w K mg base N q sc f cdv A outer s H E).nox.K = K := rfl
theorem cxK' : (cxOf CX P w K mg base N q sc f cdv A outer s H E).K = K := rfl
end

/-! ### loops and comprehensions -/
def forB (g : TG) (tb : TS) (D : Ends) (σ : L2.St) (J : It) (H : Hp) : Prop := tFor (fun _ H R => R J H) g tb D σ H
def lcB (g : TG) (tt : TT) (te : TE) (vs : List Nat) (σ : L2.St) (Q : VK) (J : It) (H : Hp) : Prop := tLc (fun _ H R => R J H) g tt te vs σ H Q
section
variable {K : PySem.W.Frag} {σ : L2.St} {H : Hp} {Q : VK} {D : Ends} {wi : TI} {g : TG} {tb : TS} {tt : TT} {te : TE} {vs : List Nat} {J : It} {n : Nat} {G : Hp → Prop} {Y : Nat → Hp → V → Hp → Prop} {R : It → Hp → Prop}
theorem rd_for (h : wi σ H (forB g tb D σ)) : tFor wi g tb D σ H := h
theorem rd_lc (h : wi σ H (lcB g tt te vs σ Q)) : tLc wi g tt te vs σ H Q := h
theorem fo_range {n : Nat} (Pv : Nat → L2.St → Hp → Prop) (h0 : Pv 0 σ H) (hs : ∀ (i : Nat) σ H, i < n → Pv i σ H → g (.int (i : Int)) σ H fun σ2 H2 => tb { D with nx := Pv (i + 1), ct := Pv (i + 1), bk := D.nx } σ2 H2) (hd : ∀ σ H, Pv n σ H → D.nx σ H) : forB g tb D σ (Itr 0 n) H :=
  for_range (lo := 0) Pv h0 (fun i σ H hi p => by rw [Int.zero_add]; exact hs i σ H hi p) hd
theorem fo_range2 {lo : Int} {n : Nat} (Pv : Nat → L2.St → Hp → Prop) (h0 : Pv 0 σ H) (hs : ∀ (i : Nat) σ H, i < n → Pv i σ H → g (.int (lo + (i : Int))) σ H fun σ2 H2 => tb { D with nx := Pv (i + 1), ct := Pv (i + 1), bk := D.nx } σ2 H2) (hd : ∀ σ H, Pv n σ H → D.nx σ H) : forB g tb D σ (Itr lo n) H :=
  for_range (lo := lo) Pv h0 hs hd
theorem fo_it (w : Walk J n G Y) (Pv : Nat → L2.St → Hp → Prop) (h0 : Pv 0 σ H) (hG : ∀ i σ H, i ≤ n → Pv i σ H → G H)
    (hs : ∀ i x σ H H', i < n → Pv i σ H → Y i H x H' → g x σ H' fun σ2 H2 => tb { D with nx := Pv (i + 1), ct := Pv (i + 1), bk := D.nx } σ2 H2) (hd : ∀ σ H, Pv n σ H → D.nx σ H) : forB g tb D σ J H := for_it w Pv h0 hG hs hd
/-- over a text -/
theorem fo_str {z : Str} (Pv : Nat → L2.St → Hp → Prop) (h0 : Pv 0 σ H) (hs : ∀ (i : Nat) c σ H, z.cps.toList[i]? = some c → Pv i σ H → g (.str ⟨#[c]⟩) σ H fun σ2 H2 => tb { D with nx := Pv (i + 1), ct := Pv (i + 1), bk := D.nx } σ2 H2) (hd : ∀ σ H, Pv z.length σ H → D.nx σ H) : forB g tb D σ (Its z) H :=
  fo_it walk_str Pv h0 (fun _ _ _ _ _ => True.intro) (fun i x σ H H' hi p y => by
    obtain ⟨rfl, c, e, rfl⟩ := y
    exact hs i c σ _ (by rw [Array.getElem?_toList]; exact e) p) hd
theorem fo_list {a : Addr} {xs : List V} (Pv : Nat → L2.St → Hp → Prop) (h0 : Pv 0 σ H) (hl : ∀ i σ H, i ≤ xs.length → Pv i σ H → SqL K H a xs) (hs : ∀ (i : Nat) x σ H, xs[i]? = some x → Pv i σ H → g x σ H fun σ2 H2 => tb { D with nx := Pv (i + 1), ct := Pv (i + 1), bk := D.nx } σ2 H2)
    (hd : ∀ σ H, Pv xs.length σ H → D.nx σ H) : forB g tb D σ (Itl K a) H := for_list Pv h0 hl hs hd
theorem fo_tup {a : Addr} {xs : List V} (Pv : Nat → L2.St → Hp → Prop) (h0 : Pv 0 σ H) (hl : ∀ i σ H, i ≤ xs.length → Pv i σ H → SqT K H a xs) (hs : ∀ (i : Nat) x σ H, xs[i]? = some x → Pv i σ H → g x σ H fun σ2 H2 => tb { D with nx := Pv (i + 1), ct := Pv (i + 1), bk := D.nx } σ2 H2)
    (hd : ∀ σ H, Pv xs.length σ H → D.nx σ H) : forB g tb D σ (Itt K a) H := for_tup Pv h0 hl hs hd
/-- what is walked -/
theorem rd_anyL {a : Addr} {xs : List V} {te : TE} (he : ∀ Q : VK, Q (.ref a) H → te σ H Q) (hs : SqL K H a xs) (h : R (Itl K a) H) : iAny K te σ H R := .inl (he _ ⟨a, rfl, ⟨xs, hs⟩, h⟩)
theorem rd_anyT {a : Addr} {xs : List V} {te : TE} (he : ∀ Q : VK, Q (.ref a) H → te σ H Q) (hs : SqT K H a xs) (h : R (Itt K a) H) : iAny K te σ H R := .inr (.inl (he _ ⟨a, rfl, ⟨xs, hs⟩, h⟩))
theorem rd_anyS {z : Str} {te : TE} (he : ∀ Q : VK, Q (.str z) H → te σ H Q) (h : R (Its z) H) : iAny K te σ H R := .inr (.inr (he _ ⟨z, rfl, h⟩))
/-- a comprehension whose parts leave the heap -/
theorem lc_pure {j : Nat} {xs : Nat → V} {f : Nat → Bool} {v : Nat → V} (w : Walk J n G Y) (hY : ∀ i H x H', i < n → Y i H x H' → H' = H ∧ x = xs i) (hG : ∀ Hc, Ex H Hc → G Hc) (hn : n < 100000)
    (ht : ∀ i Hc, i < n → Ex H Hc → Ans tt ((wipe σ [j]).set j (some (xs i))) Hc (f i)) (he : ∀ i Hc, i < n → Ex H Hc → f i = true → Val te ((wipe σ [j]).set j (some (xs i))) Hc (v i))
    (h : ∀ L, H L = none → Q (.ref L) (upd H L (.lst (Evl.given n f v)))) : lcB (gName j) tt te [j] σ Q J H := by
  intro L hL
  have hz : ∀ m, m ≤ n → (Evl.given m f v).length < sizeLine := fun m hm => Nat.lt_of_le_of_lt (Evl.given_len m f v) (Nat.lt_of_le_of_lt hm (Nat.lt_trans hn (by decide)))
  refine lc_it w (fun i Hc => i ≤ n ∧ Hc = upd H L (.lst (Evl.given i f v))) ⟨Nat.zero_le _, rfl⟩ (fun i Hc _ p => ?_) (fun i x Hc H' hi p y => ?_) fun Hc p => ?_
  · obtain ⟨_, rfl⟩ := p
    exact hG _ (Evl.Ex.new hL)
  · obtain ⟨hi1, rfl⟩ := p
    obtain ⟨rfl, rfl⟩ := hY _ _ _ _ hi y
    have e0 := Evl.Ex.new (o := .lst (Evl.given i f v)) hL
    refine ⟨by simp [wipe], ?_⟩
    refine ht i _ hi e0 _ ?_
    cases hf : f i with
    | true =>
      refine rd_iteT ?_
      refine he i _ hi e0 hf _ ?_
      refine ⟨_, upd_same, hz i (Nat.le_of_lt hi), hi, ?_⟩
      rw [upd_upd, Evl.given_yes hf]
    | false =>
      refine rd_iteF ⟨hi, ?_⟩
      rw [Evl.given_no hf]
  · obtain ⟨_, rfl⟩ := p
    exact h L hL
theorem rd_yes {QB : Bool → Hp → Prop} (h : QB true H) : tYes σ H QB := h
theorem ans_yes : Ans tYes σ H true := fun _ q => q
end
/-- the list that is given -/
theorem given_eq {α : Type} (l : List α) (p : α → Bool) (f : α → V) (q : Nat → Bool) (v : Nat → V) (hq : ∀ i x, l[i]? = some x → q i = p x) (hv : ∀ i x, l[i]? = some x → v i = f x) : ∀ n, n ≤ l.length → Evl.given n q v = ((l.take n).filter p).map f
  | 0, _ => rfl
  | n + 1, h => by
    have hx : l[n]? = some (l[n]'h) := List.getElem?_eq_getElem h
    have ih := given_eq l p f q v hq hv n (Nat.le_of_lt h)
    rw [List.take_succ, hx]
    cases e : p (l[n]'h) with
    | true =>
      rw [Evl.given_yes ((hq _ _ hx).trans e), ih, List.filter_append, List.map_append, hv _ _ hx]
      simp [e]
    | false =>
      rw [Evl.given_no ((hq _ _ hx).trans e), ih, List.filter_append, List.map_append]
      simp [e]

theorem rd_gsub {to ti : TE} {t : TSet} {v : V} {σ : L2.St} {H : Hp} {Q : L2.St → Hp → Prop} (h : to σ H fun o H1 => ti σ H1 fun i H2 => t o i v H2 fun H3 => Q σ H3) : gSub to ti t v σ H Q := h
theorem rd_while {tt : TT} {tb : TS} {D : Ends} {σ : L2.St} {H : Hp} (Pv : L2.St → Hp → Prop) (μ : L2.St → Hp → Nat) (h0 : Pv σ H)
    (hs : ∀ σ H, Pv σ H → tt σ H fun b H1 => if b = true then tb { D with nx := fun σ' H' => Pv σ' H' ∧ μ σ' H' < μ σ H, ct := fun σ' H' => Pv σ' H' ∧ μ σ' H' < μ σ H, bk := D.nx } σ H1 else D.nx σ H1)
    (mono : ∀ σ H Q Q', (∀ b H1, Q b H1 → Q' b H1) → tt σ H Q → tt σ H Q') : tWhile tt tb D σ H := while_by Pv μ h0 hs mono

/-! ### the same, the written part named -/
section
variable {X : Cx} (K : PySem.W.Frag) (hK : X.K = K := by rfl)
include hK
theorem kAdd : OpR X (binaryOp .Add) (oAdd K) := hK ▸ op_addP
theorem kEq (hu : X.A.units + 64 < cLine) : OpR X (compareOp .Eq) (oEq K) := hK ▸ op_eqP hu
theorem kNe (hu : X.A.units + 64 < cLine) : OpR X (compareOp .NotEq) (oNe K) := hK ▸ op_neP hu
theorem kIn : OpR X (compareOp .In) (oIn K) := hK ▸ op_inP
theorem kNotIn : OpR X (compareOp .NotIn) (oNotIn K) := hK ▸ op_notInP
theorem kLen : CallR X (.builtin "len") (cLen K) := hK ▸ call_lenP
theorem kSl : SlR X (oSl K) := hK ▸ sl_P
theorem kIx : IxR X (rIx K) := hK ▸ ix_seq
theorem kAny {tg e : Expr} {te : TE} (he : PE X e te) : PI X tg e (iAny K te) := hK ▸ pi_any he
theorem kAll (hc : X.calm = true := by rfl) : CallR X (.builtin "all") (rAll K) := hK ▸ cr_all hc
theorem kAnyOf (hc : X.calm = true := by rfl) : CallR X (.builtin "any") (rAny K) := hK ▸ cr_any hc
theorem kSum (hc : X.calm = true := by rfl) : CallR X (.builtin "sum") (rSum K) := hK ▸ cr_sum hc
end
section
variable {X : Cx} {x : Str} {pos : Pos}
theorem pe_globS {s : Str} {t : Tok} (hg : Gl X x) (hm : X.mg x = some (.str s t)) (hd : (x == ("__debug__" : Str)) = false := by decide) : PE X (.Name x pos) (tC (.str s)) := pe_glob hg hm ⟨t, rfl⟩ hd
theorem pe_globI {i : Int} {t : Tok} (hg : Gl X x) (hm : X.mg x = some (.int i t)) (hd : (x == ("__debug__" : Str)) = false := by decide) : PE X (.Name x pos) (tC (.int i)) := pe_glob hg hm ⟨t, rfl⟩ hd
theorem pe_globR {a : Addr} (hg : Gl X x) (hm : X.mg x = some (.ref a)) (hd : (x == ("__debug__" : Str)) = false := by decide) : PE X (.Name x pos) (tC (.ref a)) := pe_glob (v := .ref a) hg hm rfl hd
end

theorem rd_iteNF {A B : Prop} (h : A) : if (!false) = true then A else B := iteT h
theorem rd_iteNT {A B : Prop} (h : B) : if (!true) = true then A else B := iteF h

section
variable {X : Cx} {x : Str} {pos : Pos}
theorem pe_blT {n : String} (hg : Gl X x) (hm : X.mg x = none) (hv : bootBuiltins x = some (.type n)) (hn : x ≠ "__name__" := by decide) (hd : (x == ("__debug__" : Str)) = false := by decide) : PE X (.Name x pos) (tC (.ty n)) := pe_bltn (v := .ty n) hg hm hv rfl hn hd
end
/-! ### lists of flat values compared -/
def okS (z : Str) : Prop := PyData.strOk z = true
theorem okS_iff {z : Str} : okS z ↔ ∀ c ∈ z.cps.toList, c < 0x110000 := by
  unfold okS PyData.strOk
  rw [← Array.all_toList, List.all_eq_true]
  exact ⟨fun h c hc => by simpa using h c hc, fun h c hc => by simpa using h c hc⟩
theorem okS_app {x y : Str} (hx : okS x) (hy : okS y) : okS (x ++ y) := okS_iff.mpr fun c hc => by
  have e : (x ++ y).cps.toList = x.cps.toList ++ y.cps.toList := TL.tl_append x y
  rw [e] at hc
  exact (List.mem_append.mp hc).elim (okS_iff.mp hx c) (okS_iff.mp hy c)
theorem okS_one {z : Str} {c : Nat} (hz : okS z) (hc : c ∈ z.cps.toList) : okS ⟨#[c]⟩ := okS_iff.mpr fun d hd => by
  have e : d = c := by simpa using hd
  rw [e]
  exact okS_iff.mp hz c hc
theorem okS_sub {x y : Str} (hy : okS y) (h : ∀ c ∈ x.cps.toList, c ∈ y.cps.toList) : okS x := okS_iff.mpr fun c hc => okS_iff.mp hy c (h c hc)
def dOf : V → PyData
  | .bl b => .bool b
  | .int i => .int i
  | .str x => .str x
  | _ => .none
def flat1 : V → Bool
  | .non => true
  | .bl _ => true
  | .int _ => true
  | .str x => PyData.strOk x
  | _ => false
theorem dp_flat {K : PySem.W.Frag} {H : Hp} {v : V} (h : flat1 v = true) : Dp K H v (dOf v) := by
  cases v with
  | non => exact .non
  | bl b => exact .bl b
  | int i => exact .int i
  | str x => exact .str x
  | byt _ => exact absurd h Bool.false_ne_true
  | flt _ => exact absurd h Bool.false_ne_true
  | ref _ => exact absurd h Bool.false_ne_true
  | ty _ => exact absurd h Bool.false_ne_true
theorem lay_flat {v : V} (h : flat1 v = true) : (dOf v).canLay0 = true ∧ (dOf v).depth = 0 := by
  cases v with
  | str x => exact ⟨h, rfl⟩
  | _ => exact ⟨rfl, rfl⟩
theorem dpAll_flat {K : PySem.W.Frag} {H : Hp} : ∀ {xs : List V}, xs.all flat1 = true → DpAll K H xs (xs.map dOf)
  | [], _ => .nil
  | v :: xs, h => by
    rw [List.all_cons, Bool.and_eq_true] at h
    exact .cons (dp_flat h.1) (dpAll_flat h.2)
theorem lay_all : ∀ {xs : List V}, xs.all flat1 = true → PyData.canLayAll0 (xs.map dOf) = true ∧ PyData.depthAll (xs.map dOf) = 0
  | [], _ => ⟨rfl, rfl⟩
  | v :: xs, h => by
    rw [List.all_cons, Bool.and_eq_true] at h
    obtain ⟨h1, h2⟩ := lay_flat h.1
    obtain ⟨h3, h4⟩ := lay_all h.2
    refine ⟨?_, ?_⟩
    · show ((dOf v).canLay0 && PyData.canLayAll0 (xs.map dOf)) = true
      rw [h1, h3]
      rfl
    · show max (dOf v).depth (PyData.depthAll (xs.map dOf)) = 0
      rw [h2, h4]
      rfl
theorem shaped_list {xs : List V} (h : xs.all flat1 = true) : SeqAt.shaped (.list (xs.map dOf)) = true := by
  obtain ⟨h1, h2⟩ := lay_all h
  refine Bool.and_eq_true_iff.mpr ⟨h1, decide_eq_true ?_⟩
  show PyData.depthAll (xs.map dOf) + 1 ≤ 64
  rw [h2]
  decide
theorem refl_list {xs : List V} (h : xs.all flat1 = true) : PyData.eqv (.list (xs.map dOf)) (.list (xs.map dOf)) = true := SeqAt.eqv_refl _ (lay_all h).1
section
variable {K : PySem.W.Frag} {p q : Addr} {xs : List V} {H : Hp} {Q : VK}
theorem rd_neL (hp : SqL K H p xs) (hq : SqL K H q xs) (hf : xs.all flat1 = true) (h : Q (.bl false) H) : oNe K (.ref p) (.ref q) H Q :=
  .inr ⟨_, _, .lst hp (dpAll_flat hf), .lst hq (dpAll_flat hf), shaped_list hf, shaped_list hf, by rw [refl_list hf]; exact h⟩
theorem rd_eqL (hp : SqL K H p xs) (hq : SqL K H q xs) (hf : xs.all flat1 = true) (h : Q (.bl true) H) : oEq K (.ref p) (.ref q) H Q :=
  .inr ⟨_, _, .lst hp (dpAll_flat hf), .lst hq (dpAll_flat hf), shaped_list hf, shaped_list hf, by rw [refl_list hf]; exact h⟩
theorem rd_eqNil (hp : SqL K H p xs) (hq : SqL K H q []) (hf : xs.all flat1 = true) (h : Q (.bl xs.isEmpty) H) : oEq K (.ref p) (.ref q) H Q :=
  .inr ⟨_, .list [], .lst hp (dpAll_flat hf), .lst hq .nil, shaped_list hf, rfl, by
    cases xs with
    | nil => exact h
    | cons a r => exact h⟩
end
theorem rd_reprB {b : Bool} {H : Hp} {Q : VK} (h : Q (.str (if b then "True" else "False")) H) : cRepr [.bl b] H Q := .inr ⟨b, rfl, h⟩

section
variable {σ : L2.St} {H : Hp} {Q : VK} {D : Ends} {t u : TS} {te ta tb : TE} {g : TG} {a b : Bool}
theorem rd_seqA (h : tAsg te g { D with nx := u D } σ H) : tSeq (tAsg te g) u D σ H := h
theorem rd_seqD (h : tDrop te { D with nx := u D } σ H) : tSeq (tDrop te) u D σ H := h
/-- a statement, then the rest: R is what holds between -/
theorem rd_cut (R : L2.St → Hp → Prop) (h1 : ∀ N : L2.St → Hp → Prop, (∀ σ H, R σ H → N σ H) → t { D with nx := N } σ H) (h2 : ∀ σ H, R σ H → u D σ H) : tSeq t u D σ H := h1 (u D) h2
theorem val_andV (h1 : Val ta σ H (.bl a)) (h2 : a = true → Val tb σ H (.bl b)) : Val (tAndV ta tb) σ H (.bl (a && b)) := fun Q q => h1 _ ⟨a, rfl, by
  cases a with
  | true => exact iteT (h2 rfl _ q)
  | false => exact iteF q⟩
theorem val_orV (h1 : Val ta σ H (.bl a)) (h2 : a = false → Val tb σ H (.bl b)) : Val (tOrV ta tb) σ H (.bl (a || b)) := fun Q q => h1 _ ⟨a, rfl, by
  cases a with
  | true => exact iteT q
  | false => exact iteF (h2 rfl _ q)⟩
theorem val_is {v w : V} (h : Val te σ H v) (e : v = w) : Val te σ H w := e ▸ h
theorem rd_val {v : V} (h : Val te σ H v) (q : Q v H) : te σ H Q := h Q q
end

theorem rd_idS {t u : TS} {D : Ends} {σ : L2.St} {H : Hp} (h : tSeq t u D σ H) : tSeq t u D σ H := h
theorem rd_idI {c : TT} {t u : TS} {D : Ends} {σ : L2.St} {H : Hp} (h : tIfS c t u D σ H) : tIfS c t u D σ H := h
end AT

set_option Elab.async false
set_option linter.all false
set_option maxRecDepth 100000
set_option maxHeartbeats 4000000
/-! own words, second part: objects that are made and asked where something may be raised; data; tuples -/
namespace AT
open PySem PySem.Spec L2
section
variable {X : Cx} {Cx1 : CXT} {n : Nat} {fa Ca : Addr} {fn : FuncData} {pr : List Str} {pm : Sp} {W : WX} {nm mt : Str} {q1 q2 q3 : Pos} {o a0 : Expr} {as : List Expr} {to : TE} {ta : TA}
/-- C(..) whose __init__ may raise -/
def tMakeR (C : Addr) (sp : Sp) (W : WX) (t : TA) : TE := fun σ H Q => t σ H fun vs H1 => ∀ x dx, H1 x = none → H1 dx = none → dx ≠ x → sp (.ref x :: vs) (upd (upd H1 dx (.own x)) x (.ins C dx [])) (fun v H2 => v = .non ∧ Q (.ref x) H2) fun c d H2 => W c d σ H2
theorem pe_makeR (M : Mk X.K Ca fa) (G : FnOk X.prog X.w X.K X.mg X.base (L2.CX X.prog X.w) n fa fn pr pm) (hr : Room (n + 1) X.A) (hm : X.mg nm = some (.ref Ca)) (hb : Binds X.K fn pr []) (tk : Takes X W) (ha : PA X (a0 :: as) ta) (hg : Gl X nm := by rfl)
    (hdb : (nm == ("__debug__" : Str)) = false := by decide) (he : starEach (a0 :: as) X.env = (false, eval a0 X.env) :: starEach as X.env := by rfl) (hpl : (backTo q2 (starEach as X.env)).any (·.1) = false := by rfl) :
    PE X (.Call (.Name nm q1) (a0 :: as) [] q2) (tMakeR Ca pm W ta) := by
  refine ⟨fun P s σ H Q I h => wpAny_Call_Name_kw (ld_glob I hg hm ?_ hdb)⟩
  refine PySem.W.callWith_K (h₀ := X.base) I.ok.mod.kin M.kp (thn (ha.run q2 P s σ H _ I h) fun us t ⟨vs, H1, J, rv, q⟩ => ⟨J.kIn, ?_⟩) he hpl
  have fresh1 := J.hok.fresh (Nat.le_succ t.heap.objs.size)
  have fresh0 := J.hok.fresh (Nat.le_refl t.heap.objs.size)
  have asked := q _ _ fresh1 fresh0 (Nat.ne_of_lt (Nat.lt_succ_self _))
  have J2 := Inv.made (C := Ca) J
  have rel : Vals (V.ref (t.heap.objs.size + 1) :: vs) (Value.ref (t.heap.objs.size + 1) :: us) := .cons rfl rv
  have len : (Value.ref (t.heap.objs.size + 1) :: us ++ []).length = pr.length := by
    rw [List.append_nil, ← rel.length]
    exact G.len _ _ _ _ asked
  have bind := hb _ (Value.ref (t.heap.objs.size + 1) :: us) J2.kIn len
  rw [List.append_nil] at bind
  have ran := G.run _ X.stack _ _ ⟨Value.ref (t.heap.objs.size + 1) :: us, []⟩ _ _ _ (fun c d H2 => W c d σ H2) (hr.make Ca us []) (J2.env0.make Ca us []) bind rel asked
  refine wpAny_call (make_map (f := fa) J.kIn M.makes M.init (beq_iff_eq.mp M.fn) (codeAny_mono ran fun res z hz => ?_))
  cases res with
  | error er => exact passAt tk σ _ _ _ _ _ J2 hz
  | ok fl =>
    cases fl with
    | ret u =>
      have back := J2.after hz
      obtain ⟨v, H3, J3, r3, e3, q3⟩ := back
      subst e3
      exact ⟨r3, .ref (t.heap.objs.size + 1), H3, J3, rfl, q3⟩
    | next => exact hz.elim
    | brk => exact hz.elim
    | cont => exact hz.elim
/-- o.m(..) whose m may raise -/
def tMethR (C : Addr) (m : Str) (sp : Sp) (W : WX) (to : TE) (t : TA) : TE := fun σ H Q => to σ H fun x H1 => ∃ a dx fs, x = .ref a ∧ H1 a = some (.ins C dx fs) ∧ fs.lookup m = none ∧ t σ H1 fun vs H2 => sp (x :: vs) H2 Q fun c d H3 => W c d σ H3
theorem pe_methRs {pl : Sem Bool} (hmt : Meth X.K Ca mt fa) (cl : Cls X.K Ca) (ho : PE X o to) (G : FnOk X.prog X.w X.K X.mg X.base (L2.CX X.prog X.w) n fa fn pr pm) (hr : Room n X.A) (hb : Binds X.K fn pr []) (tk : Takes X W) (ha : PA X (a0 :: as) ta)
    (hst : starEach (a0 :: as) X.env = (false, eval a0 X.env) :: starEach as X.env := by rfl) (hpl : (backTo q2 (starEach as X.env)).any (·.1) = false := by rfl)
    (ht : eval (.Call (.Attribute o mt q3) (a0 :: as) [] q2) X.env = (do
      let r ← eval o X.env
      standAt q3.atName
      let (g, more) ← holding [r] (getMethod r mt pl)
      callWith q2 g more (backTo q2 (starEach (a0 :: as) X.env)) (backToKw q2 (keywordEach [] X.env))) := by rfl) : PE X (.Call (.Attribute o mt q3) (a0 :: as) [] q2) (tMethR Ca mt pm W to ta) := by
  refine ⟨fun P s σ H Q I h => PySem.W.methodCall_KW (pl := pl) (thn (ho.run P s σ H _ I h) fun u t ⟨x, H1, J, rx, a, dx, fs, ex, ea, nl, q⟩ => ?_) ht⟩
  subst ex
  obtain rfl : u = Value.ref a := rx
  refine getmeth_ok J ea cl hmt nl (PySem.W.callWith_K (first := [.ref a]) (h₀ := X.base) J.ok.mod.kin hmt.kp (thn (ha.run q2 P t σ H1 _ J q) fun us t2 ⟨vs, H2, J2, rv, z⟩ => ⟨J2.kIn, ?_⟩) hst hpl)
  exact run_fnS (us := .ref a :: us) (vs := .ref a :: vs) (E := WE W) G hr hb (passAt tk σ) J2 (.cons rfl rv) z
theorem pe_methR0 {pl : Sem Bool} (hmt : Meth X.K Ca mt fa) (cl : Cls X.K Ca) (ho : PE X o to) (G : FnOk X.prog X.w X.K X.mg X.base (L2.CX X.prog X.w) n fa fn pr pm) (hr : Room n X.A) (hb : Binds X.K fn pr []) (tk : Takes X W)
    (ht : eval (.Call (.Attribute o mt q3) [] [] q2) X.env = (do
      let r ← eval o X.env
      standAt q3.atName
      let (g, more) ← holding [r] (getMethod r mt pl)
      callWith q2 g more (backTo q2 (starEach [] X.env)) (backToKw q2 (keywordEach [] X.env))) := by rfl) : PE X (.Call (.Attribute o mt q3) [] [] q2) (tMethR Ca mt pm W to tNil) := by
  refine ⟨fun P s σ H Q I h => PySem.W.methodCall_KW (pl := pl) (thn (ho.run P s σ H _ I h) fun u t ⟨x, H1, J, rx, a, dx, fs, ex, ea, nl, q⟩ => ?_) ht⟩
  subst ex
  obtain rfl : u = Value.ref a := rx
  refine getmeth_ok J ea cl hmt nl ?_
  exact PySem.W.callWith_K0 (first := [.ref a]) J.kIn hmt.kp (run_fnS (us := [.ref a]) (vs := [.ref a]) (E := WE W) G hr hb (passAt tk σ) J (.cons rfl .nil) q)
end

/-! ### the place of a sign in a text -/
section
open PySem.Builtin.Str PySem.StrLaws
theorem first_sign (x : Str) (c : Nat) (h : c ∈ x.cps.toList) : ∃ rest, occurrences x ⟨#[c]⟩ 0 x.length 1 = x.cps.toList.idxOf c :: rest := by
  have key := occ_first x ⟨#[c]⟩ x.length 1 (Nat.le_refl 1) (List.range' 0 (x.length + 1 - 0)) 0 fun _ _ => Nat.zero_le _
  rw [occ_eq]
  have sub := fun k => subAt_one x c k
  rcases key with ⟨_, hn⟩ | ⟨pre, i, post, e, h0, hi, hn⟩
  · obtain ⟨j, hj⟩ := List.getElem?_of_mem h
    have hlt : j < x.length := (List.getElem?_eq_some_iff.mp hj).1
    exact absurd ((sub j).mpr hj) (hn j (List.mem_range'.mpr ⟨j, by omega, by omega⟩))
  · have hx := (sub i).mp hi
    have before : ∀ k, k < i → x.cps.toList[k]? ≠ some c := fun k hk q => hn k (range'_split e k hk) ((sub k).mpr q)
    obtain ⟨hl, hv⟩ := List.getElem?_eq_some_iff.mp hx
    have e2 : x.cps.toList.idxOf c = i := by
      have hlt : x.cps.toList.idxOf c < x.cps.toList.length := List.idxOf_lt_length_iff.mpr h
      have hget : x.cps.toList[x.cps.toList.idxOf c] = c := List.getElem_idxOf hlt
      rcases Nat.lt_trichotomy (x.cps.toList.idxOf c) i with z | z | z
      · exact absurd (List.getElem?_eq_some_iff.mpr ⟨hlt, hget⟩) (before _ z)
      · exact z
      · exact absurd hv (by
          have := List.not_of_lt_findIdx (p := (· == c)) (xs := x.cps.toList) z
          simpa using this)
    rw [e2]
    generalize hg : (forIn (List.range' 0 (x.length + 1 - 0)) ((#[] : Array Nat), 0) (occBody x ⟨#[c]⟩ x.length 1)).run.fst = arr at h0
    cases hl : arr.toList with
    | nil =>
      rw [← Array.getElem?_toList, hl] at h0
      cases h0
    | cons a r =>
      rw [← Array.getElem?_toList, hl] at h0
      exact ⟨r, by rw [Option.some.inj (show some a = some i from h0)]⟩
end
def mIdx : V → List V → Hp → VK → Prop := fun x xs H Q => ∃ (a : Str) (c : Nat), x = .str a ∧ xs = [.str ⟨#[c]⟩] ∧ c ∈ a.cps.toList ∧ Q (.int (a.cps.toList.idxOf c : Nat)) H
section
variable {X : Cx}
theorem mt_strIdx : MtR X "str.index" mIdx := by
  intro P s σ H x xs v us Q I rx rs h
  obtain ⟨a, c, ex, es, hc, q⟩ := h
  obtain ⟨rest, e⟩ := first_sign a c hc
  exact mt_sindex P s σ H x xs v us Q I rx rs ⟨a, _, _, rest, ex, es, e, q⟩
/-! ### the least and the greatest of a tuple of ints -/
theorem reads_ints {hp : Heap} : ∀ {ns : List Int} {us : List Value}, Vals (ns.map V.int) us → ReadsAll hp us (ns.map PyData.int) []
  | [], _, r => by cases r; exact .nil
  | n :: ns, _, r => by
    cases r with
    | cons r1 r2 =>
      obtain ⟨t, rfl⟩ := r1
      exact ReadsAll.cons (as := []) (bs := []) (.int n t) (reads_ints r2)
theorem alike_ints (ns : List Int) : PySem.W.AlikeAll (ns.map PyData.int) := ⟨fun x hx y hy => by
  obtain ⟨a, _, rfl⟩ := List.mem_map.mp hx
  obtain ⟨b, _, rfl⟩ := List.mem_map.mp hy
  rfl, fun x hx => by
  obtain ⟨a, _, rfl⟩ := List.mem_map.mp hx
  exact fun z => by cases z⟩
theorem depth_ints : ∀ ns : List Int, PyData.depthAll (ns.map PyData.int) = 0
  | [] => rfl
  | n :: ns => by
    show max 0 (PyData.depthAll (ns.map PyData.int)) = 0
    rw [depth_ints ns]
    rfl
/-- min(t), max(t): t a tuple of ints, not empty -/
def cMinT (K : PySem.W.Frag) : List V → Hp → VK → Prop := fun vs H Q => ∃ (a : Addr) (n : Int) (ns : List Int), vs = [.ref a] ∧ SqT K H a ((n :: ns).map V.int) ∧ Q (.int (ns.foldl min n)) H
def cMaxT (K : PySem.W.Frag) : List V → Hp → VK → Prop := fun vs H Q => ∃ (a : Addr) (n : Int) (ns : List Int), vs = [.ref a] ∧ SqT K H a ((n :: ns).map V.int) ∧ Q (.int (ns.foldl max n)) H
theorem call_minT (hc : X.calm = true) (hu : X.A.units + 64 < cLine) : CallR X (.builtin "min") (cMinT X.K) := by
  intro P s σ H vs us Q I r h
  obtain ⟨a, n, ns, rfl, ht, q⟩ := h
  obtain ⟨u, rfl, ru⟩ := vals1 r
  cases (show u = Value.ref a from ru)
  obtain ⟨its, rv, pl, _⟩ := I.tuple ht
  refine PySem.W.min_tuple_data (x := .int n) (xs := ns.map .int) (I.ok.hd hc) pl (reads_ints (ns := n :: ns) rv) (alike_ints (n :: ns)) (by
    have e := depth_ints (n :: ns)
    rw [List.map_cons] at e
    rw [e]
    omega) fun i v h' tk bs hv hr hk => ?_
  rw [PySem.W.minD_ints] at hr
  cases hr with
  | int _ t => exact ⟨.int _, H, I.kept hk, ⟨t, rfl⟩, q⟩
theorem call_maxT (hc : X.calm = true) (hu : X.A.units + 64 < cLine) : CallR X (.builtin "max") (cMaxT X.K) := by
  intro P s σ H vs us Q I r h
  obtain ⟨a, n, ns, rfl, ht, q⟩ := h
  obtain ⟨u, rfl, ru⟩ := vals1 r
  cases (show u = Value.ref a from ru)
  obtain ⟨its, rv, pl, _⟩ := I.tuple ht
  refine PySem.W.max_tuple_data (x := .int n) (xs := ns.map .int) (I.ok.hd hc) pl (reads_ints (ns := n :: ns) rv) (alike_ints (n :: ns)) (by
    have e := depth_ints (n :: ns)
    rw [List.map_cons] at e
    rw [e]
    omega) fun i v h' tk bs hv hr hk => ?_
  rw [PySem.W.maxD_ints] at hr
  cases hr with
  | int _ t => exact ⟨.int _, H, I.kept hk, ⟨t, rfl⟩, q⟩
end

section
variable {X : Cx} (K : PySem.W.Frag) (hK : X.K = K := by rfl)
include hK
theorem kMin (hu : X.A.units + 64 < cLine) (hc : X.calm = true := by rfl) : CallR X (.builtin "min") (cMinT K) := hK ▸ call_minT hc hu
theorem kMax (hu : X.A.units + 64 < cLine) (hc : X.calm = true := by rfl) : CallR X (.builtin "max") (cMaxT K) := hK ▸ call_maxT hc hu
theorem kFld {o : Expr} {f : Str} {p : Pos} {te : TE} (h : PE X (.Attribute o f p) (tFld X.K te f)) : PE X (.Attribute o f p) (tFld K te f) := hK ▸ h
theorem kBm {e : Expr} {T : String} {r : V → List V → Hp → VK → Prop} {to : TE} {t : TA} (h : PE X e (tBM X.K T r to t)) : PE X e (tBM K T r to t) := hK ▸ h
theorem kBm0 {e : Expr} {T : String} {r : V → List V → Hp → VK → Prop} {to : TE} (h : PE X e (tBM0 X.K T r to)) : PE X e (tBM0 K T r to) := hK ▸ h
def cTupOf (K : PySem.W.Frag) : List V → Hp → VK → Prop := fun xs H Q => ∃ p ys, xs = [.ref p] ∧ ((SqL K H p ys ∧ ∀ l, H l = none → Q (.ref l) (upd H l (.tup ys))) ∨ (SqT K H p ys ∧ Q (.ref p) H))
def cLstOf (K : PySem.W.Frag) : List V → Hp → VK → Prop := fun xs H Q => ∃ p ys, xs = [.ref p] ∧ (SqL K H p ys ∨ SqT K H p ys) ∧ ∀ l, H l = none → Q (.ref l) (upd H l (.lst ys))
def mJoin (K : PySem.W.Frag) : V → List V → Hp → VK → Prop := fun x xs H Q => ∃ a p, ∃ ys : List Str, x = .str a ∧ xs = [.ref p] ∧ (SqL K H p (ys.map V.str) ∨ SqT K H p (ys.map V.str)) ∧ (ys.map (·.length)).sum + ys.length * a.length ≤ 16777216 ∧ Q (.str (Txt.join a ys)) H
theorem kTupOf : CallR X (.type "tuple") (cTupOf K) := hK ▸ call_tuple_of
theorem kLstOf : CallR X (.type "list") (cLstOf K) := hK ▸ call_list_of
theorem kJoin : MtR X "str.join" (mJoin K) := hK ▸ mt_join
end
/-! ### a text, several times -/
def oMulP : R2 := fun x y H Q => oMul x y H Q ∨ ∃ (z : Str) (n : Int), x = .str z ∧ y = .int n ∧ MulOk z n ∧ Q (.str (Txt.mul z n)) H
theorem op_mulS {X : Cx} : OpR X (binaryOp .Mult) (fun x y H Q => ∃ (z : Str) (n : Int), x = .str z ∧ y = .int n ∧ MulOk z n ∧ Q (.str (Txt.mul z n)) H) := by
  intro P s σ H x y v u Q I rx ry h
  obtain ⟨z, n, rfl, rfl, ok, q⟩ := h
  obtain ⟨t, rfl⟩ := rx
  obtain ⟨t2, rfl⟩ := ry
  exact PySem.SB.mul ok fun t' k => ⟨.str _, H, I.tok _, ⟨t', rfl⟩, q⟩
theorem op_mulPP {X : Cx} : OpR X (binaryOp .Mult) oMulP := OpR.or op_mulP op_mulS
section
variable {K : PySem.W.Frag} {σ : L2.St} {H : Hp} {Q : VK} {D : Ends} {te tv : TE} {f : Str} {a C dx : Addr} {fs : List (Str × V)} {v : V} {t : TA} {sp : Sp} {W : WX}
theorem rd_fld (h : te σ H fun x H1 => ∃ a C dx fs v, x = .ref a ∧ H1 a = some (.ins C dx fs) ∧ Cls K C ∧ NoAttr K C f ∧ fs.lookup f = some v ∧ Q v H1) : tFld K te f σ H Q := h
theorem rd_fldv {P : Addr → Prop} : True := True.intro
theorem rd_mulN {x y : Int} (c : CMul x y) (h : Q (.int (x * y)) H) : oMulP (.int x) (.int y) H Q := .inl ⟨x, y, rfl, rfl, c, h⟩
theorem rd_mulT {z : Str} {n : Int} (c : MulOk z n) (h : Q (.str (Txt.mul z n)) H) : oMulP (.str z) (.int n) H Q := .inr ⟨z, n, rfl, rfl, c, h⟩
theorem rd_tupL {p : Addr} {ys : List V} (e : SqL K H p ys) (h : ∀ l, H l = none → Q (.ref l) (upd H l (.tup ys))) : cTupOf K [.ref p] H Q := ⟨p, ys, rfl, .inl ⟨e, h⟩⟩
theorem rd_tupT {p : Addr} {ys : List V} (e : SqT K H p ys) (h : Q (.ref p) H) : cTupOf K [.ref p] H Q := ⟨p, ys, rfl, .inr ⟨e, h⟩⟩
theorem rd_lstL {p : Addr} {ys : List V} (e : SqL K H p ys ∨ SqT K H p ys) (h : ∀ l, H l = none → Q (.ref l) (upd H l (.lst ys))) : cLstOf K [.ref p] H Q := ⟨p, ys, rfl, e, h⟩
theorem rd_idx {z : Str} {c : Nat} (hc : c ∈ z.cps.toList) (h : Q (.int (z.cps.toList.idxOf c : Nat)) H) : mIdx (.str z) [.str ⟨#[c]⟩] H Q := ⟨z, c, rfl, rfl, hc, h⟩
end

/-! ### comprehensions whose parts change the heap: P of the new list's place, the turn, what is in it, the heap -/
theorem lc_gen {J : It} {n j : Nat} {G : Hp → Prop} {Y : Nat → Hp → V → Hp → Prop} {xs : Nat → V} {σ : L2.St} {H : Hp} {Q : VK} {te : TE} (P : Addr → Nat → List V → Hp → Prop) (w : Walk J n G Y) (hY : ∀ i H x H', i < n → Y i H x H' → H' = H ∧ x = xs i) (hn : n < 100000)
    (h0 : ∀ L, H L = none → P L 0 [] (upd H L (.lst []))) (hG : ∀ L i vs Hc, H L = none → P L i vs Hc → G Hc)
    (he : ∀ L i vs Hc, i < n → H L = none → Hc L = some (.lst vs) → vs.length = i → P L i vs Hc → ∀ N : VK, (∀ v H2, H2 L = some (.lst vs) → P L (i + 1) (vs ++ [v]) (upd H2 L (.lst (vs ++ [v]))) → N v H2) → te ((wipe σ [j]).set j (some (xs i))) Hc N)
    (h : ∀ L vs Hc, H L = none → Hc L = some (.lst vs) → vs.length = n → P L n vs Hc → Q (.ref L) Hc) : lcB (gName j) tYes te [j] σ Q J H := by
  intro L hL
  refine lc_it w (fun i Hc => ∃ vs, Hc L = some (.lst vs) ∧ vs.length = i ∧ P L i vs Hc) ⟨[], upd_same, rfl, h0 L hL⟩ (fun i Hc _ p => ?_) (fun i x Hc H' hi p y => ?_) fun Hc p => ?_
  · obtain ⟨vs, _, _, p⟩ := p
    exact hG L i vs Hc hL p
  · obtain ⟨vs, h1, h2, p⟩ := p
    obtain ⟨rfl, rfl⟩ := hY _ _ _ _ hi y
    refine ⟨by simp [wipe], rd_yes ?_⟩
    refine rd_iteT ?_
    refine he L i vs _ hi hL h1 h2 p _ fun v H2 z1 z2 => ?_
    exact ⟨vs, z1, Nat.lt_of_lt_of_le (by rw [h2]; omega : vs.length < 100000) (by decide), vs ++ [v], upd_same, by rw [List.length_append, h2]; rfl, z2⟩
  · obtain ⟨vs, h1, h2, p⟩ := p
    exact h L vs Hc hL h1 h2 p
/-- the heap but for one place -/
def hide (L : Addr) (H : Hp) : Hp := fun b => if b = L then none else H b
theorem hide_ne {L b : Addr} {H : Hp} (h : b ≠ L) : hide L H b = H b := if_neg h
theorem hide_ex {L : Addr} {H : Hp} : Ex (hide L H) H := fun b o e => by
  by_cases h : b = L
  · rw [h] at e
    have z : hide L H L = none := if_pos rfl
    rw [z] at e
    cases e
  · rw [hide_ne h] at e
    exact e
theorem hide_mono {L : Addr} {H H' : Hp} (k : ∀ b o, b ≠ L → H b = some o → H' b = some o) : Ex (hide L H) (hide L H') := fun b o e => by
  by_cases h : b = L
  · rw [h] at e
    have z : hide L H L = none := if_pos rfl
    rw [z] at e
    cases e
  · rw [hide_ne h] at e ⊢
    exact k b o h e
theorem ex_hide {L : Addr} {H H' : Hp} (hL : H L = none) (e : Ex H H') : Ex H (hide L H') := fun b o q => by
  rw [hide_ne (ne_of_none q hL)]
  exact e b o q
/-- each value is new or stood before: R of the turn, the value and the heap without the new list -/
theorem lc_new {J : It} {n j : Nat} {G : Hp → Prop} {Y : Nat → Hp → V → Hp → Prop} {xs : Nat → V} {σ : L2.St} {H : Hp} {Q : VK} {te : TE} (R : Nat → V → Hp → Prop) (w : Walk J n G Y) (hY : ∀ i H x H', i < n → Y i H x H' → H' = H ∧ x = xs i) (hn : n < 100000)
    (hG : ∀ Hc, Ex H Hc → G Hc) (mR : ∀ i v H1 H2, Ex H1 H2 → R i v H1 → R i v H2)
    (he : ∀ L i Hc, i < n → H L = none → (∃ vs, Hc L = some (.lst vs)) → Ex H Hc → ∀ N : VK, (∀ v H2, Ex Hc H2 → R i v (hide L H2) → N v H2) → te ((wipe σ [j]).set j (some (xs i))) Hc N)
    (h : ∀ L vs Hc, H L = none → Ex H Hc → Hc L = some (.lst vs) → vs.length = n → (∀ i v, vs[i]? = some v → R i v (hide L Hc)) → Q (.ref L) Hc) : lcB (gName j) tYes te [j] σ Q J H := by
  refine lc_gen (fun L i vs Hc => Ex H Hc ∧ ∀ i v, vs[i]? = some v → R i v (hide L Hc)) w hY hn (fun L hL => ⟨Evl.Ex.new hL, fun i v z => by cases z⟩) (fun L i vs Hc _ p => hG Hc p.1) (fun L i vs Hc hi hL h1 h2 p N hN => ?_) (fun L vs Hc hL h1 h2 p => h L vs Hc hL p.1 h1 h2 p.2)
  refine he L i Hc hi hL ⟨vs, h1⟩ p.1 N fun v H2 e2 r2 => hN v H2 (e2 L _ h1) ?_
  have kp : Ex (hide L H2) (hide L (upd H2 L (.lst (vs ++ [v])))) := hide_mono fun b o hb q => by rw [upd_ne hb]; exact q
  have kp0 : Ex (hide L Hc) (hide L H2) := hide_mono fun b o _ q => e2 b o q
  refine ⟨Evl.Ex.mut (p.1.trans e2) hL, fun i' v' hv => ?_⟩
  by_cases hlt : i' < vs.length
  · rw [List.getElem?_append_left hlt] at hv
    exact mR _ _ _ _ (kp0.trans kp) (p.2 i' v' hv)
  · rw [List.getElem?_append_right (by omega)] at hv
    have e0 : i' - vs.length = 0 := by
      rcases Nat.eq_zero_or_pos (i' - vs.length) with z | z
      · exact z
      · rw [List.getElem?_eq_none (by simp; omega)] at hv
        cases hv
    rw [e0] at hv
    obtain rfl : v = v' := Option.some.inj hv
    have e3 : i' = i := by omega
    rw [e3]
    exact mR _ _ _ _ kp r2

theorem rd_sfld {K : PySem.W.Frag} {ta tv : TE} {f : Str} {D : Ends} {σ : L2.St} {H : Hp} (h : tv σ H fun y H1 => ta σ H1 fun x H2 => ∃ a C dx fs, x = .ref a ∧ H2 a = some (.ins C dx fs) ∧ Cls K C ∧ NoAttr K C f ∧ fs.length < 1000 ∧ D.nx σ (upd H2 a (.ins C dx (putF f y fs)))) : sFld K ta tv f D σ H := h
theorem kSf {X : Cx} (K : PySem.W.Frag) (hK : X.K = K := by rfl) {st : Stmt} {ta tv : TE} {f : Str} (h : PS X st (sFld X.K ta tv f)) : PS X st (sFld K ta tv f) := hK ▸ h

section
variable {K : PySem.W.Frag} {σ : L2.St} {H : Hp} {Q : VK} {te to : TE} {t : TA} {C : Addr} {m f : Str} {sp : Sp} {W : WX} {dvs : List V} {E : XK}
theorem rd_makeR (h : t σ H fun vs H1 => ∀ x dx, H1 x = none → H1 dx = none → dx ≠ x → sp (.ref x :: vs) (upd (upd H1 dx (.own x)) x (.ins C dx [])) (fun v H2 => v = .non ∧ Q (.ref x) H2) fun c d H2 => W c d σ H2) : tMakeR C sp W t σ H Q := h
theorem rd_methR (h : to σ H fun x H1 => ∃ a dx fs, x = .ref a ∧ H1 a = some (.ins C dx fs) ∧ fs.lookup m = none ∧ t σ H1 fun vs H2 => sp (x :: vs) H2 Q fun c d H3 => W c d σ H3) : tMethR C m sp W to t σ H Q := h
theorem rd_meth (h : to σ H fun x H1 => ∃ a dx fs, x = .ref a ∧ H1 a = some (.ins C dx fs) ∧ fs.lookup m = none ∧ t σ H1 fun vs H2 => sp (x :: (vs ++ dvs)) H2 Q E) : tMeth C m sp dvs E to t σ H Q := h
theorem rd_notV (h : te σ H fun x H1 => ∃ c, x = .bl c ∧ Q (.bl (!c)) H1) : tNotV te σ H Q := h
theorem rd_xf {a : Addr} {cls : Value} {d : Option Addr} {C : Addr} {f : Str} (h : te σ H fun x H1 => x = .ref a ∧ cls = .ref C ∧ ∃ (dd : Addr) (fs : List (Str × V)) (v : V), d = some dd ∧ H1 dd = some (.xd fs) ∧ fs.lookup f = some v ∧ Q v H1) : tXf a cls d C f te σ H Q := h
end
/-! ### more on comprehensions, numbers, texts -/
theorem look_map {f : NameKind → Bool} : ∀ (l : List (Str × NameKind)) (y : Str), (l.lookup y = some .cell ∨ l.lookup y = some .free) → ∀ g : Str × NameKind → Str × NameKind, (∀ n k, g (n, k) = (n, k) ∨ (k = .free ∧ g (n, k) = (n, .cell))) → ((l.map g).lookup y = some .cell ∨ (l.map g).lookup y = some .free)
  | [], _, h, _, _ => by rcases h with h | h <;> cases h
  | (n, k) :: l, y, h, g, hg => by
    rw [List.map_cons]
    rw [List.lookup_cons] at h
    cases e : y == n with
    | true =>
      rw [e] at h
      rcases hg n k with z | ⟨z1, z2⟩
      · rw [z, List.lookup_cons, e]; exact h
      · rw [z2, List.lookup_cons, e]; exact .inl rfl
    | false =>
      rw [e] at h
      have ih := look_map (f := f) l y h g hg
      rcases hg n k with z | ⟨z1, z2⟩
      · rw [z, List.lookup_cons, e]; exact ih
      · rw [z2, List.lookup_cons, e]; exact ih
theorem blkOk_in {X : Cx} {N : List Str} (hN : X.N = N) {s : Shared} {H : Hp} {sc0 scope : Scope} {C : Addr} {cl : List (Str × Addr)} {fp : List Addr} {own : List (Str × Nat)} (h : blkC N sc0 scope own = true) :
    BlkOk (X.blk s H sc0 (compEnvC sc0 cl C X.env) fp).N (X.blk s H sc0 (compEnvC sc0 cl C X.env) fp).env.scope scope own := by
  subst hN
  have b := blkOk_by h
  refine ⟨b.kind, b.uniq, b.ix, fun y hy hf => ?_, b.own⟩
  refine look_map (f := fun _ => true) _ _ (b.free y hy hf) _ fun n k => ?_
  by_cases c : (k == NameKind.free && X.env.scope.kind == ScopeKind.function && X.env.kindOf n == some NameKind.cell) = true
  · right
    refine ⟨?_, if_pos c⟩
    have c1 : (k == NameKind.free) = true := by
      rw [Bool.and_eq_true, Bool.and_eq_true] at c
      exact c.1.1
    cases k <;> first | rfl | cases c1
  · left
    exact if_neg c
theorem given_range (v : Nat → V) : ∀ n, Evl.given n (fun _ => true) v = (List.range n).map v
  | 0 => rfl
  | n + 1 => by rw [Evl.given_yes rfl, given_range v n, List.range_succ, List.map_append]; rfl
/-- a comprehension whose parts leave the heap, without a test -/
theorem lc_map {J : It} {n j : Nat} {G : Hp → Prop} {Y : Nat → Hp → V → Hp → Prop} {xs v : Nat → V} {σ : L2.St} {H : Hp} {Q : VK} {te : TE} (w : Walk J n G Y) (hY : ∀ i H x H', i < n → Y i H x H' → H' = H ∧ x = xs i) (hG : ∀ Hc, Ex H Hc → G Hc) (hn : n < 100000)
    (he : ∀ i Hc, i < n → Ex H Hc → Val te ((wipe σ [j]).set j (some (xs i))) Hc (v i))
    (h : ∀ L, H L = none → Q (.ref L) (upd H L (.lst ((List.range n).map v)))) : lcB (gName j) tYes te [j] σ Q J H := by
  refine lc_pure (f := fun _ => true) w hY hG hn (fun _ _ _ _ => ans_yes) (fun i Hc hi e _ => he i Hc hi e) fun L hL => ?_
  rw [given_range]
  exact h L hL
theorem walk_range0 {n : Nat} : Walk (Itr 0 n) n (fun _ => True) fun i H x H' => H' = H ∧ x = V.int (i : Nat) := by
  obtain ⟨a, b, c⟩ := walk_range (lo := 0) (n := n)
  refine ⟨a, b, fun i H x H' hi g y => ?_⟩
  have := c i H x H' hi g y
  refine ⟨this.1, ?_⟩
  rw [this.2]
  show V.int (0 + (i : Int)) = _
  rw [Int.zero_add]
theorem fmod_nat (a m : Nat) : Int.fmod (a : Int) (m : Int) = ((a % m : Nat) : Int) := by
  rw [Int.fmod_eq_emod_of_nonneg _ (Int.natCast_nonneg m)]
  rfl
theorem fold_app (c : Nat) : ∀ (k : Nat) (a : Array Nat), (List.foldl (fun x y => x ++ y) a (List.replicate k #[c])).toList = a.toList ++ List.replicate k c
  | 0, a => by simp
  | k + 1, a => by
    rw [List.replicate_succ, List.foldl_cons, fold_app c k, List.replicate_succ]
    simp
theorem mul_sign (c : Nat) (n : Int) (h : 0 < n) : (Txt.mul ⟨#[c]⟩ n).cps.toList = List.replicate n.toNat c := by
  unfold Txt.mul
  rw [if_neg (by omega)]
  by_cases e : n = 1
  · subst e; rfl
  · have hb : (n == 1 || (⟨#[c]⟩ : Str).length == 0) = false := by
      have : (⟨#[c]⟩ : Str).length = 1 := rfl
      simp [e, this]
    rw [if_neg (by rw [hb]; decide)]
    show (List.foldl (fun x y => x ++ y) #[] (List.replicate n.toNat #[c])).toList = _
    rw [fold_app]
    rfl
theorem ixN_nat {n j : Nat} (h : j < n) : ixN n (j : Int) = some j := by
  unfold ixN
  rw [if_pos (Int.natCast_nonneg j), if_pos (by omega), Int.toNat_natCast]
theorem seqIndex_nat {n j : Nat} (h : j < n) : seqIndex? (j : Int) n = some j := by
  unfold seqIndex?
  have h0 : ¬ (j : Int) < 0 := by omega
  simp only [h0, if_false]
  rw [if_pos (by simp; omega), Int.toNat_natCast]
theorem erase_map {α β : Type} (f : α → β) : ∀ (l : List α) (j : Nat), (l.map f).eraseIdx j = (l.eraseIdx j).map f
  | [], _ => rfl
  | _ :: _, 0 => rfl
  | a :: l, j + 1 => by
    show f a :: (l.map f).eraseIdx j = f a :: (l.eraseIdx j).map f
    rw [erase_map f l j]
theorem mulOk_sign (c : Nat) {n : Int} (h0 : 0 < n) (h1 : n < 100000) : MulOk ⟨#[c]⟩ n := by
  have e : (⟨#[c]⟩ : Str).length = 1 := rfl
  refine ⟨by simp; omega, fun _ _ => ?_, fun _ _ => ?_⟩
  · rw [e]
    intro hh
    have : ((2:Int) ^ 63 - 1) / n ≥ 1 := by
      refine Int.le_ediv_of_mul_le h0 ?_
      omega
    omega
  · rw [e]
    unfold Builtin.Str.tooLong
    have : sizeLine ≥ 100000 := by decide
    exact decide_eq_false (by omega)
theorem first_at {l : List Nat} {c : Nat} {r : List Nat} (h : l = c :: r) : l.idxOf c = 0 := by
  rw [h]
  exact List.idxOf_cons_self
theorem atI_last {α : Type} {l : List α} (h : 0 < l.length) : atI l (-1) = some (l[l.length - 1]'(by omega)) := by
  have e : ixN l.length (-1) = some (l.length - 1) := by
    unfold ixN
    rw [if_neg (by decide), if_pos (by omega)]
    congr 1
    omega
  show (ixN l.length (-1)).bind (fun j => l[j]?) = _
  rw [e]
  exact List.getElem?_eq_getElem _
end AT

set_option Elab.async false
set_option linter.all false
set_option maxRecDepth 100000
set_option maxHeartbeats 4000000
/-! own words, third part: a law's own def, run where nothing is being shown; the repr of data -/
namespace AT
open PySem PySem.Spec L2
/-- as FnOk, but only where no repr is under way -/
structure FnG (P : Program) (w : World) (K : PySem.W.Frag) (mg : Str → Option Value) (base : Heap) (CX : CXT) (k : Nat) (f : Addr) (fd : FuncData) (ps : List Str) (sp : Sp) : Prop where
  len : ∀ vs H Q E, sp vs H Q E → vs.length = ps.length
  run : ∀ (A : Around) (outer : List Env) (s : Shared) (H : Hp) (args : Args) (us : List Value) (vs : List V) (Q : VK) (E : XK), A.guards = some [] → Room k A → Env0 P w K mg base A outer s H → BindsTo s fd args (ps.zip us) → Vals vs us → sp vs H Q E →
    codeAny (model P w) A (.call (.ref f) args) (CR CX outer P w H s Q E) s
theorem fn_ofG {CX : CXT} {P : Program} {w : World} {K : PySem.W.Frag} {mg : Str → Option Value} {base : Heap} {k : Nat} {f : Addr} {name qual : Str} {params : Arguments} {body : List Stmt} {scope : Scope} {dV kV doc pm cdv ct oc : Value} {an od : Option Addr} {osl : Array (Option Value)} {N ps : List Str} {sp : Sp}
    (lk : List.lookup f K = some { cls := oc, dict := od, data := Data.func (PySem.W.fnOf name qual params body scope dV kV doc pm an cdv ct), slots := osl }) (hcd : PySem.W.codeIn K cdv qual = true) (S : FnScope N ps scope)
    (len : ∀ vs H Q E, sp vs H Q E → vs.length = ps.length)
    (hb : ∀ (A : Around) (outer : List Env) (s : Shared) (H : Hp) (vs : List V) (Q : VK) (E : XK), A.guards = some [] → Room k (A.deeper (PyProof.Rows.envOfC qual scope s.heap.objs.size f cdv)) → sp vs H Q E →
      ∃ t, PSs (cxOf CX P w K mg base N qual scope f cdv A outer s H E) body t ∧ t { nx := fun _ H' => Q .non H', rt := Q } (L2.start N vs) H) :
    FnG P w K mg base CX (k + 1) f (PySem.W.fnOf name qual params body scope dV kV doc pm an cdv ct) ps sp := by
  refine ⟨len, fun A outer s H args us vs Q E hg hr e0 bd rv hsp => ?_⟩
  have hl := len vs H Q E hsp
  have KX : K.In s.heap := e0.mod.kin.keeps fun b o e => (e0.bs b o e).1
  have lim : s.heap.NoLimit := e0.mod.nolimit.keeps fun b o e => (e0.bs b o e).1
  refine codeAny_call_function hr.depth (KX f _ lk) rfl S.co S.gen rfl (PySem.W.codeRec_of KX hcd) (bd _ _ _ _ ?_)
  refine wpAny_newFunctionEnv_cells S.kind (fun x hx => ?_) fun env he s1 x => ?_
  · obtain ⟨n, v⟩ := x
    rcases S.par n (List.of_mem_zip hx).1 with q | q
    · exact .inl q
    · exact .inr ⟨q, PySem.W.cellsFrom_some scope.names (s.heap.objs.size + 1) [] (.inl q)⟩
  · subst he
    refine ⟨lim.keeps x.toInCall.keep, codeAny_func ?_⟩
    obtain ⟨t, ht, hq⟩ := hb A outer s H vs Q E hg (hr.deeper _) hsp
    have I := inv_start (CX := CX) (E := E) S hr.hd e0 hl rv x
    refine wpAny_mono (ht.run [] s1 (L2.start N vs) H _ I hq) (fun fl s' hs => ?_) fun e s' hs => hs
    cases fl with
    | next =>
      obtain ⟨σ', H', J, q⟩ := hs
      exact ⟨.non, H', J.os, J.bare, J.base, J.hok, rfl, q⟩
    | brk =>
      obtain ⟨_, _, _, q⟩ := hs
      exact q.elim
    | cont =>
      obtain ⟨_, _, _, q⟩ := hs
      exact q.elim
    | ret u =>
      obtain ⟨v, σ', H', J, rv, q⟩ := hs
      exact ⟨v, H', J.os, J.bare, J.base, J.hok, rv, q⟩
theorem _root_.L2.Fun.okG {P : Program} {w : World} {K : PySem.W.Frag} {mg : Str → Option Value} {base : Heap} {x qual : Str} {st : Stmt} {f : Addr} {fd : FuncData} {N ps : List Str} {k : Nat} {sp : Sp} (F : Fun K x qual st f fd) (S : FnScope N ps (defScope st)) (len : ∀ vs H Q E, sp vs H Q E → vs.length = ps.length)
    (hb : ∀ (cdv : Value) (A : Around) (outer : List Env) (s : Shared) (H : Hp) (vs : List V) (Q : VK) (E : XK), A.guards = some [] → Room k (A.deeper (PyProof.Rows.envOfC qual (defScope st) s.heap.objs.size f cdv)) → sp vs H Q E →
      ∃ t, PSs (cxOf CX0 P w K mg base N qual (defScope st) f cdv A outer s H E).nox (defBody st) t ∧ t { nx := fun _ H' => Q .non H', rt := Q } (L2.start N vs) H) : FnG P w K mg base CX0 (k + 1) f fd ps sp := by
  obtain ⟨oc, od, kV, doc, pm, an, cdv, ct, osl, rfl, lk, hcd⟩ := F.ex
  refine fn_ofG lk hcd S len fun A outer s H vs Q E hg hr hsp => ?_
  obtain ⟨t, h, q⟩ := hb cdv A outer s H vs Q E hg hr hsp
  exact ⟨t, PSs.nox h, q⟩
theorem law_callG {P : Program} {w : World} {K : PySem.W.Frag} {mg mb : Str → Option Value} {k : Nat} {fa a : Addr} {fd : FuncData} {x : Str} {sp : Sp} {s₁ : Shared} {vs : List Value} {ns : List Int}
    (KX : K.In s₁.heap) (hns : s₁.heap.Ns mainGlobals mg) (hb : s₁.heap.Ns builtinsNs mb) (hbb : ∀ x : Str, x ≠ "__name__" → mb x = bootBuiltins x) (hlim : s₁.heap.NoLimit) (hg : s₁.gens = #[]) (ha : s₁.heap.get? a = some { cls := .type "list", data := .seq vs.toArray })
    (hi : PyProof.Rows.IntsAre vs ns) (hl : ns.length ≤ sizeLine) (hr : Room k callerA) (F : ∀ base : Heap, K.In base → base.Ns mainGlobals mg → FnG P w K mg base CX0 k fa fd [x] sp) (hbind : ∀ (s : Shared) (u : Value), BindsTo s fd { pos := [u] } [(x, u)])
    (hsp : ∀ H : Hp, Only H → SqL K H a (ns.map V.int) → sp [.ref a] H (fun v _ => v = .bl true) E0) :
    codeAny (model P w) callerA (.call (.ref fa) { pos := [.ref a] }) (fun r s' => r = .ok (.ret (.bool true)) ∧ OldK s₁.heap s'.heap ∧ s'.os = s₁.os ∧ PyProof.Rows.AllBare s'.gens) s₁ := by
  have core : ∀ H : Hp, Only H → SqL K H a (ns.map V.int) → HOk P w H s₁.heap → (∀ b, H b ≠ none → b = a) → (H a ≠ none → K.lookup a = none) →
      codeAny (model P w) callerA (.call (.ref fa) { pos := [.ref a] }) (fun r s' => r = .ok (.ret (.bool true)) ∧ OldK s₁.heap s'.heap ∧ s'.os = s₁.os ∧ PyProof.Rows.AllBare s'.gens) s₁ := by
    intro H hO hS hok hA hK
    have nd : ∀ {b : Addr} {o : Obj} {es ep}, s₁.heap.get? b = some o → o.data = .dict es ep → H b = none := by
      intro b o es ep e d
      cases q : H b with
      | none => rfl
      | some u =>
        obtain rfl := hA b (by rw [q]; exact fun z => by cases z)
        rw [ha] at e
        obtain rfl := Option.some.inj e
        cases d
    have nsK : ∀ {b : Addr} {m : Str → Option Value}, s₁.heap.Ns b m → (hidT s₁.heap H).Ns b m := by
      rintro b m ⟨o, es, ep, e, d, r⟩
      exact ⟨o, es, ep, hidT_get e (nd e d), d, r⟩
    have hKb : K.In (hidT s₁.heap H) := fun b o e => hidT_get (KX b o e) (by
      cases q : H b with
      | none => rfl
      | some u =>
        have nb : H b ≠ none := by rw [q]; exact fun z => by cases z
        obtain rfl := hA b nb
        have z := hK nb
        rw [e] at z
        cases z)
    have hM : L2.Mod K mg (hidT s₁.heap H) := ⟨hKb, nsK hns, ⟨mb, nsK hb, hbb⟩, by
      obtain ⟨mc, h1, h2⟩ := hlim
      exact ⟨mc, nsK h1, h2⟩⟩
    have e0 : Env0 P w K mg (hidT s₁.heap H) callerA [] s₁ H := ⟨rfl, hM, fun b o e => of_hidT e, Nat.le_of_eq (hidT_size s₁.heap H), trivial, (fun b z => by cases z), hok, PyProof.Rows.AllBare.of_eq hg⟩
    refine codeAny_mono ((F (hidT s₁.heap H) hKb (nsK hns)).run callerA [] s₁ H { pos := [.ref a] } [.ref a] [.ref a] _ E0 rfl hr e0 (hbind s₁ (.ref a)) (.cons rfl .nil) (hsp H hO hS)) fun r s' z => ?_
    cases r with
    | error e => exact absurd z fun z => by cases z
    | ok fl =>
      cases fl with
      | next => exact z.elim
      | brk => exact z.elim
      | cont => exact z.elim
      | ret u =>
        obtain ⟨v, H', os, bare, un, hok', rv, rfl⟩ := z
        obtain rfl : u = .bool true := rv
        refine ⟨rfl, OldK.of_keep fun b o e => ?_, os, bare⟩
        cases q : H b with
        | none => exact un.keep b o e q (fun z => by cases z) (fun z => by cases z)
        | some u =>
          rcases hO b with z | ⟨ob, xs, z⟩
          · rw [z] at q; cases q
          · have z2 := un.frzs b ob (.lst xs) z
            have e1 := (hok b _ z).1
            have e2 := (hok' b _ z2).1
            rw [e] at e1
            rw [e2, e1]
  cases hk : K.lookup a with
  | none =>
    refine core (fun b => if b = a then some (.frz { cls := .type "list", data := .seq vs.toArray } (.lst (ns.map V.int))) else none) (fun b => ?_) (.inl (.inr ⟨_, if_pos rfl⟩)) (fun b u z => ?_) (fun b z => ?_) fun _ => hk
    · by_cases e : b = a
      · exact .inr ⟨_, _, if_pos e⟩
      · exact .inl (if_neg e)
    · by_cases e : b = a
      · subst e
        have z' := (if_pos rfl).symm.trans z
        obtain rfl := Option.some.inj z'
        exact ⟨ha, by rw [List.length_map]; exact hl, vs, _, vals_ints hi, ha⟩
      · have z' := (if_neg e).symm.trans z
        cases z'
    · by_cases e : b = a
      · exact e
      · exact absurd (if_neg e) z
  | some o =>
    refine core (fun _ => none) (fun _ => .inl rfl) ?_ (fun b u z => by cases z) (fun b z => absurd rfl z) fun z => absurd rfl z
    have e := KX a o hk
    rw [ha] at e
    obtain rfl := Option.some.inj e
    refine .inr ⟨_, vs.toArray, _, hk, rfl, rfl, rfl, ?_, vals_ints hi⟩
    have := PyProof.Rows.IntsAre.length hi
    rw [List.size_toArray]
    omega
theorem walk_ofG {l : PySem.W.OpenLaw} {n k : Nat} {q : Program} {loose : List Str} {XP : (Str → Option Value) → Heap → Prop} {YP : World → Heap → Prop} {d : DefRec} {K : Params → PySem.W.Frag} {sp : PySem.W.Frag → Sp} {x : Str}
    (hn : l.most = some n) (hn2 : n ≤ sizeLine) (hdf : d.params.defaults = []) (hr : Room k callerA) (hY : ∀ (w : World) (h : Heap), YP w h → (K w.params).In h)
    (F : ∀ (w : World) (mg : Str → Option Value) (fa : Addr) (h : Heap), (K w.params).In h → h.Ns mainGlobals mg → mg d.name = some (.ref fa) → ∃ fd, (∀ (s : Shared) (u : Value), BindsTo s fd { pos := [u] } [(x, u)]) ∧ ∀ base : Heap, (K w.params).In base → base.Ns mainGlobals mg → FnG l.prog w (K w.params) mg base CX0 k fa fd [x] (sp (K w.params)))
    (hsp : ∀ (K : PySem.W.Frag) (H : Hp) (a : Addr) (ns : List Int), ns.length ≤ n → Only H → SqL K H a (ns.map V.int) → sp K [.ref a] H (fun v _ => v = .bl true) E0) : PySem.W.WalkO q loose XP YP l.row.toRowW d [] fun f vs => PySem.call f vs :=
  Att.attach_call hn hdf fun w s₀ s₁ mg mb fa o pm cd doc a vs ns G Y ho hd hcd hmg hobj hints hlen hg => by
    obtain ⟨fd, hb, hF⟩ := F w mg fa s₁.heap (hY w s₁.heap Y) G.T.g hmg
    exact law_callG (hY w s₁.heap Y) G.T.g G.T.b G.T.builtins G.T.nolimit hg hobj hints (Nat.le_trans hlen hn2) hr hF hb fun H hO hS => hsp _ H a ns hlen hO hS
/-- repr(v): v lists and tuples of plain values -/
def cReprD (K : PySem.W.Frag) : List V → Hp → VK → Prop := fun xs H Q => cRepr xs H Q ∨ ∃ (a : Addr) (d : PyData), xs = [.ref a] ∧ Dp K H (.ref a) d ∧ d.showable = true ∧ d.hasDict = false ∧ d.depth ≤ 60 ∧ d.shown.length ≤ sizeLine ∧ Q (.str d.shown) H
theorem call_reprD {X : Cx} (hg : X.A.guards = some []) (hu : X.A.units + 64 < cLine) : CallR X (.builtin "repr") (cReprD X.K) := by
  refine CallR.or call_reprP ?_
  intro P s σ H vs us Q I r h
  obtain ⟨a, d, rfl, hd, sh, nd, dl, sl, q⟩ := h
  obtain ⟨u, rfl, ru⟩ := vals1 r
  cases (show u = Value.ref a from ru)
  obtain ⟨as, rd⟩ := Dp.reads I d _ _ hd ru
  refine repr_of_reads' rd sh (fun z => by rw [nd] at z; cases z) hg (by omega) (fun b o e => e) (fun h' u tk hk => ?_) sl
  exact ⟨.str d.shown, H, I.kept hk, ⟨u, rfl⟩, q⟩
/-! ### how long what is shown may be -/
theorem join_len (sep : Str) (B : Nat) : ∀ ss : List Str, (∀ s ∈ ss, s.length ≤ B) → (Str.join sep ss).length ≤ ss.length * (B + sep.length)
  | [], _ => by unfold Str.join; exact Nat.zero_le _
  | [x], h => by
    unfold Str.join
    have := h x List.mem_cons_self
    simp
    omega
  | x :: y :: r, h => by
    have ih := join_len sep B (y :: r) fun s hs => h s (List.mem_cons_of_mem _ hs)
    have hx := h x List.mem_cons_self
    unfold Str.join
    rw [TL.len_tl, TL.tl_append, TL.tl_append, List.length_append, List.length_append, ← TL.len_tl, ← TL.len_tl, ← TL.len_tl]
    rw [List.length_cons, Nat.succ_mul]
    omega
theorem tuple_len {B : Nat} {ss : List Str} (h : ∀ s ∈ ss, s.length ≤ B) : (tupleText ss).length ≤ ss.length * (B + 2) + 3 := by
  have j := join_len (Str.ofString ", ") B ss h
  have e2 : (Str.ofString ", ").length = 2 := by decide +kernel
  rw [e2] at j
  unfold tupleText
  rw [TL.len_tl, TL.tl_append, TL.tl_append, List.length_append, List.length_append, ← TL.len_tl, ← TL.len_tl, ← TL.len_tl]
  have e1 : (Str.ofString "(").length = 1 := by decide +kernel
  have e3 : (Str.ofString (if (ss.length == 1) = true then ",)" else ")")).length ≤ 2 := by
    cases (ss.length == 1) <;> decide +kernel
  omega
theorem foldl_len {f : Nat → Array Nat} {B : Nat} : ∀ (l : List Nat) (a : Array Nat), (∀ c ∈ l, (f c).size ≤ B) → (l.foldl (fun out c => out ++ f c) a).size ≤ a.size + l.length * B
  | [], a, _ => by simp
  | c :: l, a, h => by
    have ih := foldl_len (f := f) (B := B) l (a ++ f c) fun d hd => h d (List.mem_cons_of_mem _ hd)
    have hc := h c List.mem_cons_self
    rw [List.foldl_cons, List.length_cons, Nat.succ_mul]
    rw [Array.size_append] at ih
    omega
theorem repr_len {z : Str} {B : Nat} (h : ∀ c ∈ z.cps.toList, (Builtin.Str.reprChar (reprQuote z) c).length ≤ B) : (reprText z).length ≤ 2 + z.length * B := by
  show ((Array.foldl (fun out c => out ++ (Builtin.Str.reprChar (reprQuote z) c).toArray) #[reprQuote z] z.cps).push (reprQuote z)).size ≤ _
  rw [Array.size_push, ← Array.foldl_toList]
  have := foldl_len (f := fun c => (Builtin.Str.reprChar (reprQuote z) c).toArray) (B := B) z.cps.toList #[reprQuote z] (fun c hc => by rw [List.size_toArray]; exact h c hc)
  have e : z.cps.toList.length = z.length := rfl
  rw [e] at this
  have e1 : (#[reprQuote z] : Array Nat).size = 1 := rfl
  omega
theorem quote_or (z : Str) : reprQuote z = 34 ∨ reprQuote z = 39 := by
  unfold reprQuote
  split
  · exact .inl rfl
  · exact .inr rfl
theorem repr_pl : ∀ c ∈ ("abcdefghijklmnopqrstuvwxyzABCDEFGHIJKLMNOPQRSTUVWXYZ0123456789<>=:_@#" : Str).cps.toList, (Builtin.Str.reprChar 34 c).length ≤ 10 ∧ (Builtin.Str.reprChar 39 c).length ≤ 10 := by decide +kernel
theorem small_text : ∀ n : Nat, n < 100 → (Str.ofString (toString (n : Int))).length ≤ 4 ∧ (n : Int).natAbs.log2 < 1920 := by decide +kernel
/-- data that may be shown: at most so long, so deep -/
structure Okd (d : PyData) (L D : Nat) : Prop where
  sh : d.showable = true
  nd : d.hasDict = false
  dp : d.depth ≤ D
  ln : d.shown.length ≤ L
theorem Okd.mono {d : PyData} {L D L' D' : Nat} (h : Okd d L D) (h1 : L ≤ L') (h2 : D ≤ D') : Okd d L' D' := ⟨h.sh, h.nd, Nat.le_trans h.dp h2, Nat.le_trans h.ln h1⟩
theorem Okd.bool (b : Bool) : Okd (.bool b) 5 0 := ⟨rfl, rfl, Nat.le_refl 0, by cases b <;> decide +kernel⟩
theorem Okd.int {n : Nat} (h : n < 100) : Okd (.int (n : Int)) 4 0 := ⟨decide_eq_true (small_text n h).2, rfl, Nat.le_refl 0, (small_text n h).1⟩
theorem Okd.str {z : Str} (h : ∀ c ∈ z.cps.toList, c ∈ ("abcdefghijklmnopqrstuvwxyzABCDEFGHIJKLMNOPQRSTUVWXYZ0123456789<>=:_@#" : Str).cps.toList) : Okd (.str z) (2 + z.length * 10) 0 := ⟨rfl, rfl, Nat.le_refl 0, repr_len fun c hc => by
  rcases quote_or z with e | e <;> rw [e]
  · exact (repr_pl c (h c hc)).1
  · exact (repr_pl c (h c hc)).2⟩
theorem all_okd {L D : Nat} : ∀ xs : List PyData, (∀ x ∈ xs, Okd x L D) → PyData.showableAll xs = true ∧ PyData.hasDictAll xs = false ∧ PyData.depthAll xs ≤ D ∧ (∀ s ∈ PyData.shownAll xs, s.length ≤ L) ∧ (PyData.shownAll xs).length = xs.length
  | [], _ => ⟨rfl, rfl, Nat.zero_le _, (fun s hs => by cases hs), rfl⟩
  | x :: xs, h => by
    obtain ⟨a, b, c, d, e⟩ := all_okd xs fun y hy => h y (List.mem_cons_of_mem _ hy)
    have hx := h x List.mem_cons_self
    refine ⟨?_, ?_, ?_, fun s hs => ?_, ?_⟩
    · show (x.showable && PyData.showableAll xs) = true
      rw [hx.sh, a]; rfl
    · show (x.hasDict || PyData.hasDictAll xs) = false
      rw [hx.nd, b]; rfl
    · show max x.depth (PyData.depthAll xs) ≤ D
      exact Nat.max_le.mpr ⟨hx.dp, c⟩
    · have hs' : s ∈ x.shown :: PyData.shownAll xs := hs
      rcases List.mem_cons.mp hs' with z | z
      · rw [z]; exact hx.ln
      · exact d s z
    · show (x.shown :: PyData.shownAll xs).length = _
      rw [List.length_cons, e]
      rfl
theorem Okd.tuple {L D : Nat} {xs : List PyData} (h : ∀ x ∈ xs, Okd x L D) : Okd (.tuple xs) (xs.length * (L + 2) + 3) (D + 1) := by
  obtain ⟨a, b, c, d, e⟩ := all_okd xs h
  refine ⟨a, b, Nat.succ_le_succ c, ?_⟩
  have := tuple_len d
  rw [e] at this
  exact this
section
variable {X : Cx} (K : PySem.W.Frag)
theorem kReprD (hg : X.A.guards = some []) (hu : X.A.units + 64 < cLine) (hK : X.K = K := by rfl) : CallR X (.builtin "repr") (cReprD K) := hK ▸ call_reprD hg hu
end
theorem rd_reprBD {K : PySem.W.Frag} {b : Bool} {H : Hp} {Q : VK} (h : Q (.str (if b then "True" else "False")) H) : cReprD K [.bl b] H Q := .inl (rd_reprB h)
theorem rd_reprD {K : PySem.W.Frag} {a : Addr} {d : PyData} {L D : Nat} {H : Hp} {Q : VK} (h1 : Dp K H (.ref a) d) (h2 : Okd d L D) (hL : L ≤ sizeLine) (hD : D ≤ 60) (h : Q (.str d.shown) H) : cReprD K [.ref a] H Q := .inr ⟨a, d, rfl, h1, h2.sh, h2.nd, Nat.le_trans h2.dp hD, Nat.le_trans h2.ln hL, h⟩
/-! ### signs, joined -/
theorem fold_signs : ∀ (cs : List Nat) (a : Array Nat), (List.foldl (fun acc (p : Str) => acc ++ (Str.ofString "").cps ++ p.cps) a (cs.map fun c => (⟨#[c]⟩ : Str))).toList = a.toList ++ cs
  | [], a => by simp
  | c :: cs, a => by
    rw [List.map_cons, List.foldl_cons, fold_signs cs]
    have e : (Str.ofString "").cps = #[] := by decide +kernel
    rw [e]
    simp
theorem join_signs (cs : List Nat) : (Txt.join "" (cs.map fun c => (⟨#[c]⟩ : Str))).cps.toList = cs := by
  cases cs with
  | nil => rfl
  | cons c cs =>
    show (List.foldl (fun acc (p : Str) => acc ++ (Str.ofString "").cps ++ p.cps) #[c] (cs.map fun c => (⟨#[c]⟩ : Str))).toList = _
    rw [fold_signs cs #[c]]
    rfl
theorem sum_signs : ∀ cs : List Nat, ((cs.map fun c => (⟨#[c]⟩ : Str)).map (·.length)).sum = cs.length
  | [] => rfl
  | c :: cs => by
    rw [List.map_cons, List.map_cons, List.sum_cons, sum_signs cs, List.length_cons]
    show 1 + cs.length = cs.length + 1
    omega
end AT

set_option Elab.async false
set_option linter.all false
set_option maxRecDepth 100000
set_option maxHeartbeats 4000000
/-! own words, fourth part: values as data, a heap with a hidden part that changes -/
namespace AT
open PySem PySem.Spec L2
section
variable {K : PySem.W.Frag}
mutual
theorem Dp.ex' {H H' : Hp} (e : Ex H H') : ∀ (d : PyData) {v : V}, Dp K H v d → Dp K H' v d
  | .none, _, h => by cases h; exact .non
  | .bool b, _, h => by cases h; exact .bl b
  | .int i, _, h => by cases h; exact .int i
  | .str x, _, h => by cases h; exact .str x
  | .list ds, _, h => by
    cases h with
    | lst hs ha => exact .lst (Evl.ex_l e hs) (DpAll.ex' e ds ha)
  | .tuple ds, _, h => by
    cases h with
    | tup hs ha => exact .tup (Evl.ex_t e hs) (DpAll.ex' e ds ha)
  | .dict _, _, h => by cases h
theorem DpAll.ex' {H H' : Hp} (e : Ex H H') : ∀ (ds : List PyData) {vs : List V}, DpAll K H vs ds → DpAll K H' vs ds
  | [], _, h => by cases h; exact .nil
  | d :: ds, _, h => by
    cases h with
    | cons h1 h2 => exact .cons (Dp.ex' e d h1) (DpAll.ex' e ds h2)
end
theorem _root_.L2.Dp.ex {H H' : Hp} {v : V} {d : PyData} (h : Dp K H v d) (e : Ex H H') : Dp K H' v d := Dp.ex' e d h
theorem _root_.L2.DpAll.ex {H H' : Hp} {vs : List V} {ds : List PyData} (h : DpAll K H vs ds) (e : Ex H H') : DpAll K H' vs ds := DpAll.ex' e ds h
theorem _root_.L2.DpAll.len {H : Hp} : ∀ {vs : List V} {ds : List PyData}, DpAll K H vs ds → vs.length = ds.length
  | _, _, .nil => rfl
  | _, _, .cons _ t => by rw [List.length_cons, List.length_cons, t.len]
theorem _root_.L2.DpAll.get {H : Hp} : ∀ {vs : List V} {ds : List PyData} {i : Nat} {d : PyData}, DpAll K H vs ds → ds[i]? = some d → ∃ v, vs[i]? = some v ∧ Dp K H v d
  | _, _, i, d, .nil, e => by simp at e
  | _, _, 0, d, .cons (v := v) h _, e => by
    simp at e
    subst e
    exact ⟨v, rfl, h⟩
  | _, _, i + 1, d, .cons _ t, e => by
    obtain ⟨v, h1, h2⟩ := t.get (i := i) (d := d) (by simpa using e)
    exact ⟨v, by simpa using h1, h2⟩
theorem _root_.L2.DpAll.got {H : Hp} {vs : List V} {ds : List PyData} {i : Nat} {v : V} (h : DpAll K H vs ds) (e : vs[i]? = some v) : ∃ d, ds[i]? = some d ∧ Dp K H v d := by
  have hl : i < vs.length := (List.getElem?_eq_some_iff.mp e).1
  have hd : i < ds.length := by rw [← h.len]; exact hl
  obtain ⟨v', h1, h2⟩ := h.get (List.getElem?_eq_getElem hd)
  rw [h1] at e
  obtain rfl := Option.some.inj e
  exact ⟨_, List.getElem?_eq_getElem hd, h2⟩
theorem _root_.L2.DpAll.app {H : Hp} : ∀ {vs : List V} {ds : List PyData} {us : List V} {es : List PyData}, DpAll K H vs ds → DpAll K H us es → DpAll K H (vs ++ us) (ds ++ es)
  | _, _, _, _, .nil, h => h
  | _, _, _, _, .cons h t, q => .cons h (t.app q)
theorem _root_.L2.DpAll.snoc {H : Hp} {vs : List V} {ds : List PyData} {v : V} {d : PyData} (h : DpAll K H vs ds) (q : Dp K H v d) : DpAll K H (vs ++ [v]) (ds ++ [d]) := h.app (.cons q .nil)
theorem DpAll.of {H : Hp} : ∀ {vs : List V} {ds : List PyData}, vs.length = ds.length → (∀ (i : Nat) v d, vs[i]? = some v → ds[i]? = some d → Dp K H v d) → DpAll K H vs ds
  | [], [], _, _ => .nil
  | [], _ :: _, h, _ => by cases h
  | _ :: _, [], h, _ => by cases h
  | v :: vs, d :: ds, h, g => .cons (g 0 v d rfl rfl) (DpAll.of (Nat.succ.inj h) fun i v d h1 h2 => g (i + 1) v d (by simpa using h1) (by simpa using h2))
theorem _root_.L2.DpAll.erase {H : Hp} : ∀ {vs : List V} {ds : List PyData} (i : Nat), DpAll K H vs ds → DpAll K H (vs.eraseIdx i) (ds.eraseIdx i)
  | _, _, _, .nil => .nil
  | _, _, 0, .cons _ t => t
  | _, _, i + 1, .cons h t => .cons h (t.erase i)
theorem _root_.L2.DpAll.set {H : Hp} {v : V} {d : PyData} (q : Dp K H v d) : ∀ {vs : List V} {ds : List PyData} (i : Nat), DpAll K H vs ds → DpAll K H (vs.set i v) (ds.set i d)
  | _, _, _, .nil => .nil
  | _, _, 0, .cons _ t => .cons q t
  | _, _, i + 1, .cons h t => .cons h (t.set q i)
theorem DpAll.mapV {α : Type} {H : Hp} (f : α → V) (g : α → PyData) (l : List α) (h : ∀ x ∈ l, Dp K H (f x) (g x)) : DpAll K H (l.map f) (l.map g) := by
  induction l with
  | nil => exact .nil
  | cons x l ih => exact .cons (h x List.mem_cons_self) (ih fun y hy => h y (List.mem_cons_of_mem _ hy))
/-! the shapes of values -/
theorem Dp.non_iff {H : Hp} {v : V} (h : Dp K H v .none) : v = .non := by cases h; rfl
theorem Dp.int_iff {H : Hp} {v : V} {i : Int} (h : Dp K H v (.int i)) : v = .int i := by cases h; rfl
theorem Dp.str_iff {H : Hp} {v : V} {i : Str} (h : Dp K H v (.str i)) : v = .str i := by cases h; rfl
theorem Dp.bl_iff {H : Hp} {v : V} {i : Bool} (h : Dp K H v (.bool i)) : v = .bl i := by cases h; rfl
theorem Dp.lstv {H : Hp} {v : V} {ds : List PyData} (h : Dp K H v (.list ds)) : ∃ a vs, v = .ref a ∧ SqL K H a vs ∧ DpAll K H vs ds := by
  cases h with
  | lst hs ha => exact ⟨_, _, rfl, hs, ha⟩
theorem Dp.tupv {H : Hp} {v : V} {ds : List PyData} (h : Dp K H v (.tuple ds)) : ∃ a vs, v = .ref a ∧ SqT K H a vs ∧ DpAll K H vs ds := by
  cases h with
  | tup hs ha => exact ⟨_, _, rfl, hs, ha⟩
/-! ### the hidden part -/
def hid (S : List Addr) (H : Hp) : Hp := fun b => if b ∈ S then none else H b
theorem hid_at {S : List Addr} {H : Hp} {b : Addr} (h : b ∉ S) : hid S H b = H b := if_neg h
theorem hid_in {S : List Addr} {H : Hp} {b : Addr} (h : b ∈ S) : hid S H b = none := if_pos h
theorem hid_nil {H : Hp} : hid [] H = H := by
  funext b
  exact if_neg List.not_mem_nil
theorem hid_some {S : List Addr} {H : Hp} {b : Addr} {o : HO} (h : hid S H b = some o) : b ∉ S ∧ H b = some o := by
  by_cases z : b ∈ S
  · rw [hid_in z] at h; cases h
  · exact ⟨z, by rw [hid_at z] at h; exact h⟩
theorem hid_ex {S : List Addr} {H : Hp} : Ex (hid S H) H := fun b o h => (hid_some h).2
theorem hid_sub {S S' : List Addr} {H : Hp} (h : ∀ b ∈ S', b ∈ S) : Ex (hid S H) (hid S' H) := fun b o q => by
  obtain ⟨h1, h2⟩ := hid_some q
  rw [hid_at fun z => h1 (h b z)]
  exact h2
theorem hid_tail {q : Addr} {S : List Addr} {H : Hp} : Ex (hid (q :: S) H) (hid S H) := hid_sub fun _ hb => List.mem_cons_of_mem _ hb
/-- all but S stands -/
def Kp (S : List Addr) (H H' : Hp) : Prop := ∀ b o, b ∉ S → H b = some o → H' b = some o
theorem Kp.refl {S : List Addr} {H : Hp} : Kp S H H := fun _ _ _ h => h
theorem Kp.trans {S : List Addr} {H H1 H2 : Hp} (a : Kp S H H1) (b : Kp S H1 H2) : Kp S H H2 := fun x o hx h => b x o hx (a x o hx h)
theorem Kp.of_ex {S : List Addr} {H H' : Hp} (e : Ex H H') : Kp S H H' := fun b o _ h => e b o h
theorem Kp.ex {S : List Addr} {H H' : Hp} (k : Kp S H H') : Ex (hid S H) (hid S H') := fun b o q => by
  obtain ⟨h1, h2⟩ := hid_some q
  rw [hid_at h1]
  exact k b o h1 h2
theorem Kp.sub {S S' : List Addr} {H H' : Hp} (k : Kp S H H') (h : ∀ b ∈ S, b ∈ S') : Kp S' H H' := fun b o hb q => k b o (fun z => hb (h b z)) q
theorem Kp.put {S : List Addr} {H : Hp} {q : Addr} {o : HO} (h : q ∈ S) : Kp S H (upd H q o) := fun b u hb z => by
  rw [upd_ne (show b ≠ q from fun e => hb (by rw [e]; exact h))]
  exact z
theorem Kp.new {S : List Addr} {H : Hp} {q : Addr} {o : HO} (h : H q = none) : Kp S H (upd H q o) := Kp.of_ex (Evl.Ex.new h)
/-- from what stands in the one hidden part to the other -/
theorem Kp.up {M S : List Addr} {H0 H : Hp} (k : Kp M H0 H) (fr : ∀ q ∈ S, q ∉ M → H0 q = none) : Ex (hid M H0) (hid S H) := fun b o z => by
  obtain ⟨h1, h2⟩ := hid_some z
  rw [hid_at fun hb => ?_]
  · exact k b o h1 h2
  · have := fr b hb h1
    rw [h2] at this
    cases this
theorem Ex.hid {S : List Addr} {H H' : Hp} (e : Ex H H') : Ex (AT.hid S H) (AT.hid S H') := (Kp.of_ex (S := S) e).ex
/-- a list that was changed is let be -/
theorem Dp.frz {S : List Addr} {H : Hp} {q : Addr} {vs : List V} {ds : List PyData} (hq : H q = some (.lst vs)) (hn : q ∉ S) (h : DpAll K (hid (q :: S) H) vs ds) : Dp K (hid S H) (.ref q) (.list ds) :=
  .lst (SqL.of (by rw [hid_at hn]; exact hq)) (h.ex hid_tail)
theorem Dp.frz' {S : List Addr} {H : Hp} {q : Addr} {vs : List V} {ds : List PyData} (hq : H q = some (.lst vs)) (hn : q ∉ S) (h : DpAll K (hid S H) vs ds) : Dp K (hid S H) (.ref q) (.list ds) :=
  .lst (SqL.of (by rw [hid_at hn]; exact hq)) h
/-- a new list, a new tuple -/
theorem notin_of {S : List Addr} {H : Hp} {q : Addr} (hs : ∀ b ∈ S, ∃ o, H b = some o) (hq : H q = none) : q ∉ S := fun z => by
  obtain ⟨o, ho⟩ := hs q z
  rw [hq] at ho
  cases ho
theorem Dp.newT {S : List Addr} {H : Hp} {q : Addr} {vs : List V} {ds : List PyData} (hq : H q = none) (hn : q ∉ S) (h : DpAll K (hid S H) vs ds) : Dp K (hid S (upd H q (.tup vs))) (.ref q) (.tuple ds) :=
  .tup (Evl.st_of (by rw [hid_at hn, upd_same])) (h.ex (Ex.hid (Evl.Ex.new hq)))
theorem Dp.newL {S : List Addr} {H : Hp} {q : Addr} {vs : List V} {ds : List PyData} (hq : H q = none) (hn : q ∉ S) (h : DpAll K (hid S H) vs ds) : Dp K (hid S (upd H q (.lst vs))) (.ref q) (.list ds) :=
  .lst (SqL.of (by rw [hid_at hn, upd_same])) (h.ex (Ex.hid (Evl.Ex.new hq)))
/-! ### reading -/
section
variable {σ : L2.St} {H H0 : Hp} {Q : VK} {x : V} {ds : List PyData} {d : PyData} {i : Nat}
theorem rd_ixDT (e : Ex H0 H) (h : Dp K H0 x (.tuple ds)) (hi : ds[i]? = some d) (q : ∀ v, Dp K H0 v d → Q v H) : rIx K x (.int (i : Int)) H Q := by
  obtain ⟨a, vs, rfl, h1, h2⟩ := Dp.tupv h
  obtain ⟨v, hv, hd⟩ := h2.get hi
  exact rd_ixT (Evl.ex_t e h1) (atI_nat hv) (q v hd)
theorem rd_ixDL (e : Ex H0 H) (h : Dp K H0 x (.list ds)) (hi : ds[i]? = some d) (q : ∀ v, Dp K H0 v d → Q v H) : rIx K x (.int (i : Int)) H Q := by
  obtain ⟨a, vs, rfl, h1, h2⟩ := Dp.lstv h
  obtain ⟨v, hv, hd⟩ := h2.get hi
  exact rd_ixL (Evl.ex_l e h1) (atI_nat hv) (q v hd)
theorem rd_lenDT (e : Ex H0 H) (h : Dp K H0 x (.tuple ds)) (q : Q (.int (ds.length : Int)) H) : cLen K [x] H Q := by
  obtain ⟨a, vs, rfl, h1, h2⟩ := Dp.tupv h
  exact rd_lenT (Evl.ex_t e h1) (by rw [h2.len]; exact q)
theorem rd_lenDL (e : Ex H0 H) (h : Dp K H0 x (.list ds)) (q : Q (.int (ds.length : Int)) H) : cLen K [x] H Q := by
  obtain ⟨a, vs, rfl, h1, h2⟩ := Dp.lstv h
  exact rd_lenL (Evl.ex_l e h1) (by rw [h2.len]; exact q)
def oIs : R2 := fun x y H Q => y = .non ∧ Q (.bl (decide (x = .non))) H
theorem rd_is {P : Prop} (h : P) : V.non = V.non ∧ P := ⟨rfl, h⟩
/-- == of the same data -/
def Lay (d : PyData) : Prop := d.canLay0 = true ∧ d.depth ≤ 64
theorem Lay.sh {d : PyData} (h : Lay d) : SeqAt.shaped d = true := Bool.and_eq_true_iff.mpr ⟨h.1, decide_eq_true h.2⟩
theorem rd_eqD {y : V} {H1 : Hp} (e0 : Ex H0 H) (e1 : Ex H1 H) (hx : Dp K H0 x d) (hy : Dp K H1 y d) (hl : Lay d) (q : Q (.bl true) H) : oEq K x y H Q :=
  .inr ⟨d, d, hx.ex e0, hy.ex e1, hl.sh, hl.sh, by rw [SeqAt.eqv_refl d hl.1]; exact q⟩
theorem rd_neD {y : V} {H1 : Hp} (e0 : Ex H0 H) (e1 : Ex H1 H) (hx : Dp K H0 x d) (hy : Dp K H1 y d) (hl : Lay d) (q : Q (.bl false) H) : oNe K x y H Q :=
  .inr ⟨d, d, hx.ex e0, hy.ex e1, hl.sh, hl.sh, by rw [SeqAt.eqv_refl d hl.1]; exact q⟩
end
/-- data that may be compared: at most so deep -/
structure Ly (d : PyData) (n : Nat) : Prop where
  c : d.canLay0 = true
  p : d.depth ≤ n
theorem Ly.lay {d : PyData} {n : Nat} (h : Ly d n) (hn : n ≤ 64) : Lay d := ⟨h.c, Nat.le_trans h.p hn⟩
theorem Ly.mono {d : PyData} {n m : Nat} (h : Ly d n) (hn : n ≤ m) : Ly d m := ⟨h.c, Nat.le_trans h.p hn⟩
theorem Ly.none : Ly .none 0 := ⟨rfl, Nat.le_refl 0⟩
theorem Ly.bool {b : Bool} : Ly (.bool b) 0 := ⟨rfl, Nat.le_refl 0⟩
theorem Ly.int {i : Int} : Ly (.int i) 0 := ⟨rfl, Nat.le_refl 0⟩
theorem Ly.str {x : Str} (h : okS x) : Ly (.str x) 0 := ⟨h, Nat.le_refl 0⟩
theorem ly_all {n : Nat} : ∀ {ds : List PyData}, (∀ d ∈ ds, Ly d n) → PyData.canLayAll0 ds = true ∧ PyData.depthAll ds ≤ n
  | [], _ => ⟨rfl, Nat.zero_le _⟩
  | d :: ds, h => by
    obtain ⟨a, b⟩ := ly_all (ds := ds) fun y hy => h y (List.mem_cons_of_mem _ hy)
    have hx := h d List.mem_cons_self
    refine ⟨?_, Nat.max_le.mpr ⟨hx.p, b⟩⟩
    show (d.canLay0 && PyData.canLayAll0 ds) = true
    rw [hx.c, a]; rfl
theorem Ly.tuple {n : Nat} {ds : List PyData} (h : ∀ d ∈ ds, Ly d n) : Ly (.tuple ds) (n + 1) := ⟨(ly_all h).1, Nat.succ_le_succ (ly_all h).2⟩
theorem Ly.list {n : Nat} {ds : List PyData} (h : ∀ d ∈ ds, Ly d n) : Ly (.list ds) (n + 1) := ⟨(ly_all h).1, Nat.succ_le_succ (ly_all h).2⟩
/-! ### walks over data -/
def YD (K : PySem.W.Frag) (ds : List PyData) (H0 : Hp) : Nat → Hp → V → Hp → Prop := fun i H v H' => H' = H ∧ ∃ d, ds[i]? = some d ∧ Dp K H0 v d
abbrev Wd (K : PySem.W.Frag) (J : It) (ds : List PyData) (H0 : Hp) : Prop := Walk J ds.length (fun H => Ex H0 H) (YD K ds H0)
theorem wd_list {H0 : Hp} {a : Addr} {vs : List V} {ds : List PyData} (h : SqL K H0 a vs) (hd : DpAll K H0 vs ds) : Wd K (Itl K a) ds H0 := by
  rw [Wd, ← hd.len]
  exact walk_list.mono (fun H e => Evl.ex_l e h) fun i H x H' _ _ y => ⟨y.1, hd.got y.2⟩
theorem wd_tup {H0 : Hp} {a : Addr} {vs : List V} {ds : List PyData} (h : SqT K H0 a vs) (hd : DpAll K H0 vs ds) : Wd K (Itt K a) ds H0 := by
  rw [Wd, ← hd.len]
  exact walk_tup.mono (fun H e => Evl.ex_t e h) fun i H x H' _ _ y => ⟨y.1, hd.got y.2⟩
section
variable {σ : L2.St} {H H0 : Hp} {Q : VK} {te : TE} {R : It → Hp → Prop} {D : Ends} {g : TG} {tb : TS} {tt : TT} {J : It} {ds : List PyData} {x : V} {vs : List Nat}
theorem rd_anyL' (h : te σ H fun x H1 => ∃ a, x = .ref a ∧ (∃ xs, SqL K H1 a xs) ∧ R (Itl K a) H1) : iAny K te σ H R := .inl h
theorem rd_anyT' (h : te σ H fun x H1 => ∃ a, x = .ref a ∧ (∃ xs, SqT K H1 a xs) ∧ R (Itt K a) H1) : iAny K te σ H R := .inr (.inl h)
theorem rd_anyS' (h : te σ H fun v H1 => ∃ x, v = .str x ∧ R (Its x) H1) : iAny K te σ H R := .inr (.inr h)
theorem rd_itDL (e : Ex H0 H) (h : Dp K H0 x (.list ds)) (q : ∀ J, Wd K J ds H0 → R J H) : ∃ a, x = .ref a ∧ (∃ xs, SqL K H a xs) ∧ R (Itl K a) H := by
  obtain ⟨a, vs, rfl, h1, h2⟩ := Dp.lstv h
  exact ⟨a, rfl, ⟨vs, Evl.ex_l e h1⟩, q _ (wd_list h1 h2)⟩
theorem rd_itDT (e : Ex H0 H) (h : Dp K H0 x (.tuple ds)) (q : ∀ J, Wd K J ds H0 → R J H) : ∃ a, x = .ref a ∧ (∃ xs, SqT K H a xs) ∧ R (Itt K a) H := by
  obtain ⟨a, vs, rfl, h1, h2⟩ := Dp.tupv h
  exact ⟨a, rfl, ⟨vs, Evl.ex_t e h1⟩, q _ (wd_tup h1 h2)⟩
theorem rd_itS {z : Str} (q : R (Its z) H) : ∃ x, V.str z = .str x ∧ R (Its x) H := ⟨z, rfl, q⟩
theorem fo_D (w : Wd K J ds H0) (Pv : Nat → L2.St → Hp → Prop) (h0 : Pv 0 σ H) (hG : ∀ i σ H, i ≤ ds.length → Pv i σ H → Ex H0 H)
    (hs : ∀ (i : Nat) d v σ H, ds[i]? = some d → Dp K H0 v d → Pv i σ H → g v σ H fun σ2 H2 => tb { D with nx := Pv (i + 1), ct := Pv (i + 1), bk := D.nx } σ2 H2) (hd : ∀ σ H, Pv ds.length σ H → D.nx σ H) : forB g tb D σ J H :=
  fo_it w Pv h0 hG (fun i v σ H H' hi p y => by
    obtain ⟨rfl, d, h1, h2⟩ := y
    exact hs i d v σ _ h1 h2 p) hd
/-- how the heap goes on from H: S may change, the rest stands -/
structure Tr (S : List Addr) (H : Hp) (T : Hp → Hp → Prop) : Prop where
  rfl' : T H H
  here : ∀ {a}, T H a → T a a
  st : ∀ {a b c}, T a b → (∃ o, a c = some o) → ∃ o : HO, b c = some o
  trans : ∀ {a b c}, T a b → T b c → T a c
  put : ∀ {L Hc o}, H L = none → T H Hc → T H (upd Hc L o)
  kp : ∀ {a b}, T a b → Kp S a b
theorem tr_ex {S : List Addr} {H : Hp} : Tr S H Ex := ⟨Evl.Ex.refl H, fun {a} _ => Evl.Ex.refl a, fun e h => h.elim fun o z => ⟨o, e _ _ z⟩, fun a b => a.trans b, fun h e => Evl.Ex.mut e h, fun e => Kp.of_ex e⟩
/-- a comprehension with a test, each value told by its turn -/
theorem lc_F {S : List Addr} {T : Hp → Hp → Prop} {n : Nat} {G : Hp → Prop} {Y : Nat → Hp → V → Hp → Prop} {P : Nat → V → Prop} {P2 : Nat → L2.St → Prop} (t : Tr S H T) (hS : ∀ b ∈ S, ∃ o, H b = some o) (w : Walk J n G Y) (hY : ∀ i H x H', i < n → Y i H x H' → H' = H ∧ P i x) (hn : n < 100000)
    (hG : ∀ Hc, T H Hc → G Hc) (p : Nat → Bool) (f : Nat → PyData)
    (hg : ∀ i x Hc (N : L2.St → Hp → Prop), i < n → P i x → T H Hc → (∀ σ2, wipe σ2 vs = wipe σ vs → P2 i σ2 → N σ2 Hc) → g x (wipe σ vs) Hc N)
    (ht : ∀ L i σ2 Hc, i < n → P2 i σ2 → H L = none → L ∉ S → T H Hc → (∀ b ∈ L :: S, ∃ o, Hc b = some o) → Ex (hid S H) (hid (L :: S) Hc) → ∀ N : Bool → Hp → Prop, (∀ H2, T Hc H2 → N (p i) H2) → tt σ2 Hc N)
    (he : ∀ L i σ2 Hc, i < n → P2 i σ2 → p i = true → H L = none → L ∉ S → T H Hc → (∀ b ∈ L :: S, ∃ o, Hc b = some o) → Ex (hid S H) (hid (L :: S) Hc) → ∀ N : VK, (∀ v H2, T Hc H2 → Dp K (hid (L :: S) H2) v (f i) → N v H2) → te σ2 Hc N)
    (h : ∀ L us Hc, T H Hc → H L = none → L ∉ S → Hc L = some (.lst us) → DpAll K (hid (L :: S) Hc) us (((List.range n).filter p).map f) → Q (.ref L) Hc) : lcB g tt te vs σ Q J H := by
  intro L hL
  have nL : L ∉ S := notin_of hS hL
  have up : ∀ {Hc}, T H Hc → Ex (hid S H) (hid (L :: S) Hc) := fun q => (t.kp q).up fun b hb hn => by
    rcases List.mem_cons.mp hb with z | z
    · rw [z]; exact hL
    · exact absurd z hn
  have kL : ∀ {a b : Hp} {o}, T a b → a L = some o → b L = some o := fun q z => t.kp q L _ nL z
  have hz : ∀ m, m ≤ n → (((List.range m).filter p).map f).length < sizeLine := fun m hm => by
    rw [List.length_map]
    have := List.length_filter_le p (List.range m)
    rw [List.length_range] at this
    exact Nat.lt_of_le_of_lt (Nat.le_trans this hm) (Nat.lt_trans hn (by decide))
  refine lc_it w (fun i Hc => i ≤ n ∧ T H Hc ∧ ∃ us, Hc L = some (.lst us) ∧ DpAll K (hid (L :: S) Hc) us (((List.range i).filter p).map f)) ⟨Nat.zero_le _, t.put hL t.rfl', [], upd_same, .nil⟩ (fun i Hc _ q => hG Hc q.2.1) (fun i x Hc H' hi q y => ?_) fun Hc q => ?_
  · obtain ⟨hi1, t1, us, h1, h2⟩ := q
    obtain ⟨rfl, px⟩ := hY _ _ _ _ hi y
    refine hg i x _ _ hi px t1 fun σ2 hw p2 => ⟨hw, ?_⟩
    have hs1 : ∀ b ∈ L :: S, ∃ o, H' b = some o := fun b hb => by
      rcases List.mem_cons.mp hb with z | z
      · rw [z]; exact ⟨_, h1⟩
      · exact t.st t1 (hS b z)
    refine ht L i σ2 _ hi p2 hL nL t1 hs1 (up t1) _ fun H2 t2 => ?_
    cases hp : p i with
    | true =>
      refine rd_iteT ?_
      refine he L i σ2 H2 hi p2 hp hL nL (t.trans t1 t2) (fun b hb => t.st t2 (hs1 b hb)) (up (t.trans t1 t2)) _ fun v H3 t3 dv => ?_
      have k23 := (t.kp (t.trans t2 t3)).sub (S' := L :: S) fun b hb => List.mem_cons_of_mem _ hb
      refine ⟨us, kL t3 (kL t2 h1), by rw [h2.len]; exact hz i hi1, hi, t.put hL (t.trans (t.trans t1 t2) t3), us ++ [v], upd_same, ?_⟩
      rw [List.range_succ, List.filter_append, List.map_append]
      have e : ((List.filter p [i]).map f) = [f i] := by
        rw [List.filter_cons, if_pos hp]
        rfl
      rw [e]
      exact ((h2.ex k23.ex).snoc dv).ex (Kp.put List.mem_cons_self).ex
    | false =>
      refine rd_iteF ?_
      have k12 := (t.kp t2).sub (S' := L :: S) fun b hb => List.mem_cons_of_mem _ hb
      refine ⟨hi, t.trans t1 t2, us, kL t2 h1, ?_⟩
      rw [List.range_succ, List.filter_append, List.map_append]
      have e : ((List.filter p [i]).map f) = [] := by
        rw [List.filter_cons, if_neg (by rw [hp]; exact Bool.false_ne_true)]
        rfl
      rw [e, List.append_nil]
      exact h2.ex k12.ex
  · obtain ⟨_, t1, us, h1, h2⟩ := q
    exact h L us Hc t1 hL nL h1 h2
/-- a comprehension without a test, each value told by a relation -/
theorem lc_R {S : List Addr} {T : Hp → Hp → Prop} {n : Nat} {G : Hp → Prop} {Y : Nat → Hp → V → Hp → Prop} {P : Nat → V → Prop} {P2 : Nat → L2.St → Prop} (t : Tr S H T) (hS : ∀ b ∈ S, ∃ o, H b = some o) (w : Walk J n G Y) (hY : ∀ i H x H', i < n → Y i H x H' → H' = H ∧ P i x) (hn : n < 100000)
    (hG : ∀ Hc, T H Hc → G Hc) (R : Nat → PyData → Prop)
    (hg : ∀ i x Hc (N : L2.St → Hp → Prop), i < n → P i x → T H Hc → (∀ σ2, wipe σ2 vs = wipe σ vs → P2 i σ2 → N σ2 Hc) → g x (wipe σ vs) Hc N)
    (he : ∀ L i σ2 Hc, i < n → P2 i σ2 → H L = none → L ∉ S → T H Hc → (∀ b ∈ L :: S, ∃ o, Hc b = some o) → Ex (hid S H) (hid (L :: S) Hc) → ∀ N : VK, (∀ v d H2, T Hc H2 → Dp K (hid (L :: S) H2) v d → R i d → N v H2) → te σ2 Hc N)
    (h : ∀ L us Hc ds, T H Hc → H L = none → L ∉ S → Hc L = some (.lst us) → DpAll K (hid (L :: S) Hc) us ds → ds.length = n → (∀ i d, ds[i]? = some d → R i d) → Q (.ref L) Hc) : lcB g tYes te vs σ Q J H := by
  intro L hL
  have nL : L ∉ S := notin_of hS hL
  have up : ∀ {Hc}, T H Hc → Ex (hid S H) (hid (L :: S) Hc) := fun q => (t.kp q).up fun b hb hn => by
    rcases List.mem_cons.mp hb with z | z
    · rw [z]; exact hL
    · exact absurd z hn
  have kL : ∀ {a b : Hp} {o}, T a b → a L = some o → b L = some o := fun q z => t.kp q L _ nL z
  refine lc_it w (fun i Hc => i ≤ n ∧ T H Hc ∧ ∃ us ds, Hc L = some (.lst us) ∧ DpAll K (hid (L :: S) Hc) us ds ∧ ds.length = i ∧ ∀ i d, ds[i]? = some d → R i d) ⟨Nat.zero_le _, t.put hL t.rfl', [], [], upd_same, .nil, rfl, fun i d z => by simp at z⟩ (fun i Hc _ q => hG Hc q.2.1) (fun i x Hc H' hi q y => ?_) fun Hc q => ?_
  · obtain ⟨hi1, t1, us, ds, h1, h2, h3, h4⟩ := q
    obtain ⟨rfl, px⟩ := hY _ _ _ _ hi y
    refine hg i x _ _ hi px t1 fun σ2 hw p2 => ⟨hw, rd_yes ?_⟩
    refine rd_iteT ?_
    have hs1 : ∀ b ∈ L :: S, ∃ o, H' b = some o := fun b hb => by
      rcases List.mem_cons.mp hb with z | z
      · rw [z]; exact ⟨_, h1⟩
      · exact t.st t1 (hS b z)
    refine he L i σ2 _ hi p2 hL nL t1 hs1 (up t1) _ fun v d H3 t3 dv rv => ?_
    have k23 := (t.kp t3).sub (S' := L :: S) fun b hb => List.mem_cons_of_mem _ hb
    refine ⟨us, kL t3 h1, by rw [h2.len, h3]; exact Nat.lt_of_lt_of_le (Nat.lt_trans hi hn) (by decide), hi, t.put hL (t.trans t1 t3), us ++ [v], ds ++ [d], upd_same, ((h2.ex k23.ex).snoc dv).ex (Kp.put List.mem_cons_self).ex, by rw [List.length_append, h3]; rfl, fun i' d' hd' => ?_⟩
    by_cases hlt : i' < ds.length
    · rw [List.getElem?_append_left hlt] at hd'
      exact h4 i' d' hd'
    · rw [List.getElem?_append_right (by omega)] at hd'
      have e0 : i' - ds.length = 0 := by
        rcases Nat.eq_zero_or_pos (i' - ds.length) with z | z
        · exact z
        · rw [List.getElem?_eq_none (by simp; omega)] at hd'
          cases hd'
      rw [e0] at hd'
      obtain rfl : d = d' := Option.some.inj hd'
      have e3 : i' = i := by omega
      rw [e3]
      exact rv
  · obtain ⟨_, t1, us, ds, h1, h2, h3, h4⟩ := q
    exact h L us Hc ds t1 hL nL h1 h2 h3 h4
/-- one name as the target -/
theorem hg_name {T : Hp → Hp → Prop} {n j : Nat} {P : Nat → V → Prop} {H : Hp} (hw : ∀ v : V, wipe ((wipe σ [j]).set j (some v)) [j] = wipe σ [j]) : ∀ i x Hc (N : L2.St → Hp → Prop), i < n → P i x → T H Hc → (∀ σ2, wipe σ2 [j] = wipe σ [j] → (∃ v, P i v ∧ σ2 = (wipe σ [j]).set j (some v)) → N σ2 Hc) → gName j x (wipe σ [j]) Hc N :=
  fun i x Hc N _ p _ h => h _ (hw x) ⟨x, p, rfl⟩
theorem wd_Y {n : Nat} : ∀ (i : Nat) (H : Hp) (x : V) (H' : Hp), i < n → YD K ds H0 i H x H' → H' = H ∧ ∃ d, ds[i]? = some d ∧ Dp K H0 x d := fun _ _ _ _ _ y => y
theorem str_Y {z : Str} : ∀ (i : Nat) (H : Hp) (x : V) (H' : Hp), i < z.cps.size → (H' = H ∧ ∃ c, z.cps[i]? = some c ∧ x = .str ⟨#[c]⟩) → H' = H ∧ ∃ c, z.cps.toList[i]? = some c ∧ x = V.str ⟨#[c]⟩ := fun i H x H' _ y => ⟨y.1, by
  obtain ⟨c, h1, h2⟩ := y.2
  exact ⟨c, by rw [Array.getElem?_toList]; exact h1, h2⟩⟩
/-! over data, one name as the target -/
theorem getD_range {α β : Type} (l : List α) (a : α) (q : α → Bool) (f : α → β) : ((List.range l.length).filter (fun i => q (l.getD i a))).map (fun i => f (l.getD i a)) = (l.filter q).map f := by
  have e : (List.range l.length).map (fun i => l.getD i a) = l := by
    refine List.ext_getElem (by simp) fun i h1 h2 => ?_
    rw [List.getElem_map, List.getElem_range, List.getD_eq_getElem?_getD, List.getElem?_eq_getElem h2]
    rfl
  have h : ((List.range l.length).map (fun i => l.getD i a)).filter q = ((List.range l.length).filter (fun i => q (l.getD i a))).map (fun i => l.getD i a) := List.filter_map ..
  rw [e] at h
  rw [h, List.map_map]
  rfl
theorem lc_FD {S : List Addr} {T : Hp → Hp → Prop} {j : Nat} (t : Tr S H T) (hS : ∀ b ∈ S, ∃ o, H b = some o) (w : Wd K J ds H0) (e0 : Ex H0 (hid S H)) (hn : ds.length < 100000) (hw : ∀ v : V, wipe ((wipe σ [j]).set j (some v)) [j] = wipe σ [j])
    (q : PyData → Bool) (F : PyData → PyData)
    (ht : ∀ L d v Hc, d ∈ ds → Dp K (hid (L :: S) Hc) v d → H L = none → L ∉ S → T H Hc → (∀ b ∈ L :: S, ∃ o, Hc b = some o) → Ex (hid S H) (hid (L :: S) Hc) → ∀ N : Bool → Hp → Prop, (∀ H2, T Hc H2 → N (q d) H2) → tt ((wipe σ [j]).set j (some v)) Hc N)
    (he : ∀ L d v Hc, d ∈ ds → Dp K (hid (L :: S) Hc) v d → q d = true → H L = none → L ∉ S → T H Hc → (∀ b ∈ L :: S, ∃ o, Hc b = some o) → Ex (hid S H) (hid (L :: S) Hc) → ∀ N : VK, (∀ v H2, T Hc H2 → Dp K (hid (L :: S) H2) v (F d) → N v H2) → te ((wipe σ [j]).set j (some v)) Hc N)
    (h : ∀ L us Hc, T H Hc → H L = none → L ∉ S → Hc L = some (.lst us) → DpAll K (hid (L :: S) Hc) us ((ds.filter q).map F) → Q (.ref L) Hc) : lcB (gName j) tt te [j] σ Q J H := by
  have hd : ∀ {i : Nat} {d : PyData}, ds[i]? = some d → ds.getD i .none = d := fun z => by rw [List.getD_eq_getElem?_getD, z]; rfl
  refine lc_F (K := K) (P := fun i x => ∃ d, ds[i]? = some d ∧ Dp K H0 x d) t hS w wd_Y hn (fun Hc z => (e0.trans (t.kp z).ex).trans hid_ex) (fun i => q (ds.getD i .none)) (fun i => F (ds.getD i .none)) (hg_name hw) (fun L i σ2 Hc hi p2 hL nL t1 hs up N hN => ?_) (fun L i σ2 Hc hi p2 hp hL nL t1 hs up N hN => ?_) fun L us Hc t1 hL nL h1 h2 => ?_
  · obtain ⟨v, ⟨d, h1, h2⟩, rfl⟩ := p2
    exact ht L d v Hc (List.mem_of_getElem? h1) (h2.ex (e0.trans up)) hL nL t1 hs up N fun H2 t2 => by have := hN H2 t2; rw [hd h1] at this; exact this
  · obtain ⟨v, ⟨d, h1, h2⟩, rfl⟩ := p2
    rw [hd h1] at hp
    exact he L d v Hc (List.mem_of_getElem? h1) (h2.ex (e0.trans up)) hp hL nL t1 hs up N fun v2 H2 t2 d2 => hN v2 H2 t2 (by rw [hd h1]; exact d2)
  · rw [getD_range] at h2
    exact h L us Hc t1 hL nL h1 h2
theorem lc_MD {S : List Addr} {T : Hp → Hp → Prop} {j : Nat} (t : Tr S H T) (hS : ∀ b ∈ S, ∃ o, H b = some o) (w : Wd K J ds H0) (e0 : Ex H0 (hid S H)) (hn : ds.length < 100000) (hw : ∀ v : V, wipe ((wipe σ [j]).set j (some v)) [j] = wipe σ [j])
    (F : PyData → PyData)
    (he : ∀ L d v Hc, d ∈ ds → Dp K (hid (L :: S) Hc) v d → H L = none → L ∉ S → T H Hc → (∀ b ∈ L :: S, ∃ o, Hc b = some o) → Ex (hid S H) (hid (L :: S) Hc) → ∀ N : VK, (∀ v H2, T Hc H2 → Dp K (hid (L :: S) H2) v (F d) → N v H2) → te ((wipe σ [j]).set j (some v)) Hc N)
    (h : ∀ L us Hc, T H Hc → H L = none → L ∉ S → Hc L = some (.lst us) → DpAll K (hid (L :: S) Hc) us (ds.map F) → Q (.ref L) Hc) : lcB (gName j) tYes te [j] σ Q J H := by
  refine lc_FD (K := K) t hS w e0 hn hw (fun _ => true) F (fun L d v Hc _ _ _ _ t1 _ _ N hN => rd_yes (hN Hc (t.here t1))) (fun L d v Hc hm hd _ hL nL t1 hs up N hN => he L d v Hc hm hd hL nL t1 hs up N hN) fun L us Hc t1 hL nL h1 h2 => ?_
  rw [List.filter_eq_self.mpr fun _ _ => rfl] at h2
  exact h L us Hc t1 hL nL h1 h2
theorem ex_up1 {H H' : Hp} {q : Addr} (e : Ex H H') (hq : H q = none) : Ex H (hid [q] H') := fun b o z => by
  rw [hid_at (fun m => by rw [List.mem_singleton.mp m, hq] at z; cases z)]
  exact e b o z
theorem st1 {H : Hp} {q : Addr} {o : HO} (h : H q = some o) : ∀ b ∈ [q], ∃ o, H b = some o := fun b hb => by
  cases List.mem_singleton.mp hb
  exact ⟨o, h⟩
theorem sts_ex {S : List Addr} {H H' : Hp} (h : ∀ b ∈ S, ∃ o, H b = some o) (e : Ex H H') : ∀ b ∈ S, ∃ o, H' b = some o := fun b hb => by
  obtain ⟨o, z⟩ := h b hb
  exact ⟨o, e b o z⟩
theorem ex_nil {H H' : Hp} (e : Ex H H') : Ex H (hid [] H') := by rw [hid_nil]; exact e
def isN : PyData → Bool
  | .none => true
  | _ => false
theorem isN_dp {H : Hp} {v : V} {d : PyData} (h : Dp K H v d) : decide (v = .non) = isN d := by
  cases h <;> rfl
/-- the values of plain data -/
theorem dp_strs {H : Hp} : ∀ {vs : List V} {ss : List Str}, DpAll K H vs (ss.map PyData.str) → vs = ss.map V.str
  | _, [], h => by cases h; rfl
  | _, s :: ss, h => by
    cases h with
    | cons h1 h2 => rw [Dp.str_iff h1, dp_strs h2]; rfl
theorem dp_ints' {H : Hp} : ∀ {vs : List V} {ss : List Int}, DpAll K H vs (ss.map PyData.int) → vs = ss.map V.int
  | _, [], h => by cases h; rfl
  | _, s :: ss, h => by
    cases h with
    | cons h1 h2 => rw [Dp.int_iff h1, dp_ints' h2]; rfl
theorem dp_bls {H : Hp} : ∀ {vs : List V} {ss : List Bool}, DpAll K H vs (ss.map PyData.bool) → vs = ss.map V.bl
  | _, [], h => by cases h; rfl
  | _, s :: ss, h => by
    cases h with
    | cons h1 h2 => rw [Dp.bl_iff h1, dp_bls h2]; rfl
theorem dps_str {H : Hp} (ss : List Str) : DpAll K H (ss.map V.str) (ss.map PyData.str) := DpAll.mapV _ _ _ fun x _ => .str x
theorem dps_int {H : Hp} (ss : List Int) : DpAll K H (ss.map V.int) (ss.map PyData.int) := DpAll.mapV _ _ _ fun x _ => .int x
theorem dps_bl {H : Hp} (ss : List Bool) : DpAll K H (ss.map V.bl) (ss.map PyData.bool) := DpAll.mapV _ _ _ fun x _ => .bl x
end
end
section
variable {X : Cx} (K : PySem.W.Frag) (hK : X.K = K := by rfl)
include hK
theorem kGt {e : Expr} {n : Nat} {t : TGs} (h : PG X e (gTup X.K n t)) : PG X e (gTup K n t) := hK ▸ h
end
section
variable {K : PySem.W.Frag} {σ : L2.St} {H H0 : Hp} {v : V} {Q : L2.St → Hp → Prop} {t : TGs} {ds : List PyData}
/-- a, b = a tuple of data -/
theorem rd_gtD {n : Nat} (e : Ex H0 H) (h : Dp K H0 v (.tuple ds)) (hn : ds.length = n) (q : ∀ xs, DpAll K H0 xs ds → t xs σ H Q) : gTup K n t v σ H Q := by
  obtain ⟨a, vs, rfl, h1, h2⟩ := Dp.tupv h
  exact ⟨a, vs, rfl, Evl.ex_t e h1, by rw [h2.len, hn], q vs h2⟩
theorem dp2 {a b : PyData} {xs : List V} (h : DpAll K H0 xs [a, b]) : ∃ x y, xs = [x, y] ∧ Dp K H0 x a ∧ Dp K H0 y b := by
  cases h with
  | cons h1 h =>
    cases h with
    | cons h2 h =>
      cases h
      exact ⟨_, _, rfl, h1, h2⟩
theorem rd_gN {i : Nat} {tg : TGs} {x : V} {xs : List V} (h : tg xs (σ.set i (some x)) H Q) : gCons (gName i) tg (x :: xs) σ H Q := ⟨_, _, rfl, h⟩
theorem rd_gE (h : Q σ H) : gNil [] σ H Q := ⟨rfl, h⟩
end
/-! ### hiding what data can't reach -/
mutual
def noList : PyData → Bool
  | .list _ => false
  | .tuple ds => noListAll ds
  | _ => true
def noListAll : List PyData → Bool
  | [] => true
  | d :: ds => noList d && noListAll ds
end
section
variable {K : PySem.W.Frag} {S : List Addr} {H : Hp}
theorem sqt_hid (h : ∀ b ∈ S, (∃ C dx fs, H b = some (.ins C dx fs)) ∨ ∃ xs, H b = some (.lst xs)) {a : Addr} {vs : List V} (q : SqT K H a vs) : SqT K (hid S H) a vs := by
  rcases q with (q | ⟨o, q⟩) | q
  · refine .inl (.inl ?_)
    rw [hid_at fun hb => ?_]
    · exact q
    · rcases h a hb with ⟨_, _, _, z⟩ | ⟨_, z⟩ <;> rw [z] at q <;> cases q
  · refine .inl (.inr ⟨o, ?_⟩)
    rw [hid_at fun hb => ?_]
    · exact q
    · rcases h a hb with ⟨_, _, _, z⟩ | ⟨_, z⟩ <;> rw [z] at q <;> cases q
  · exact .inr q
theorem sql_hid (h : ∀ b ∈ S, ∃ C dx fs, H b = some (.ins C dx fs)) {a : Addr} {vs : List V} (q : SqL K H a vs) : SqL K (hid S H) a vs := by
  rcases q with (q | ⟨o, q⟩) | q
  · refine .inl (.inl ?_)
    rw [hid_at fun hb => ?_]
    · exact q
    · obtain ⟨_, _, _, z⟩ := h a hb
      rw [z] at q; cases q
  · refine .inl (.inr ⟨o, ?_⟩)
    rw [hid_at fun hb => ?_]
    · exact q
    · obtain ⟨_, _, _, z⟩ := h a hb
      rw [z] at q; cases q
  · exact .inr q
mutual
theorem Dp.hidI (h : ∀ b ∈ S, ∃ C dx fs, H b = some (.ins C dx fs)) : ∀ (d : PyData) {v : V}, Dp K H v d → Dp K (hid S H) v d
  | .none, _, q => by cases q; exact .non
  | .bool b, _, q => by cases q; exact .bl b
  | .int i, _, q => by cases q; exact .int i
  | .str x, _, q => by cases q; exact .str x
  | .list ds, _, q => by
    cases q with
    | lst hs ha => exact .lst (sql_hid h hs) (DpAll.hidI h ds ha)
  | .tuple ds, _, q => by
    cases q with
    | tup hs ha => exact .tup (sqt_hid (fun b hb => .inl (h b hb)) hs) (DpAll.hidI h ds ha)
  | .dict _, _, q => by cases q
theorem DpAll.hidI (h : ∀ b ∈ S, ∃ C dx fs, H b = some (.ins C dx fs)) : ∀ (ds : List PyData) {vs : List V}, DpAll K H vs ds → DpAll K (hid S H) vs ds
  | [], _, q => by cases q; exact .nil
  | d :: ds, _, q => by
    cases q with
    | cons h1 h2 => exact .cons (Dp.hidI h d h1) (DpAll.hidI h ds h2)
end
mutual
theorem Dp.hidT (h : ∀ b ∈ S, (∃ C dx fs, H b = some (.ins C dx fs)) ∨ ∃ xs, H b = some (.lst xs)) : ∀ (d : PyData) {v : V}, noList d = true → Dp K H v d → Dp K (hid S H) v d
  | .none, _, _, q => by cases q; exact .non
  | .bool b, _, _, q => by cases q; exact .bl b
  | .int i, _, _, q => by cases q; exact .int i
  | .str x, _, _, q => by cases q; exact .str x
  | .list ds, _, n, q => by cases n
  | .tuple ds, _, n, q => by
    cases q with
    | tup hs ha => exact .tup (sqt_hid h hs) (DpAll.hidT h ds n ha)
  | .dict _, _, _, q => by cases q
theorem DpAll.hidT (h : ∀ b ∈ S, (∃ C dx fs, H b = some (.ins C dx fs)) ∨ ∃ xs, H b = some (.lst xs)) : ∀ (ds : List PyData) {vs : List V}, noListAll ds = true → DpAll K H vs ds → DpAll K (hid S H) vs ds
  | [], _, _, q => by cases q; exact .nil
  | d :: ds, _, n, q => by
    obtain ⟨n1, n2⟩ := Bool.and_eq_true_iff.mp n
    cases q with
    | cons h1 h2 => exact .cons (Dp.hidT h d n1 h1) (DpAll.hidT h ds n2 h2)
end
theorem noList_all {ds : List PyData} (h : ∀ d ∈ ds, noList d = true) : noListAll ds = true := by
  induction ds with
  | nil => rfl
  | cons d ds ih =>
    show (noList d && noListAll ds) = true
    rw [h d List.mem_cons_self, ih fun e he => h e (List.mem_cons_of_mem _ he)]
    rfl
/-- a list or a tuple of data -/
def SqD (K : PySem.W.Frag) (H : Hp) (x : V) (ds : List PyData) : Prop := Dp K H x (.list ds) ∨ Dp K H x (.tuple ds)
theorem SqD.ex {H' : Hp} {x : V} {ds : List PyData} (h : SqD K H x ds) (e : Ex H H') : SqD K H' x ds := h.elim (fun z => .inl (z.ex e)) fun z => .inr (z.ex e)
theorem rd_anySq {σ : L2.St} {H0 : Hp} {te : TE} {x : V} {ds : List PyData} {R : It → Hp → Prop} (he : ∀ Q : VK, Q x H → te σ H Q) (e : Ex H0 H) (h : SqD K H0 x ds) (q : ∀ J, Wd K J ds H0 → R J H) : iAny K te σ H R := by
  rcases h with h | h
  · exact rd_anyL' (he _ (rd_itDL e h q))
  · exact rd_anyT' (he _ (rd_itDT e h q))
/-- tuple(x) -/
theorem rd_tupSq {S : List Addr} {H0 : Hp} {x : V} {ds : List PyData} {Q : VK} (hs : ∀ b ∈ S, ∃ o, H b = some o) (e : Ex H0 (hid S H)) (h : SqD K H0 x ds) (q : ∀ a H', Ex H H' → Dp K (hid S H') (.ref a) (.tuple ds) → Q (.ref a) H') : cTupOf K [x] H Q := by
  rcases h with h | h
  · obtain ⟨a, vs, rfl, h1, h2⟩ := Dp.lstv h
    exact rd_tupL (Evl.ex_l (e.trans hid_ex) h1) fun l hl => q l _ (Evl.Ex.new hl) (Dp.newT hl (notin_of hs hl) (h2.ex e))
  · obtain ⟨a, vs, rfl, h1, h2⟩ := Dp.tupv h
    exact rd_tupT (Evl.ex_t (e.trans hid_ex) h1) (q a H (Evl.Ex.refl H) (h.ex e))
/-- list(x) -/
theorem rd_lstSq {S : List Addr} {H0 : Hp} {x : V} {ds : List PyData} {Q : VK} (e : Ex H0 (hid S H)) (h : SqD K H0 x ds) (q : ∀ l vs, H l = none → DpAll K (hid S H) vs ds → Q (.ref l) (upd H l (.lst vs))) : cLstOf K [x] H Q := by
  rcases h with h | h
  · obtain ⟨a, vs, rfl, h1, h2⟩ := Dp.lstv h
    exact rd_lstL (.inl (Evl.ex_l (e.trans hid_ex) h1)) fun l hl => q l vs hl (h2.ex e)
  · obtain ⟨a, vs, rfl, h1, h2⟩ := Dp.tupv h
    exact rd_lstL (.inr (Evl.ex_t (e.trans hid_ex) h1)) fun l hl => q l vs hl (h2.ex e)
end
section
variable {K : PySem.W.Frag} {H : Hp}
theorem rd_lstSq0 {H0 : Hp} {x : V} {ds : List PyData} {Q : VK} (e : Ex H0 H) (h : SqD K H0 x ds) (q : ∀ l vs, H l = none → DpAll K H0 vs ds → Q (.ref l) (upd H l (.lst vs))) : cLstOf K [x] H Q := by
  rcases h with h | h
  · obtain ⟨a, vs, rfl, h1, h2⟩ := Dp.lstv h
    exact rd_lstL (.inl (Evl.ex_l e h1)) fun l hl => q l vs hl h2
  · obtain ⟨a, vs, rfl, h1, h2⟩ := Dp.tupv h
    exact rd_lstL (.inr (Evl.ex_t e h1)) fun l hl => q l vs hl h2
end
theorem rd_par3 {i j l : Nat} {ta : TA} {D : Ends} {σ : L2.St} {H : Hp} (h : ta σ H fun vs H1 => ∃ u v w, vs = [u, v, w] ∧ D.nx (((σ.set i (some u)).set j (some v)).set l (some w)) H1) : tPar3 i j l ta D σ H := h
theorem rd_v3 {u v w : V} {P : V → V → V → Prop} (h : P u v w) : ∃ u' v' w', [u, v, w] = [u', v', w'] ∧ P u' v' w' := ⟨u, v, w, rfl, h⟩
end AT

set_option Elab.async false
set_option linter.all false
set_option maxRecDepth 100000
set_option maxHeartbeats 4000000
/-! own words, fifth part: dicts whose keys are tuples, lists unpacked, while -/
namespace AT
open PySem PySem.Spec PyProof.Rows L2
/-- {k: v}, the key a tuple -/
def tDisp1T (tk tv : TE) : TE := fun σ H Q => ∀ p, H p = none → tk σ (upd H p (.dT [])) fun x H1 => tv σ H1 fun y H2 => H2 p = some (.dT []) ∧ ∃ (b : Addr) (k : List Key), x = .ref b ∧ H2 b = some (.tup (k.map kV)) ∧ Q (.ref p) (upd H2 p (.dT [(k, y)]))
section
variable {X : Cx} {pos : Pos} {k v : Expr} {tk tv : TE}
theorem pe_disp1T (hu : X.A.units + 1 < cLine) (hk : PE X k tk) (hv : PE X v tv) : PE X (.Dict [some k] [v] pos) (tDisp1T tk tv) := by
  refine ⟨fun pins s σ H Q I q => ?_⟩
  have hn := I.hok.fresh (Nat.le_refl s.heap.objs.size)
  have I1 := I.laid (a := s.heap.objs.size) (o := .dT []) (t' := s.toks) (fun _ _ z => Heap.get?_push_of_some _ z) (Nat.le_refl _) (dt_empty s.heap I.big)
  have hz := zip_pairTrees [some k] [v] X.env pos rfl rfl
  have hl : (pairTrees [some k] [v] X.env pos).length = 1 := pairTrees_length [some k] [v] X.env pos rfl rfl
  have hne : pairTrees [some k] [v] X.env pos ≠ [] := fun z => by rw [z] at hl; cases hl
  have room : (tupleKind (mixKind X.prog X.w)).room X.A := Nat.lt_of_succ_lt hu
  rw [arm_eval_Dict, hz, dictDisplay_pairs _ hne (by rw [hl]; decide)]
  refine wpAny_bind (wpAny_standAt (wpAny_bind ?_))
  refine wpAny_subDictH (knd := tupleKind (mixKind X.prog X.w)) room (by rw [hl]; decide) ?_
  refine pairTrees_cons_walk (thn (hk.run pins _ σ _ _ I1 (q _ hn)) fun u s1 ⟨x, H1, I1', rx, q1⟩ => thn (hv.run pins s1 σ H1 _ I1' q1) fun w2 s2 ⟨y, H2, I2, ry, q2⟩ => pairTrees_nil_walk ?_)
  obtain ⟨e, b, ks, rfl, eb, q3⟩ := q2
  cases (show u = Value.ref b from rx)
  obtain ⟨z, hd, xs0, r0, dd⟩ := dt_of I2.hok e
  cases r0
  refine ⟨[(ks, b, w2)], ⟨rfl, rfl, key_of I2.hok eb, True.intro⟩, dd, fun h' tk dd' hs => wpAny_pure ⟨.ref s.heap.objs.size, _, ?_, rfl, q3⟩⟩
  have e1 : storedAllH [] [(ks, b, w2)] = [(ks, b, w2)] := rfl
  rw [e1] at dd'
  obtain ⟨o, es, ep, ho, h2, h3, h4, h5, h6⟩ := dd'
  refine d_write I2 (by rw [e]; exact True.intro) hs ⟨o, ho⟩ ⟨by show 1 ≤ sizeLine; decide, hd, [(ks, b, w2)], .cons ⟨rfl, ?_, ry⟩ .nil, o, es, ep, ho, h2, h3, h4, h6⟩
  show upd H2 s.heap.objs.size _ b = _
  rw [upd_ne (ne_of eb e (fun z => nomatch z))]
  exact eb
end
section
variable {X : Cx} (K : PySem.W.Frag) (hK : X.K = K := by rfl)
include hK
theorem kGl {e : Expr} {n : Nat} {t : TGs} (h : PG X e (gLst X.K n t)) : PG X e (gLst K n t) := hK ▸ h
end
section
variable {K : PySem.W.Frag} {σ : L2.St} {H : Hp} {Q : VK} {D : Ends} {td ty tv tk : TE} {tt : TT} {tb : TS}
theorem rd_dget (h : td σ H fun x H1 => ty σ H1 fun y H2 => ∃ a v, x = .ref a ∧ DGet H2 a y (some v) ∧ Q v H2) : tDGet td ty σ H Q := h
theorem rd_din (h : ty σ H fun y H1 => td σ H1 fun x H2 => ∃ a o, x = .ref a ∧ DGet H2 a y o ∧ Q (.bl o.isSome) H2) : tDIn ty td σ H Q := h
theorem rd_dnin (h : ty σ H fun y H1 => td σ H1 fun x H2 => ∃ a o, x = .ref a ∧ DGet H2 a y o ∧ Q (.bl (!o.isSome)) H2) : tDNotIn ty td σ H Q := h
theorem rd_dput (h : tv σ H fun v H1 => td σ H1 fun x H2 => ty σ H2 fun y H3 => ∃ a H4, x = .ref a ∧ DPut H3 a y v H4 ∧ D.nx σ H4) : sDPut td ty tv D σ H := h
theorem rd_disp1T (h : ∀ p, H p = none → tk σ (upd H p (.dT [])) fun x H1 => tv σ H1 fun y H2 => H2 p = some (.dT []) ∧ ∃ (b : Addr) (k : List Key), x = .ref b ∧ H2 b = some (.tup (k.map kV)) ∧ Q (.ref p) (upd H2 p (.dT [(k, y)]))) : tDisp1T tk tv σ H Q := h
theorem rd_dnK (h : ∀ p, H p = none → Q (.ref p) (upd H p (.dK []))) : tDNewK σ H Q := h
theorem rd_dnT (h : ∀ p, H p = none → Q (.ref p) (upd H p (.dT []))) : tDNewT σ H Q := h
theorem rd_wh (W : Nat → L2.St → Hp → Prop) (m0 : Nat) (h0 : W m0 σ H) (hs : ∀ m σ' H', W m σ' H' → tt σ' H' fun b H1 => if b = true then ∃ N : L2.St → Hp → Prop, (∀ σ2 H2, N σ2 H2 → ∃ m', m' < m ∧ W m' σ2 H2) ∧ tb { D with nx := N, ct := N, bk := D.nx } σ' H1 else D.nx σ' H1) : tWhile tt tb D σ H := ⟨W, ⟨m0, h0⟩, hs⟩
end
end AT

set_option Elab.async false
set_option linter.all false
set_option maxRecDepth 100000
set_option maxHeartbeats 4000000
/-! own words, sixth part: enumerate over tuples and texts -/
namespace AT
open PySem PySem.Spec PyProof.Rows L2
open AutoSeq1 (wpAny_loadPart')
section
theorem tupIn {h : Heap} {a : Addr} {its : Array Value} (p : IsTup h a its) : h.IsTuple a its := by
  obtain ⟨o, e1, e2, n, e3⟩ := p
  exact ⟨o, e1, e2, n, e3⟩
/-- a tuple, item by item -/
theorem draws_tup {P : Program} {w : World} {B : Around} (calm : B.handled = none) (z q : Addr) (hq : q ≠ z) (vs : Array Value) :
    Draws P w B z [z, q] vs.size (fun k v => vs[k]? = some v) (fun k g => g.IsTupleIter z q k ∧ g.IsTuple q vs) := by
  refine ⟨fun _ _ st => ?_, fun _ _ _ st hk => ?_, fun k s Q E hk st hQ => ?_, fun s Q E st hE => ?_⟩
  · obtain ⟨⟨o, e, _⟩, _⟩ := st
    exact ⟨o, e⟩
  · exact ⟨Heap.IsTupleIter.at st.1 fun o e => hk z List.mem_cons_self o e, Heap.IsTuple.at st.2 fun o e => hk q (List.mem_cons_of_mem _ List.mem_cons_self) o e⟩
  · have hx : vs[k]? = some vs[k] := by simp [hk]
    exact RZ.nextOf_tuple_item st.1 st.2 hx fun g g1 g2 => hQ _ g s.toks hx ⟨g1, Heap.IsTuple.extBut st.2 g2.extBut hq⟩ g2
  · exact RZ.nextOf_tuple_end calm st.1 st.2 (by simp) hE
theorem enumNewT (q : Addr) (vs : Array Value) (k : Nat) (od : Option Addr) (sl : Array (Option Value)) :
    Meets (Builtin.«enumerate.__new__» ⟨[.type "enumerate", .ref q], []⟩) (fun _ R s => s.heap.get? q = some ⟨.type "tuple", od, .seq vs k, sl⟩ ∧
      R (.ok (.ret (.ref (s.heap.push { cls := .type "tuple_iterator", data := .fields #[.ref q, .int 0 0] }).objs.size)))
        ⟨(s.heap.push { cls := .type "tuple_iterator", data := .fields #[.ref q, .int 0 0] }).push { cls := .type "enumerate", data := .fields #[.none, .bool false, .ref s.heap.objs.size, rawInt 0, .none, .none] }, s.gens, s.drawn, s.toks, s.os⟩) :=
  .of_wp fun prog w A R s h => by
    obtain ⟨hp, g, d, tk, os⟩ := s
    obtain ⟨hl, h⟩ := h
    have sub := sub_enumerate
    have tup : Heap.IsTuple (Shared.heap ⟨hp, g, d, tk, os⟩) q vs := ⟨_, hl, rfl, k, rfl⟩
    wp_walk using wpAny_loadPart' hl
    refine wpAny_stack_any fun _ => wpAny_pure ?_
    split
    · rename_i c _ _ _ _ _
      cases (c == Value.type "enumerate") <;>
        (wp_walk using wpAny_loadPart' hl, wpAny_pyIter_tuple tup
         exact ⟨_, rfl, h⟩)
    · wp_walk using wpAny_loadPart' hl, wpAny_pyIter_tuple tup
      exact ⟨_, rfl, h⟩
theorem callEnumT {P : Program} {w : World} {B : Around} {E : Value → Shared → Prop} {s : Shared} {q : Addr} {vs : Array Value} {Q : Value → Shared → Prop} (tup : s.heap.IsTuple q vs)
    (hQ : ∀ g, IsEnum g (s.heap.objs.size + 1) s.heap.objs.size 0 .none → g.IsTupleIter s.heap.objs.size q 0 → (∀ b o, s.heap.get? b = some o → g.get? b = some o) → Q (.ref (s.heap.objs.size + 1)) { s with heap := g }) :
    wpAny (model P w) B (call (.type "enumerate") [.ref q]) Q E s := by
  obtain ⟨⟨c, od, dt, sl⟩, hl, hc, k, hd⟩ := tup
  obtain rfl : c = .type "tuple" := hc
  obtain rfl : dt = .seq vs k := hd
  refine callType_new F.called_enumerate (by decide) (F.typeCall_enumerate_1 _) (F.newCall_enumerate_1 _) (fun x => F.args_object_init_2 x _) F.entry_enumerate_new (enumNewT q vs k od sl) ⟨hl, ?_⟩
  have size1 : (s.heap.push { cls := .type "tuple_iterator", data := .fields #[.ref q, .int 0 0] }).objs.size = s.heap.objs.size + 1 := Heap.size_push ..
  show _ ∧ _
  rw [size1]
  have made : IsEnum ((s.heap.push { cls := .type "tuple_iterator", data := .fields #[.ref q, .int 0 0] }).push { cls := .type "enumerate", data := .fields #[.none, .bool false, .ref s.heap.objs.size, rawInt 0, .none, .none] }) (s.heap.objs.size + 1) s.heap.objs.size 0 .none := by
    have e := Heap.get?_push_size (s.heap.push { cls := .type "tuple_iterator", data := .fields #[.ref q, .int 0 0] }) (o := { cls := .type "enumerate", data := .fields #[.none, .bool false, .ref s.heap.objs.size, rawInt 0, .none, .none] }) rfl
    rw [size1] at e
    exact e
  exact ⟨⟨_, made, rfl⟩, hQ _ made ⟨_, Heap.get?_push_of_some _ (Heap.get?_push_size _ rfl), rfl, rfl⟩ fun b o z => Heap.get?_push_of_some _ (Heap.get?_push_of_some _ z)⟩
/-- the tuple at q, each item in a new pair -/
def ItEt (K : PySem.W.Frag) (q : Addr) : It where
  go := fun i H => ∃ (xs : List V) (x : V), SqT K H q xs ∧ xs[i]? = some x
  yld := fun i H v H' => ∃ T x, v = .ref T ∧ H T = none ∧ H' = upd H T (.tup [.int (i : Nat), x]) ∧ ∀ xs, SqT K H q xs → xs[i]? = some x
  stop := fun i H => ∃ xs : List V, SqT K H q xs ∧ xs.length = i
theorem turn_enumT {P : Program} {w : World} {K : PySem.W.Frag} {tgs : List Expr} {kk : Nat} {tp : Pos} (q e z : Addr) :
    Turn P w K (.Tuple tgs kk tp) (ItEt K q) [e, z] e (fun i g => (∃ old, IsEnum g e z ((i : Nat) : Int) old) ∧ g.IsTupleIter z q i ∧ e ≠ z ∧ q ≠ z ∧ q ≠ e) := by
  refine ⟨List.mem_cons_self, fun i g st b hb => ?_, fun i g g' st k => ?_, ?_, ?_, fun B i s Q E st h => ?_⟩
  · obtain ⟨⟨old, he⟩, ⟨o, ho, hc, hd⟩, _⟩ := st
    rcases List.mem_cons.mp hb with y | y
    · rw [y]; exact ⟨_, he, fun v t => nomatch t⟩
    · rw [List.mem_singleton.mp y]; exact ⟨o, ho, fun v t => by rw [hd] at t; cases t⟩
  · obtain ⟨⟨old, he⟩, hz, ne⟩ := st
    exact ⟨⟨old, k e List.mem_cons_self _ he⟩, Heap.IsTupleIter.at hz fun o t => k z (List.mem_cons_of_mem _ List.mem_cons_self) o t, ne⟩
  · intro X hP hw hK hc i pins s σ H E I hf st hg
    subst hP hw hK
    obtain ⟨⟨old, he⟩, hz, ne, n1, n2⟩ := st
    obtain ⟨xs, x, hq, hx⟩ := hg
    obtain ⟨its, rv, p, len⟩ := I.tuple hq
    obtain ⟨u, hu, ru⟩ := rv.get hx
    have lt : i < its.toArray.size := by
      have := (List.getElem?_eq_some_iff.mp hu).1
      simpa using this
    have heL : e < s.heap.objs.size := Heap.lt_size he
    have hzL : z < s.heap.objs.size := by obtain ⟨_, t, _⟩ := hz; exact Heap.lt_size t
    refine wpAny_pyNext_enum_itemD (draws_tup (P := X.prog) (w := X.w) (B := X.A.in1) (show X.A.in1.handled = none from I.ok.hd hc) z q n1 its.toArray) he ⟨hz, tupIn p⟩ lt ne (by simp [ne, Ne.symm n2]) fun u' g tk hu' ho st' hT hsz hk => ?_
    have eu : u' = u := by
      have a : its.toArray[i]? = some u := by simpa using hu
      rw [a] at hu'
      exact (Option.some.inj hu').symm
    subst eu
    refine ⟨_, rfl, wpAny_letOwnedTupleGo_enum (s := { s with heap := g, toks := tk + 1 }) ho fun g2 he' sb => ?_⟩
    have hT2 : g2.get? s.heap.objs.size = some { cls := .type "tuple", data := .seq #[.int i tk, u'] } := (sb.2 _ (Nat.ne_of_gt heL)).trans hT
    have fresh : ObjOk X.prog X.w (upd H s.heap.objs.size (.tup [.int (i : Nat), x])) g2 s.heap.objs.size (.tup [.int (i : Nat), x]) := ⟨by show 2 ≤ sizeLine; decide, [.int i tk, u'], .cons ⟨_, rfl⟩ (.cons ru .nil), ⟨_, hT2, rfl, _, rfl⟩⟩
    have I1 : Inv X pins σ (upd H s.heap.objs.size (.tup [.int (i : Nat), x])) { s with heap := g2, toks := tk + 1 } :=
      I.turnedNew (ch := [e, z]) (fun b ob hb t => (sb.2 b (fun y => hb (by simp [y]))).trans (hk b ob (fun y => hb (by simp [y])) (fun y => hb (by simp [y])) t)) hf (Nat.le_refl _) fresh
    refine ⟨.ref s.heap.objs.size, _, I1, rfl, ⟨_, x, rfl, I.hok.fresh (Nat.le_refl _), rfl, fun ys hy => by rw [I.tuple_inj hy hq]; exact hx⟩, ⟨⟨u', ?_⟩, Heap.IsTupleIter.at st'.1 fun o t => (sb.2 z (Ne.symm ne)).trans t, ne, n1, n2⟩, fun b hb => ?_⟩
    · have e1 : ((i + 1 : Nat) : Int) = (i : Int) + 1 := by omega
      rw [e1]
      exact he'
    · have hb' : b < s.heap.objs.size := by
        rcases List.mem_cons.mp hb with y | y
        · rw [y]; exact heL
        · rw [List.mem_singleton.mp y]; exact hzL
      rw [upd_ne (Nat.ne_of_lt hb')]
      exact (hf b hb).1
  · intro X hP hw hK hc i pins s σ H E I hf st hg
    subst hP hw hK
    obtain ⟨⟨old, he⟩, hz, ne, n1, n2⟩ := st
    obtain ⟨xs, hq, hx⟩ := hg
    obtain ⟨its, rv, p, len⟩ := I.tuple hq
    obtain ⟨f0, f1, f2, f3, f4, f5⟩ := hf z (List.mem_cons_of_mem _ List.mem_cons_self)
    have hl : i = its.toArray.size := by
      have := rv.length
      simp
      omega
    have he0 : IsEnum s.heap e z ((its.toArray.size : Nat) : Int) old := hl ▸ he
    have hz0 : s.heap.IsTupleIter z q its.toArray.size := hl ▸ hz
    refine wpAny_pyNext_enum_endD (draws_tup (P := X.prog) (w := X.w) (B := X.A.in1) (show X.A.in1.handled = none from I.ok.hd hc) z q n1 its.toArray) he0 ⟨hz0, tupIn p⟩ fun g eb => ⟨rfl, I.turned (t' := s.toks) (fun b o hb t => eb b o hb t) f0 f1 f3 f4 f5⟩
  · obtain ⟨⟨_, he⟩, _⟩ := st
    exact wpAny_pyIter_enum he h
def iEnumT (K : PySem.W.Frag) (ta : TA) : TI := fun σ H R => ta σ H fun vs H1 => ∃ q xs, vs = [.ref q] ∧ SqT K H1 q xs ∧ R (ItEt K q) H1
theorem pi_enumT {X : Cx} {e : Expr} {ta : TA} {p pos tp : Pos} {tgs : List Expr} {kk : Nat} (hg : Gl X "enumerate") (hm : X.mg "enumerate" = none) (ha : PA X [e] ta) (hs : starEach [e] X.env = [(false, eval e X.env)] := by rfl) :
    PI X (.Tuple tgs kk tp) (.Call (.Name "enumerate" p) [e] [] pos) (iEnumT X.K ta) := by
  refine ⟨fun pins s σ H R I h => Call_ (ld_blt I hg hm boot_enumerate (PyProof.Rows.callWith_type1 (thn (ha.run pos pins s σ H _ I h) fun us s1 ⟨vs, H1, I1, r1, q1⟩ => ?_) hs rfl))⟩
  obtain ⟨a, xs, ex, hq, q⟩ := q1
  subst ex
  obtain ⟨u, rfl, ru⟩ := vals1 r1
  cases (show u = Value.ref a from ru)
  obtain ⟨its, rv, p', hz⟩ := I1.tuple hq
  have old : a < s1.heap.objs.size := by obtain ⟨o, e1, _⟩ := p'; exact Heap.lt_size e1
  refine callEnumT (tupIn p') fun g he hit hk => wpAny_pyIter_enum he ?_
  have I2 : Inv X pins σ H1 { s1 with heap := g } := I1.kept (t' := s1.toks) hk
  refine ⟨s1.heap.objs.size + 1, [s1.heap.objs.size + 1, s1.heap.objs.size], _, _, H1, rfl, I2, turn_enumT a (s1.heap.objs.size + 1) s1.heap.objs.size, ⟨⟨.none, he⟩, hit, Nat.succ_ne_self _, Nat.ne_of_lt old, Nat.ne_of_lt (Nat.lt_succ_of_lt old)⟩, fun b hb => ?_, q⟩
  have hle : s1.heap.objs.size ≤ b := by
    rcases List.mem_cons.mp hb with y | y
    · rw [y]; exact Nat.le_add_right _ _
    · rw [List.mem_singleton.mp y]; exact Nat.le_refl _
  exact I1.fpOk hle (I1.hok.fresh hle)
theorem walk_enumT {K : PySem.W.Frag} {q : Addr} {xs : List V} : Walk (ItEt K q) xs.length (fun H => SqT K H q xs) (YPair (fun i => some (.int (i : Nat))) (fun i => xs[i]?)) := by
  refine ⟨fun i _ hi h => ⟨xs, xs[i], h, by simp [hi]⟩, fun _ h => ⟨xs, h, rfl⟩, fun i H v H' _ h y => ?_⟩
  obtain ⟨T, x, h1, h2, h3, h4⟩ := y
  exact ⟨T, .int (i : Nat), x, h1, h2, h3, rfl, h4 xs h⟩
/-- enumerate of a list or a tuple -/
def iEnumA (K : PySem.W.Frag) (ta : TA) : TI := fun σ H R => iEnum K ta σ H R ∨ iEnumT K ta σ H R
theorem pi_enumA {X : Cx} {e : Expr} {ta : TA} {p pos tp : Pos} {tgs : List Expr} {kk : Nat} (hg : Gl X "enumerate") (hm : X.mg "enumerate" = none) (ha : PA X [e] ta) (hs : starEach [e] X.env = [(false, eval e X.env)] := by rfl) :
    PI X (.Tuple tgs kk tp) (.Call (.Name "enumerate" p) [e] [] pos) (iEnumA X.K ta) := PI.or (pi_enum hg hm ha hs) (pi_enumT hg hm ha hs)
end
section
variable {X : Cx} (K : PySem.W.Frag) (hK : X.K = K := by rfl)
include hK
theorem kEn {tg e : Expr} {ta : TA} (h : PI X tg e (iEnumA X.K ta)) : PI X tg e (iEnumA K ta) := hK ▸ h
end
end AT

set_option Elab.async false
set_option linter.all false
set_option maxRecDepth 100000
set_option maxHeartbeats 8000000
/-! own words, seventh part: a name that is set to a dict comprehension on its own line -/
namespace AT
open PySem L2 PySem.Spec PyProof.Rows
/-- whatever the block of the comprehension is -/
abbrev InBlk (X : Cx) (sc : Scope) (R : Cx → Prop) : Prop := ∀ s H C cl fp, R (X.blk s H sc (compEnvC sc cl C X.env) fp)
/-- the comprehension, with one for -/
abbrev DC1 (a b t e : Expr) (cs : List Expr) (sc : Scope) (o : Pos) : Expr := .DictComp a b [⟨t, e, cs, 0⟩] sc o
theorem ps_setDc {X : Cx} {i : Nat} {n : Str} {np o so : Pos} {a b t e : Expr} {cs : List Expr} {sc : Scope} {own : List (Str × Nat)} {wi : TI} {g : TG} {tt : TT} {ta tb : TE}
    (calm : X.calm = true) (nd : X.N.Nodup) (at' : X.N[i]? = some n) (loc : X.env.scope.names.lookup n = some .local) (sw : swapsWith (DC1 a b t e cs sc o) (some (.Name n np)) so.line X.env = pure true)
    (pi : PI X t e wi) (bk : BlkOk X.N X.env.scope sc own) (pg : InBlk X sc fun Y => PG Y t g) (pt : InBlk X sc fun Y => PTs Y cs tt) (pa : InBlk X sc fun Y => PE Y a ta) (pb : InBlk X sc fun Y => PE Y b tb)
    (fo : ∀ x, foldedSetIterable e X.env x = pure x := by intro _; rfl) : PS X (.Assign [.Name n np] (DC1 a b t e cs sc o) so) (tAsg (tDc wi g tt ta tb (own.map (·.2))) (gName i)) :=
  ⟨fun P s σ H D J w => by
    rw [exec_Assign_Name_used n np _ so sw]
    apply wpAny_bind; apply wpAny_standAt; apply wpAny_bind
    refine wpAny_bind (thn ?core fun _ s2 h2 => wpAny_pure (wpAny_pure h2))
    refine dc_core (Qf := fun _ s2 => SP X P D .next s2) (Q := fun x H1 => gName i x σ H1 D.nx) calm nd J pi bk pg pt pa pb fo w fun L C s2 m H2 J2 h2 ns fp => ?_
    refine wpAny_assign_Name (store_ok2 (v := V.ref L) J2 nd at' (.inl loc) rfl (fun s3 J3 ⟨z, but, or⟩ => ⟨m, ns.sameBut but (or.elim (fun y => y ▸ fp.2.1) fun y q => fp.2.2.2.2.1 n z y q.symm), fun h4 but4 => ?_⟩) (.inr loc))
    exact ⟨_, H2, J3.turned (t' := s3.toks) (fun c u hc y => (but4.2 c hc).trans y) fp.1 fp.2.1 fp.2.2.2.1 fp.2.2.2.2.1 fp.2.2.2.2.2, h2⟩⟩
theorem sw_trueD {a b : Expr} {gs : List Comprehension} {sc : Scope} {o np : Pos} {n : Str} {l : Nat} {env : Env} (fn : env.scope.kind = .function) (loc : env.scope.names.lookup n = some .local) (ln : (np.line == o.line) = true)
    (no : (sc.names.any fun (m, k) => m == n && (k == .local || k == .cell)) = false) : swapsWith (.DictComp a b gs sc o) (some (.Name n np)) l env = pure true := by
  have k1 : env.kindOf n = some .local := loc
  have k2 : env.blockKind = .function := by simp only [Env.blockKind, fn]; decide
  simp only [swapsWith, k1, k2, no, Expr.pos, ln]
  rfl
end AT

set_option Elab.async false
set_option linter.all false
set_option maxRecDepth 100000
set_option maxHeartbeats 4000000
/-! own words, eighth part: defs and lambdas with captured names as values, called by whoever holds them -/
namespace AT
open PySem PySem.Spec PyProof.Rows L2 LamX NdefX
/-! ### cells that stand still -/
def frC (c : Addr) (o : Obj) : HO := .frz o (.ext fun h => h.get? c = some o)
theorem frC_ok {P : Program} {w : World} {H : Hp} {h : Heap} {c : Addr} {o : Obj} (e : h.get? c = some o) : ObjOk P w H h c (frC c o) :=
  ⟨e, e, ⟨o, e⟩, fun _ _ q k => k o q⟩
def fz (as : List Addr) (O : Addr → Obj) (H : Hp) : Hp := fun b => if b ∈ as then some (frC b (O b)) else H b
def rz (as : List Addr) (H H' : Hp) : Hp := fun b => if b ∈ as then H b else H' b
section
variable {as : List Addr} {O : Addr → Obj} {H H' : Hp} {b : Addr} {P : Program} {w : World} {h h' : Heap} {fs : List Addr}
theorem fz_in (hb : b ∈ as) : fz as O H b = some (frC b (O b)) := if_pos hb
theorem fz_at (hb : b ∉ as) : fz as O H b = H b := if_neg hb
theorem rz_in (hb : b ∈ as) : rz as H H' b = H b := if_pos hb
theorem rz_at (hb : b ∉ as) : rz as H H' b = H' b := if_neg hb
theorem fz_ex (W : ∀ c ∈ as, H c = none) : Ex H (fz as O H) := fun b o e => by
  rw [fz_at fun z => by rw [W b z] at e; cases e]
  exact e
theorem fz_hid (W : ∀ c ∈ as, H c = none) : hid as (fz as O H) = H := by
  funext b
  by_cases hb : b ∈ as
  · rw [hid_in hb, W b hb]
  · rw [hid_at hb, fz_at hb]
theorem rz_ex (e : Ex (hid as H) H') : Ex H (rz as H H') := fun b o q => by
  by_cases hb : b ∈ as
  · rw [rz_in hb]; exact q
  · rw [rz_at hb]; exact e b o (by rw [hid_at hb]; exact q)
theorem hok_fz (ok : HOk P w H h) (W : ∀ c ∈ as, h.get? c = some (O c) ∧ H c = none) : HOk P w (fz as O H) h := fun a o e => by
  have nin : ∀ {b u}, H b = some u → b ∉ as := fun {b u} q z => by rw [(W b z).2] at q; cases q
  by_cases ha : a ∈ as
  · rw [fz_in ha] at e
    cases e
    exact frC_ok (W a ha).1
  · rw [fz_at ha] at e
    exact (ok a o e).stay (fun _ _ _ z => z) (fun b q => by rw [fz_at (nin q)]; exact q) fun b xs q => by rw [fz_at (nin q)]; exact q
theorem hok_hid (ok : HOk P w H h) (W : ∀ c ∈ as, ∃ o u, H c = some (.frz o u)) : HOk P w (hid as H) h := fun a o e => by
  have nin : ∀ {b u}, H b = some u → (∀ o v, u ≠ .frz o v) → b ∉ as := fun {b u} q n z => by
    obtain ⟨o, v, e⟩ := W b z
    rw [q] at e
    exact n o v (Option.some.inj e)
  refine (ok a o (hid_some e).2).stay (fun _ _ _ z => z) (fun b q => ?_) fun b xs q => ?_
  · rw [hid_at (nin q fun o v z => by cases z)]; exact q
  · rw [hid_at (nin q fun o v z => by cases z)]; exact q
/-- behind a call that was told of the frame's own cells -/
theorem un_hid (W : ∀ c ∈ as, h.get? c = some (O c) ∧ H c = none) (u : Un fs [] (fz as O H) H' h h') (ok : HOk P w H' h') : Un fs [] H (hid as H') h h' := by
  have same : ∀ c, c ∈ as → h'.get? c = some (O c) := fun c hc => (ok c _ (u.frzs c _ _ (fz_in hc))).1
  have nin : ∀ {b v}, H b = some v → b ∉ as := fun {b v} q z => by rw [(W b z).2] at q; cases q
  have here : ∀ {b o}, h.get? b = some o → b ∈ as → h'.get? b = some o := fun {b o} e hb => by
    have q := (W b hb).1
    rw [e] at q
    rw [same b hb, Option.some.inj q]
  refine ⟨fun b o e n nf nx => ?_, fun b o e n nf nx => ?_, fun b o e n nx => ?_, u.there, fun b xs q => ?_, fun b o v q => ?_, fun b ps q => ?_⟩
  · by_cases hb : b ∈ as
    · exact here e hb
    · exact u.keep b o e (by rw [fz_at hb]; exact n) nf nx
  · by_cases hb : b ∈ as
    · exact ⟨o.slots, here e hb⟩
    · exact u.slot b o e (by rw [fz_at hb]; exact n) nf nx
  · by_cases hb : b ∈ as
    · exact hid_in hb
    · rw [hid_at hb]; exact u.free b o e (by rw [fz_at hb]; exact n) nx
  · rw [hid_at (nin q)]; exact u.tups b xs (by rw [fz_at (nin q)]; exact q)
  · rw [hid_at (nin q)]; exact u.frzs b o v (by rw [fz_at (nin q)]; exact q)
  · obtain ⟨m, z⟩ := u.tbls b ps (by rw [fz_at (nin q)]; exact q)
    exact ⟨m, by rw [hid_at (nin q)]; exact z⟩
/-- behind the call of a function whose cells stood still -/
theorem un_rz (W : ∀ c ∈ as, ∃ o, H c = some (frC c o) ∧ h.get? c = some o ∧ c ∉ fs) (u : Un fs [] (hid as H) H' h h') : Un fs [] H (rz as H H') h h' := by
  have nin : ∀ {b : Addr}, H b = none → b ∉ as := fun {b} q z => by
    obtain ⟨o, e, _⟩ := W b z
    rw [q] at e; cases e
  refine ⟨fun b o e n nf nx => ?_, fun b o e n nf nx => ?_, fun b o e n nx => ?_, u.there, fun b xs q => ?_, fun b o v q => ?_, fun b ps q => ?_⟩
  · exact u.keep b o e (by rw [hid_at (nin n)]; exact n) nf nx
  · exact u.slot b o e (by rw [hid_at (nin n)]; exact n) nf nx
  · rw [rz_at (nin n)]; exact u.free b o e (by rw [hid_at (nin n)]; exact n) nx
  all_goals by_cases hb : b ∈ as
  · rw [rz_in hb]; exact q
  · rw [rz_at hb]; exact u.tups b xs (by rw [hid_at hb]; exact q)
  · rw [rz_in hb]; exact q
  · rw [rz_at hb]; exact u.frzs b o v (by rw [hid_at hb]; exact q)
  · rw [rz_in hb]; exact ⟨#[], by rw [q]; simp⟩
  · rw [rz_at hb]; exact u.tbls b ps (by rw [hid_at hb]; exact q)
theorem hok_rz (W : ∀ c ∈ as, ∃ o, H c = some (frC c o) ∧ h.get? c = some o ∧ c ∉ fs) (u : Un fs [] (hid as H) H' h h') (ok : HOk P w H' h') : HOk P w (rz as H H') h' := fun a o e => by
  have gone : ∀ c, c ∈ as → H' c = none := fun c hc => by
    obtain ⟨o, _, e2, _⟩ := W c hc
    exact u.free c o e2 (hid_in hc) (by simp)
  have nin : ∀ {b v}, H' b = some v → b ∉ as := fun {b v} q z => by rw [gone b z] at q; cases q
  by_cases ha : a ∈ as
  · obtain ⟨o', e1, e2, nf⟩ := W a ha
    rw [rz_in ha, e1] at e
    cases e
    exact frC_ok (u.keep a o' e2 (hid_in ha) nf (by simp))
  · rw [rz_at ha] at e
    exact (ok a o e).stay (fun _ _ _ z => z) (fun b q => by rw [rz_at (nin q)]; exact q) fun b xs q => by rw [rz_at (nin q)]; exact q
end
/-! ### what holds a function -/
/-- what never changes while it is tracked so -/
def isX : HO → Prop
  | .ext _ => True
  | .frz _ _ => True
  | _ => False
def StX (H H' : Hp) : Prop := ∀ b o, H b = some o → isX o → H' b = some o
theorem StX.of_ex {H H' : Hp} (e : Ex H H') : StX H H' := fun b o q _ => e b o q
theorem StX.of_kp {S : List Addr} {H H' : Hp} (k : Kp S H H') (n : ∀ b ∈ S, ∀ o, H b = some o → ¬ isX o) : StX H H' := fun b o q x => k b o (fun z => n b z o q x) q
/-- f is a function that keeps sp where G stands -/
structure FV (P : Program) (w : World) (K : PySem.W.Frag) (mg : Str → Option Value) (base : Heap) (k : Nat) (f : Addr) (G : Hp → Prop) (sp : List V → Hp → VK → Prop) : Prop where
  fn : ∀ (H : Hp) (h : Heap), HOk P w H h → G H → PySem.W.FnAt f h
  st : ∀ H H', StX H H' → G H → G H'
  run : ∀ (A : Around) (outer : List Env) (s : Shared) (H : Hp) (us : List Value) (vs : List V) (Q : VK), Room k A → Env0 P w K mg base A outer s H → G H → Vals vs us → sp vs H Q →
    codeAny (model P w) A (.call (.ref f) ⟨us, []⟩) (CR L2.CX0 outer P w H s Q L2.E0) s
theorem FV.mono {P : Program} {w : World} {K : PySem.W.Frag} {mg : Str → Option Value} {base : Heap} {j k : Nat} {f : Addr} {G : Hp → Prop} {sp : List V → Hp → VK → Prop} (F : FV P w K mg base j f G sp) (h : j ≤ k) : FV P w K mg base k f G sp :=
  ⟨F.fn, F.st, fun A outer s H us vs Q hr => F.run A outer s H us vs Q (hr.mono h)⟩
def tCallQ (P : Program) (w : World) (K : PySem.W.Frag) (mg : Str → Option Value) (base : Heap) (k i : Nat) (t : TA) : TE := fun σ H Q => ∃ (f : Addr) (G : Hp → Prop) (sp : List V → Hp → VK → Prop), σ[i]? = some (some (.ref f)) ∧ FV P w K mg base k f G sp ∧ G H ∧ t σ H fun vs H1 => G H1 ∧ sp vs H1 Q
section
variable {X : Cx} {k i : Nat} {x : Str} {p pos : Pos} {e : Expr} {es : List Expr} {t : TA}
theorem run_fv {pins : List (Addr × Obj)} {σ : L2.St} {H : Hp} {s : Shared} {Q : VK} {f : Addr} {G : Hp → Prop} {sp : List V → Hp → VK → Prop} {us : List Value} {vs : List V} (F : FV X.prog X.w X.K X.mg X.base k f G sp) (hr : Room k X.A) (I : Inv X pins σ H s) (g : G H) (r : Vals vs us) (q : sp vs H Q) :
    wpAny (model X.prog X.w) X.A (call (.ref f) us) (EP X pins σ Q) X.xe s := by
  refine wpAny_call (codeAny_mono (F.run X.A X.stack s H us vs Q hr I.env0 g r q) fun res s' z => ?_)
  match res, z with
  | .error e, z => exact z.elim
  | .ok (.ret u), z => exact I.after z
  | .ok .next, z => exact z.elim
  | .ok .brk, z => exact z.elim
  | .ok .cont, z => exact z.elim
/-- x(..), x a name that holds a function -/
theorem pe_callQ (hr : Room k X.A) (hN : X.N[i]? = some x) (hv : Vis X.env.scope x) (ha : PA X (e :: es) t) (hd : (x == ("__debug__" : Str)) = false := by decide) (hcd : (x == ("__classdict__" : Str)) = false := by decide)
    (he : starEach (e :: es) X.env = (false, eval e X.env) :: starEach es X.env := by rfl) (hpl : (backTo pos (starEach es X.env)).any (·.1) = false := by rfl) : PE X (.Call (.Name x p) (e :: es) [] pos) (tCallQ X.prog X.w X.K X.mg X.base k i t) := by
  constructor
  intro pins s σ H Q I q
  obtain ⟨f, G, sp, hs, F, g, ht⟩ := q
  have hx := (pe_var (pos := p) hN hv hd hcd).run pins s σ H (fun v H1 => v = .ref f ∧ H1 = H) I ⟨_, hs, rfl, rfl⟩
  refine wpAny_Call_Name_kw (thn hx fun u s1 z => ?_)
  obtain ⟨v, H1, I1, rv, ev, eH⟩ := z
  subst ev eH
  obtain rfl : u = .ref f := rv
  refine PySem.W.callWith_F (first := []) (F.fn _ _ I1.hok g) (thn (ha.run pos pins s1 σ _ _ I1 ht) fun us s2 z => ?_) he hpl
  obtain ⟨vs, H2, I2, r, g2, q⟩ := z
  exact ⟨F.fn _ _ I2.hok g2, run_fv F hr I2 g2 r q⟩
end
/-! ### a frame's own cells, told to a callee -/
def ca (X : Cx) : List Addr := X.env.cells.filterMap fun p => X.env.cells.lookup p.1
theorem mem_ca {X : Cx} {c : Addr} : c ∈ ca X ↔ ∃ y, X.env.cells.lookup y = some c := by
  unfold ca
  rw [List.mem_filterMap]
  constructor
  · rintro ⟨p, _, e⟩
    exact ⟨_, e⟩
  · rintro ⟨y, e⟩
    exact ⟨(y, c), PySem.mem_of_lookup e, e⟩
structure OwnC (X : Cx) (σ : L2.St) (O : Addr → Obj) (H : Hp) : Prop where
  inj : ∀ x y c, X.env.cells.lookup x = some c → X.env.cells.lookup y = some c → x = y
  has : ∀ x, (X.env.kindOf x = some .cell ∨ X.env.kindOf x = some .free) → ∃ c, X.env.cells.lookup x = some c
  non : ∀ c ∈ ca X, H c = none
  dat : ∀ c ∈ ca X, ∃ v, (O c).data = .cell v
  val : ∀ (i : Nat) y v c, X.N[i]? = some y → σ[i]? = some (some v) → (X.env.scope.names.lookup y = some .cell ∨ X.env.scope.names.lookup y = some .free) → X.env.cells.lookup y = some c → ∃ u, L2.RelV v u ∧ (O c).data = .cell (some u)
def tCallZ (X : Cx) (sp : Sp) (t : TA) : TE := fun σ H Q => t σ H fun vs H1 => ∀ O, OwnC X σ O H1 → sp vs (fz (ca X) O H1) (fun v H2 => Q v (hid (ca X) H2)) L2.E0
section
variable {X : Cx} {k : Nat} {f : Addr} {fd : FuncData} {ps : List Str} {sp : Sp} {x : Str} {p pos : Pos} {e : Expr} {es : List Expr} {t : TA}
theorem own_of {pins : List (Addr × Obj)} {σ : L2.St} {H : Hp} {s : Shared} (I : Inv X pins σ H s) (hfn : ∀ y, X.fn y = true) :
    ∃ O : Addr → Obj, OwnC X σ O H ∧ (∀ c ∈ ca X, s.heap.get? c = some (O c) ∧ H c = none) ∧ (∀ c ∈ ca X, X.base.get? c = none) ∧ ∀ c ∈ ca X, c ∉ frs X.stack := by
  have at_ : ∀ c ∈ ca X, ∃ o v, s.heap.get? c = some o ∧ o.data = .cell v := fun c hc => by
    obtain ⟨y, e⟩ := mem_ca.mp hc
    obtain ⟨v, o, ho, hd⟩ := I.cell y c e
    exact ⟨o, v, ho, hd⟩
  have up : ∀ c ∈ ca X, X.s_0.heap.objs.size ≤ c := fun c hc => by
    obtain ⟨y, e⟩ := mem_ca.mp hc
    exact I.ok.cab y c (hfn y) e
  have nn : ∀ c ∈ ca X, H c = none := fun c hc => by
    obtain ⟨y, e⟩ := mem_ca.mp hc
    exact I.freeC y c e
  let O : Addr → Obj := fun c => (s.heap.get? c).getD default
  have hO : ∀ {c o}, s.heap.get? c = some o → O c = o := fun {c o} e => by
    show (s.heap.get? c).getD default = o
    rw [e]; rfl
  refine ⟨O, ⟨I.ok.inj, I.ok.has, nn, fun c hc => ?_, fun i y v c e1 e2 hk e3 => ?_⟩, fun c hc => ?_, fun c hc => ?_, fun c hc z => ?_⟩
  · obtain ⟨o, v, ho, hd⟩ := at_ c hc
    exact ⟨v, by rw [hO ho]; exact hd⟩
  · obtain ⟨m, _, hl⟩ := I.loc
    obtain ⟨u, r, l⟩ := hl i y v e1 e2 (hk.elim (fun z => .inr (.inl z)) fun z => .inr (.inr z))
    rcases l with ⟨z, _⟩ | ⟨_, c', e', o, ho, hd⟩
    · have z' : X.env.scope.names.lookup y = some .local := z
      rcases hk with hk | hk <;> rw [hk] at z' <;> cases z'
    · rw [e3] at e'
      cases e'
      exact ⟨u, r, by rw [hO ho]; exact hd⟩
  · obtain ⟨o, v, ho, hd⟩ := at_ c hc
    exact ⟨by rw [hO ho]; exact ho, nn c hc⟩
  · exact Heap.get?_none_of_le (Nat.le_trans I.ok.bsz (up c hc))
  · rcases List.mem_cons.mp (I.stkSub _ z) with e | hb
    · obtain ⟨y, e2⟩ := mem_ca.mp hc
      exact I.cne y c e2 e
    · obtain ⟨_, o, ho, _⟩ := I.ok.funs.mem hb
      exact Nat.lt_irrefl _ (Nat.lt_of_lt_of_le (Heap.lt_size ho) (up c hc))
/-- a call that hands on functions which captured this frame's names -/
theorem pe_callZ (F : FnOk X.prog X.w X.K X.mg X.base L2.CX0 k f fd ps sp) (hr : Room k X.A) (B : Own X.K X.mg x f fd ps) (hfn : ∀ y, X.fn y = true) (ha : PA X (e :: es) t) (hg : Gl X x := by rfl)
    (hdb : (x == ("__debug__" : Str)) = false := by decide) (he : starEach (e :: es) X.env = (false, eval e X.env) :: starEach es X.env := by rfl) (hpl : (backTo pos (starEach es X.env)).any (·.1) = false := by rfl) :
    PE X (.Call (.Name x p) (e :: es) [] pos) (tCallZ X sp t) := by
  constructor
  intro pins s σ H Q I q
  refine wpAny_Call_Name_kw (ld_glob I hg B.g ?_ hdb)
  refine PySem.W.callWith_K (h₀ := X.base) I.ok.mod.kin B.k (thn (ha.run pos pins s σ H _ I q) fun us s2 z => ?_) he hpl
  obtain ⟨vs, H2, I2, r, q2⟩ := z
  refine ⟨I2.kIn, ?_⟩
  obtain ⟨O, ow, W, nb, nf⟩ := own_of I2 hfn
  have q3 := q2 O ow
  have hl : us.length = ps.length := by rw [← r.length]; exact F.len _ _ _ _ q3
  have e0 := I2.env0
  have e1 : Env0 X.prog X.w X.K X.mg X.base X.A X.stack s2 (fz (ca X) O H2) := by
    refine ⟨e0.frames, e0.mod, fun b o z => ⟨(e0.bs b o z).1, ?_⟩, e0.bsz, e0.funs, fun b hb => ?_, hok_fz e0.hok W, e0.bare⟩
    · rw [fz_at fun m => by rw [nb b m] at z; cases z]
      exact (e0.bs b o z).2
    · rw [fz_at fun m => nf b m hb]
      exact e0.frf b hb
  have hb0 := B.b s2 us I2.kIn (by rw [List.append_nil]; exact hl)
  rw [List.append_nil] at hb0
  refine wpAny_call (codeAny_mono (F.run X.A X.stack s2 _ ⟨us, []⟩ us vs _ L2.E0 hr e1 hb0 r q3) fun res s' z => ?_)
  match res, z with
  | .error e, z => exact z.elim
  | .ok (.ret u), z =>
    obtain ⟨v, H', os, bare, un, hok, rv, qv⟩ := z
    refine I2.after ⟨v, hid (ca X) H', os, bare, un_hid W un hok, hok_hid hok fun c hc => ⟨_, _, un.frzs c _ _ (fz_in hc)⟩, rv, qv⟩
  | .ok .next, z => exact z.elim
  | .ok .brk, z => exact z.elim
  | .ok .cont, z => exact z.elim
end
/-! ### what a made function leans on -/
structure Clo (H : Hp) (f : Addr) (o : HO) (c : Addr) (q : Str) (cl : List (Str × Addr)) (fr : List Str) (ws : List (Option V)) : Prop where
  fn : H f = some o
  code : H c = some (CodeO c q)
  cel : ∀ a ∈ cl.map (·.2), ∃ u, H a = some (frC a u) ∧ ∃ v, u.data = .cell v
  inj : ∀ x y a, cl.lookup x = some a → cl.lookup y = some a → x = y
  len : ws.length = fr.length
  has : ∀ (i : Nat) (y : Str), fr[i]? = some y → ∃ a, cl.lookup y = some a ∧ ∀ v, ws[i]? = some (some v) → ∃ u o, H a = some (frC a o) ∧ L2.RelV v u ∧ o.data = .cell (some u)
theorem Clo.st {H H' : Hp} {f c : Addr} {o : HO} {q : Str} {cl : List (Str × Addr)} {fr : List Str} {ws : List (Option V)} (h : Clo H f o c q cl fr ws) (ho : isX o) (s : StX H H') : Clo H' f o c q cl fr ws :=
  ⟨s _ _ h.fn ho, s _ _ h.code True.intro, fun a ha => let ⟨u, e, r⟩ := h.cel a ha; ⟨u, s _ _ e True.intro, r⟩, h.inj, h.len, fun i y e => let ⟨a, e1, r⟩ := h.has i y e; ⟨a, e1, fun v ev => let ⟨u, o, e2, r2⟩ := r v ev; ⟨u, o, s _ _ e2 True.intro, r2⟩⟩⟩
/-- of the frame that made it -/
theorem clo_made {X : Cx} {σ : L2.St} {O : Addr → Obj} {H : Hp} {scope : Scope} {f c : Addr} {o : HO} {q : Str} {fr : List Str} {js : List Nat} (ow : OwnC X σ O H) (hf : H f = some o) (hc : H c = some (CodeO c q)) (hb : ndefB X.env.scope scope fr = true) (hjs : js.map (fun j => X.N[j]?) = fr.map some) :
    Clo (fz (ca X) O H) f o c q (cloFrom X.env.cells scope.names []) fr (js.map (slotAt σ)) := by
  have hfree : ∀ y ∈ scope.names, y.2 = .free → ∃ a, X.env.cells.lookup y.1 = some a := fun y hy e => ow.has _ (ndef_free hb y hy e)
  have up : ∀ {a u}, H a = some u → fz (ca X) O H a = some u := fun {a u} e => fz_ex ow.non a u e
  refine ⟨up hf, up hc, fun a ha => ?_, fun x y a e1 e2 => ow.inj x y a (clo_cm hfree e1) (clo_cm hfree e2), ?_, fun i y e => ?_⟩
  · obtain ⟨⟨y, a'⟩, hm, rfl⟩ := List.mem_map.mp ha
    obtain ⟨h1, h2⟩ := (cloFrom_mem hm).resolve_left (by simp)
    obtain ⟨a1, ha1⟩ := hfree _ h1 rfl
    have ha1 : X.env.cells.lookup y = some a1 := ha1
    have e : a' = a1 := by rw [h2, ha1]; rfl
    subst e
    have hi : a' ∈ ca X := mem_ca.mpr ⟨y, ha1⟩
    exact ⟨O a', fz_in hi, ow.dat a' hi⟩
  · have q := congrArg List.length hjs
    rw [List.length_map, List.length_map] at q
    rw [List.length_map]; exact q
  · have e2 : (js.map fun j => X.N[j]?)[i]? = some (some y) := by rw [hjs, List.getElem?_map, e]; rfl
    rw [List.getElem?_map] at e2
    obtain ⟨j, ej, hj⟩ : ∃ j, js[i]? = some j ∧ X.N[j]? = some y := by
      cases ej : js[i]? with
      | none => rw [ej] at e2; cases e2
      | some j => rw [ej] at e2; exact ⟨j, rfl, Option.some.inj e2⟩
    have hy : (y, NameKind.free) ∈ scope.names := ndef_fr hb y (List.mem_of_getElem? e)
    have hk := ndef_free hb _ hy rfl
    obtain ⟨a, ha⟩ := ow.has y hk
    refine ⟨a, clo_has hfree hy ha, fun v ev => ?_⟩
    rw [List.getElem?_map, ej] at ev
    obtain ⟨u, r, d⟩ := ow.val j y v a hj (slotAt_some (Option.some.inj ev)) hk ha
    exact ⟨u, O a, fz_in (mem_ca.mpr ⟨y, ha⟩), r, d⟩
section
variable {P : Program} {w : World} {K : PySem.W.Frag} {mg : Str → Option Value} {base : Heap} {A : Around} {outer : List Env} {s : Shared} {H : Hp}
theorem env0_hid {as : List Addr} (e0 : Env0 P w K mg base A outer s H) (W : ∀ c ∈ as, ∃ o u, H c = some (.frz o u)) : Env0 P w K mg base A outer s (hid as H) := by
  refine ⟨e0.frames, e0.mod, fun b o z => ⟨(e0.bs b o z).1, ?_⟩, e0.bsz, e0.funs, fun b hb => ?_, hok_hid e0.hok W, e0.bare⟩
  · by_cases hb : b ∈ as
    · exact hid_in hb
    · rw [hid_at hb]; exact (e0.bs b o z).2
  · by_cases m : b ∈ as
    · exact hid_in m
    · rw [hid_at m]; exact e0.frf b hb
theorem Clo.cells {f c : Addr} {o : HO} {q : Str} {cl : List (Str × Addr)} {fr : List Str} {ws : List (Option V)} (h : Clo H f o c q cl fr ws) (hok : HOk P w H s.heap) : CellsAt cl fr ws s.heap (hid (cl.map (·.2)) H) := by
  refine ⟨h.len, fun y a e => ?_, h.inj, fun i y e => ?_⟩
  · have ha : a ∈ cl.map (·.2) := List.mem_map.mpr ⟨(y, a), PySem.mem_of_lookup e, rfl⟩
    obtain ⟨u, e1, v, hd⟩ := h.cel a ha
    exact ⟨hid_in ha, v, u, (hok a _ e1).1, hd⟩
  · obtain ⟨a, e1, r⟩ := h.has i y e
    refine ⟨a, e1, fun v ev => ?_⟩
    obtain ⟨u, o, e2, rv, hd⟩ := r v ev
    exact ⟨u, rv, o, (hok a _ e2).1, hd⟩
/-- back from the function's own heap -/
theorem cr_rz {as : List Addr} {Q : VK} {res : Result} {s' : Shared} (e0 : Env0 P w K mg base A outer s H) (W : ∀ c ∈ as, ∃ o, H c = some (frC c o)) (z : CR L2.CX0 outer P w (hid as H) s (fun v H' => (∀ b ∈ as, H' b = none) → Q v (rz as H H')) L2.E0 res s') : CR L2.CX0 outer P w H s Q L2.E0 res s' := by
  match res, z with
  | .error e, z => exact z
  | .ok .next, z => exact z
  | .ok .brk, z => exact z
  | .ok .cont, z => exact z
  | .ok (.ret u), z =>
    obtain ⟨v, H', os, bare, un, hok, rv, q⟩ := z
    have W' : ∀ c ∈ as, ∃ o, H c = some (frC c o) ∧ s.heap.get? c = some o ∧ c ∉ frs outer := fun c hc => by
      obtain ⟨o, e⟩ := W c hc
      exact ⟨o, e, (e0.hok c _ e).1, fun m => by rw [e0.frf c m] at e; cases e⟩
    exact ⟨v, rz as H H', os, bare, un_rz W' un, hok_rz W' un hok, rv, q fun c hc => let ⟨o, _, e2, _⟩ := W' c hc; un.free c o e2 (hid_in hc) (by simp)⟩
end
section
variable {P : Program} {w : World} {K : PySem.W.Frag} {mg : Str → Option Value} {base : Heap} {k : Nat} {f : Addr} {ps fr : List Str} {ws : List (Option V)}
/-- a nested def as a value -/
theorem FV.of_nok {F : NF} {sp : List (Option V) → Sp} (N : NOk P w K mg base L2.CX0 k f F ps fr sp) :
    FV P w K mg base k f (fun H => Clo H f (FnO f F) F.c F.qual F.cl fr ws) (fun vs H Q => sp ws vs (hid (F.cl.map (·.2)) H) (fun v H' => (∀ b ∈ F.cl.map (·.2), H' b = none) → Q v (rz (F.cl.map (·.2)) H H')) L2.E0) := by
  refine ⟨fun H h ok g => ?_, fun H H' st g => g.st True.intro st, fun A outer s H us vs Q hr e0 g r q => ?_⟩
  · obtain ⟨od, sl, doc, pm, ctv, ho⟩ := fnO_at ok g.fn
    exact ⟨_, od, _, sl, ho⟩
  · have W : ∀ c ∈ F.cl.map (·.2), ∃ o, H c = some (frC c o) := fun c hc => let ⟨u, e, _⟩ := g.cel c hc; ⟨u, e⟩
    have nin : ∀ {b φ}, H b = some (.ext φ) → b ∉ F.cl.map (·.2) := fun {b φ} e m => by
      obtain ⟨u, z⟩ := W b m
      rw [e] at z; cases z
    have e1 := env0_hid e0 fun c hc => let ⟨u, e⟩ := W c hc; ⟨_, _, e⟩
    refine codeAny_mono (N.run A outer s _ us vs ws _ L2.E0 hr e1 ?_ ?_ (g.cells e0.hok) r q) fun res s' z => cr_rz e0 W z
    · rw [hid_at (nin g.fn)]; exact g.fn
    · rw [hid_at (nin g.code)]; exact g.code
/-! ### lambdas -/
/-- the object at f is the lambda F, its body an expression -/
def FnE (f : Addr) (F : NF) (body : Expr) : HO := .ext fun h => ∃ pm ctv, h.get? f = some (PySem.W.kla_obj F.name F.qual F.params body F.scope F.cl pm F.c ctv)
theorem FV.of_lam {N : List Str} {F : NF} {body : Expr} {sp : List (Option V) → Sp} (S : NScope N ps fr F.scope) (hb : ∀ (pm ctv : Value) (us : List Value), us.length = ps.length → bindArgs (PySem.W.kla_fn F.name F.qual F.params body F.scope F.cl pm (.ref F.c) ctv) ⟨us, []⟩ = pure (ps.zip us))
    (len : ∀ ws vs H Q E, sp ws vs H Q E → vs.length = ps.length)
    (hbody : ∀ (A : Around) (outer : List Env) (s : Shared) (H : Hp) (vs : List V) (Q : VK), Room k (A.deeper (envF F f s.heap.objs.size)) → ws.length = fr.length → sp ws vs H Q L2.E0 → ∃ t, PE (ncx L2.CX0 P w K mg base N F f A outer s H L2.E0) body t ∧ t (startF N vs ws) H Q) :
    FV P w K mg base (k + 1) f (fun H => Clo H f (FnE f F body) F.c F.qual F.cl fr ws) (fun vs H Q => sp ws vs (hid (F.cl.map (·.2)) H) (fun v H' => (∀ b ∈ F.cl.map (·.2), H' b = none) → Q v (rz (F.cl.map (·.2)) H H')) L2.E0) := by
  refine ⟨fun H h ok g => ?_, fun H H' st g => g.st True.intro st, fun A outer s H us vs Q hr e0 g r q => ?_⟩
  · obtain ⟨⟨pm, ctv, ho⟩, _⟩ := ok f _ g.fn
    exact ⟨_, _, _, _, ho⟩
  · have W : ∀ c ∈ F.cl.map (·.2), ∃ o, H c = some (frC c o) := fun c hc => let ⟨u, e, _⟩ := g.cel c hc; ⟨u, e⟩
    have e1 := env0_hid e0 fun c hc => let ⟨u, e⟩ := W c hc; ⟨_, _, e⟩
    obtain ⟨⟨pm, ctv, ho⟩, _⟩ := e0.hok f _ g.fn
    have hco := codeO_at e0.hok g.code
    have hl := len _ _ _ _ _ q
    have lim : s.heap.NoLimit := e0.mod.nolimit.keeps fun b o e => (e0.bs b o e).1
    have C := g.cells e0.hok
    suffices h : codeAny (model P w) A (.call (.ref f) ⟨us, []⟩) (CR L2.CX0 outer P w (hid (F.cl.map (·.2)) H) s (fun v H' => (∀ b ∈ F.cl.map (·.2), H' b = none) → Q v (rz (F.cl.map (·.2)) H H')) L2.E0) s from codeAny_mono h fun res s' z => cr_rz e0 W z
    refine PySem.W.kla_callFunE hr.depth ho rfl S.co S.gen rfl hco ?_
    rw [hb pm ctv us (by rw [← r.length]; exact hl)]
    refine wpAny_pure (wpAny_newFunctionEnv S.nocell (fun y hy => S.par y.1 (List.of_mem_zip (show (y.1, y.2) ∈ ps.zip us from hy)).1) (fun h₁ hns hsb => ⟨lim.fresh _ hsb, ?_⟩) S.kind)
    have kp : ∀ b o, s.heap.get? b = some o → h₁.get? b = some o := fun b o e => hsb.extBut b o (Nat.ne_of_lt (Heap.lt_size e)) (Heap.get?_push_of_some _ e)
    obtain ⟨t, ht, hq⟩ := hbody A outer s _ vs _ (hr.deeper _) g.len q
    have I := inv_startN (N := N) (F := F) (f := f) (CX := L2.CX0) (E := L2.E0) (tk := s.toks + (ps.zip us).length) S hr.hd e1 hl r C hns kp
    refine PySem.W.kla_codeExpr (wpAny_mono (ht.run [] _ _ _ _ I hq) (fun v s' z => ?_) fun e s' z => z)
    obtain ⟨v', H', J, rv, qv⟩ := z
    exact ⟨v', H', J.os, J.bare, J.base, J.hok, rv, qv⟩
end
end AT

set_option Elab.async false
set_option linter.all false
set_option maxRecDepth 100000
set_option maxHeartbeats 4000000
/-! own words, ninth part: making defs and lambdas within a def -/
namespace AT
open PySem PySem.Spec PyProof.Rows L2 LamX NdefX
/-- the makers' tables: one table of names for the whole text -/
def Tbs (nm : Nat → Nat → Str) (Ps : List Addr) (H : Hp) : Prop := ∀ P ∈ Ps, TabN H P nm
theorem Tbs.ex {nm : Nat → Nat → Str} {Ps : List Addr} {H H' : Hp} (t : Tbs nm Ps H) (e : Ex H H') : Tbs nm Ps H' := fun P hP => (t P hP).ext e
theorem TabN.isT {nm : Nat → Nat → Str} {H : Hp} {P : Addr} (t : TabN H P nm) : ∃ ps, H P = some (.tbl ps) := let ⟨ps, e, _⟩ := t; ⟨ps, e⟩
/-- kept by what changes other things -/
theorem Tbs.kp {nm : Nat → Nat → Str} {Ps S : List Addr} {H H' : Hp} (t : Tbs nm Ps H) (k : Kp S H H') (n : ∀ b ∈ S, ∀ o, H b = some o → ¬ isX o ∧ ∀ ps, o ≠ .tbl ps) : Tbs nm Ps H' := fun P hP => by
  obtain ⟨ps, e, h1, h2⟩ := t P hP
  refine ⟨ps, k P _ (fun z => (n P z _ e).2 _ rfl) e, h1, fun pos cv hc => ?_⟩
  obtain ⟨c, e1, e2⟩ := h2 pos cv hc
  exact ⟨c, e1, k c _ (fun z => (n c z _ e2).1 True.intro) e2⟩
section
variable {X : Cx} {pins : List (Addr × Obj)} {σ : L2.St} {H : Hp} {s : Shared} {nm : Nat → Nat → Str} {Ps : List Addr} {c P c' : Addr} {ps : Array Value} {pos : Pos} {q : Str} {ho : HO} {o : Obj} {h' : Heap} {tk : Tok}
/-- the code object found: the function alone is new -/
theorem inv_hit (I : Inv X pins σ H s) (hx : ∀ b o, s.heap.get? b = some o → h'.get? b = some o) (hsz : s.heap.objs.size ≤ h'.objs.size) (new : ∀ H1, ObjOk X.prog X.w H1 (h'.push o) h'.objs.size ho) :
    Inv X pins σ (upd H h'.objs.size ho) { s with heap := h'.push o, toks := tk } ∧ H h'.objs.size = none :=
  ⟨I.laid (fun b u e => Heap.get?_push_of_some _ (hx b u e)) hsz (new _), I.hok.fresh hsz⟩
/-- the code object made: the table grows, the code object and the function are new -/
theorem inv_made (I : Inv X pins σ H s) (T : Tbs nm Ps H) (hm : P ∈ Ps) (hP : H P = some (.tbl ps)) (ht : TriplesOk ps.toList) (ha : ∀ (p : Pos) cv, codeAmong p ps.toList = some cv → ∃ c, cv = .ref c ∧ H c = some (CodeO c (nm p.line p.col))) (hn : nm pos.line pos.col = q)
    (hx : Heap.ExtBut P s.heap h') (hge : s.heap.objs.size ≤ c') (hlt : c' < h'.objs.size) (hrec : h'.CodeRec (.ref c') q) (htb : h'.get? P = some (PySem.W.tabObj (ps ++ #[rawInt pos.line, rawInt pos.col, .ref c'])))
    (new : ∀ H1, ObjOk X.prog X.w H1 (h'.push o) h'.objs.size ho) :
    ∃ H1, Inv X pins σ H1 { s with heap := h'.push o, toks := tk } ∧ Kp [P] H H1 ∧ Tbs nm Ps H1 ∧ H h'.objs.size = none ∧ H1 h'.objs.size = some ho ∧ H1 c' = some (CodeO c' q) := by
  obtain ⟨c2, oc, vs, t, e2, hoc, hd, hv⟩ := hrec
  cases e2
  have nC : H c' = none := I.hok.fresh hge
  have hsz : s.heap.objs.size ≤ h'.objs.size := Nat.le_trans hge (Nat.le_of_lt hlt)
  have nF : H h'.objs.size = none := I.hok.fresh hsz
  have I1 := inv_table (t' := tk) (more := #[rawInt pos.line, rawInt pos.col, .ref c']) (h' := h') I hP (fun b o hb e => hx b o hb e) htb hge ⟨oc, vs, t, hoc, hd, hv⟩
  have hF1 : ∀ b, b ≠ P → b ≠ c' → upd (upd H P (.tbl (ps ++ #[rawInt pos.line, rawInt pos.col, .ref c']))) c' (CodeO c' q) b = H b := fun b h1 h2 => by rw [upd_ne h2, upd_ne h1]
  have nPc : P ≠ c' := ne_of_none hP nC
  have nPf : P ≠ h'.objs.size := ne_of_none hP nF
  have ncf : c' ≠ h'.objs.size := Nat.ne_of_lt hlt
  have I2 := I1.laid (a := h'.objs.size) (o := ho) (h' := h'.push o) (t' := tk) (fun b u e => Heap.get?_push_of_some _ e) (Nat.le_refl _) (new _)
  generalize hH2 : upd (upd (upd H P (.tbl (ps ++ #[rawInt pos.line, rawInt pos.col, .ref c']))) c' (CodeO c' q)) h'.objs.size ho = H2 at I2
  have old : ∀ b u, b ≠ P → H b = some u → H2 b = some u := fun b u hb e => by
    rw [← hH2, upd_ne (ne_of_none e nF), hF1 b hb (ne_of_none e nC)]
    exact e
  have atP : H2 P = some (.tbl (ps ++ #[rawInt pos.line, rawInt pos.col, .ref c'])) := by rw [← hH2, upd_ne nPf, upd_ne nPc, upd_same]
  have atc : H2 c' = some (CodeO c' q) := by rw [← hH2, upd_ne ncf, upd_same]
  have code : ∀ {b r}, H b = some (CodeO b r) → H2 b = some (CodeO b r) := fun {b r} e => old b _ (fun z => by rw [z, hP] at e; exact codeO_ne _ (Option.some.inj e).symm) e
  refine ⟨H2, I2, fun b u hb e => old b u (fun z => hb (by rw [z]; exact List.mem_cons_self)) e, fun R hR => ?_, nF, by rw [← hH2, upd_same], atc⟩
  by_cases hb : R = P
  · subst hb
    refine ⟨_, atP, ?_, fun p' cv hcv => ?_⟩
    · rw [Array.toList_append]; exact PySem.TriplesOk_snoc _ _ _ _ ht
    · rw [Array.toList_append] at hcv
      rcases among_app2 _ ht hcv with z | ⟨z, z1, z2⟩
      · obtain ⟨c0, e1, e2⟩ := ha p' cv z
        exact ⟨c0, e1, code e2⟩
      · exact ⟨c', z, by rw [← z1, ← z2, hn]; exact atc⟩
  · obtain ⟨ps', a1, a2, a3⟩ := T R hR
    refine ⟨ps', old R _ hb a1, a2, fun p' cv hcv => ?_⟩
    obtain ⟨c0, e1, e2⟩ := a3 p' cv hcv
    exact ⟨c0, e1, code e2⟩
end
/-! ### the statement «def name(..): ..» in a def -/
def tNdf (nm : Nat → Nat → Str) (Ps : List Addr) (P : Addr) (i : Nat) (mk : Addr → NF) : TS := fun D σ H => Tbs nm Ps H ∧ ∀ (f c' : Addr) (H1 : Hp), Kp [P] H H1 → Tbs nm Ps H1 → H f = none → H1 f = some (FnO f (mk c')) → H1 c' = some (CodeO c' (mk c').qual) → D.nx (σ.set i (some (.ref f))) H1
section
variable {X : Cx} {nm : Nat → Nat → Str} {Ps : List Addr} {c P : Addr}
theorem fnO_new {P : Program} {w : World} {F : NF} {h : Heap} {doc pm ctv : Value} {f : Addr} (e : h.get? f = some ({ cls := .type "function", data := .func (F.fd doc pm ctv) } : Obj)) (H1 : Hp) : ObjOk P w H1 h f (FnO f F) :=
  ⟨⟨_, _, doc, pm, ctv, e⟩, ⟨_, e⟩, fun _ _ ⟨od, sl, d, p, t, z⟩ st => ⟨od, sl, d, p, t, st _ z⟩⟩
theorem fnE_new {P : Program} {w : World} {F : NF} {body : Expr} {h : Heap} {pm ctv : Value} {f : Addr} (e : h.get? f = some (PySem.W.kla_obj F.name F.qual F.params body F.scope F.cl pm F.c ctv)) (H1 : Hp) : ObjOk P w H1 h f (FnE f F body) :=
  ⟨⟨pm, ctv, e⟩, ⟨_, e⟩, fun _ _ ⟨p, t, z⟩ st => ⟨p, t, st _ z⟩⟩
theorem ps_ndf {st : Stmt} {name : Str} {pos : Pos} {i : Nat} (hst : st = .FunctionDef name (C8.fnArgs st) (C8.fnBody st) [] none [] (C8.fnScope st) none name pos) (TB : TabB X.base X.mg c P) (hcode : X.env.code = .ref c) (hm : P ∈ Ps) (hn : nm pos.line pos.col = X.env.qual ++ name) {fr : List Str} (hfr : ndefB X.env.scope (C8.fnScope st) fr = true)
    (hd0 : (C8.fnArgs st).defaults = []) (hk0 : (C8.fnArgs st).kw_defaults = []) (ha : annTrees (C8.fnArgs st) none X.env = []) (hN : X.N.Nodup) (hi : X.N[i]? = some name) (hx : Loc X.env.scope name) (hf : X.fn name = true ∨ X.env.scope.names.lookup name = some .local) :
    PS X st (tNdf nm Ps P i (NF.of st name (X.env.qual ++ name) (cloFrom X.env.cells (C8.fnScope st).names []))) := by
  rw [hst]
  constructor
  intro pins s σ H D I q
  obtain ⟨T, q⟩ := q
  have hq : qualnameIn X.env name name = X.env.qual ++ name := by
    have hk : X.env.kindOf name = some .local ∨ X.env.kindOf name = some .cell := hx
    unfold qualnameIn
    rcases hk with k | k
    · rw [k]; rfl
    · rw [k]; exact if_neg (by decide)
  refine PySem.W.nestDef_K hd0 hk0 ha ?_
  rw [hq]
  have hfree : ∀ y ∈ (C8.fnScope st).names, y.2 = .free → ∃ a, X.env.cells.lookup y.1 = some a := fun y hy e => I.ok.has _ (ndef_free hfr y hy e)
  obtain ⟨ps, hP, ht, hal⟩ := T P hm
  have bP : s.heap.BuiltinsAt X.mg P := TB.bm.keeps I.bk
  have hP' : s.heap.get? P = some { cls := .none, data := .fields ps } := I.hok P _ hP
  have gl := I.mod.glob.keeps I.bk
  have cd := TB.code.keeps I.bk
  have go : ∀ (f c' : Addr) (H1 : Hp) (s' : Shared), Inv X pins σ H1 s' → Kp [P] H H1 → Tbs nm Ps H1 → H f = none → H1 f = some (FnO f (NF.of st name (X.env.qual ++ name) (cloFrom X.env.cells (C8.fnScope st).names []) c')) → H1 c' = some (CodeO c' (X.env.qual ++ name)) →
      wpAny (model X.prog X.w) X.A (storeName X.env name (.ref f)) (fun _ s'' => SP X pins D .next s'') X.xe s' := fun f c' H1 s' I1 k t n h1 h2 =>
    store_ok I1 hN hi hx (v := .ref f) rfl (fun s'' J => ⟨_, H1, J, q f c' H1 k t n h1 h2⟩) hf
  cases hc : codeAmong pos ps.toList with
  | some cv =>
    obtain ⟨c', rfl, hco⟩ := hal pos cv hc
    rw [hn] at hco
    refine PySem.W.makeFunction_hit (mg := X.mg) (closure_ok hfree) I.ok.glob gl hcode cd hP' ht hc bP fun ctv doc h' tk hx2 hsz => ?_
    obtain ⟨J, nF⟩ := inv_hit (tk := tk) (ho := FnO h'.objs.size (NF.of st name (X.env.qual ++ name) (cloFrom X.env.cells (C8.fnScope st).names []) c')) I hx2 hsz fun H1 => fnO_new (doc := doc) (pm := (X.mg "__name__").getD .none) (ctv := ctv) (Heap.get?_push_size _ rfl) H1
    have e := Evl.Ex.new (o := FnO h'.objs.size (NF.of st name (X.env.qual ++ name) (cloFrom X.env.cells (C8.fnScope st).names []) c')) nF
    exact go _ c' _ _ J (Kp.of_ex e) (T.ex e) nF upd_same (e _ _ hco)
  | none =>
    refine PySem.W.makeFunction_K (mg := X.mg) (closure_ok hfree) I.ok.glob gl hcode cd hP' ht hc TB.gP bP fun c' ctv doc h' tk hx2 hge hlt hrec htb => ?_
    obtain ⟨H1, J, k, t, n, h1, h2⟩ := inv_made (tk := tk) (ho := FnO h'.objs.size (NF.of st name (X.env.qual ++ name) (cloFrom X.env.cells (C8.fnScope st).names []) c')) I T hm hP ht hal hn hx2 hge hlt hrec htb fun H1 => fnO_new (doc := doc) (pm := (X.mg "__name__").getD .none) (ctv := ctv) (Heap.get?_push_size _ rfl) H1
    exact go _ c' _ _ J k t n h1 h2
/-! ### a lambda -/
def tLmd (nm : Nat → Nat → Str) (Ps : List Addr) (P : Addr) (mk : Addr → NF) (body : Expr) : TE := fun σ H Q => Tbs nm Ps H ∧ ∀ (f c' : Addr) (H1 : Hp), Kp [P] H H1 → Tbs nm Ps H1 → H f = none → H1 f = some (FnE f (mk c') body) → H1 c' = some (CodeO c' (mk c').qual) → Q (.ref f) H1
theorem pe_lmd {params : Arguments} {body : Expr} {scope : Scope} {pos : Pos} (TB : TabB X.base X.mg c P) (hcode : X.env.code = .ref c) (hm : P ∈ Ps) (hn : nm pos.line pos.col = X.env.qual ++ "<lambda>") {fr : List Str} (hfr : ndefB X.env.scope scope fr = true) (hdef : defaultsOf params X.env = ([], [])) :
    PE X (.Lambda params body scope pos) (tLmd nm Ps P (fun c' => ⟨"<lambda>", X.env.qual ++ "<lambda>", params, [], scope, cloFrom X.env.cells scope.names [], c'⟩) body) := by
  constructor
  intro pins s σ H Q I q
  obtain ⟨T, q⟩ := q
  refine PySem.W.kla_eval hdef ?_
  have hfree : ∀ y ∈ scope.names, y.2 = .free → ∃ a, X.env.cells.lookup y.1 = some a := fun y hy e => I.ok.has _ (ndef_free hfr y hy e)
  obtain ⟨ps, hP, ht, hal⟩ := T P hm
  have bP : s.heap.BuiltinsAt X.mg P := TB.bm.keeps I.bk
  have hP' : s.heap.get? P = some { cls := .none, data := .fields ps } := I.hok P _ hP
  have gl := I.mod.glob.keeps I.bk
  have cd := TB.code.keeps I.bk
  cases hc : codeAmong pos ps.toList with
  | some cv =>
    obtain ⟨c', rfl, hco⟩ := hal pos cv hc
    rw [hn] at hco
    refine PySem.W.kla_makeFunctionHit (mg := X.mg) (closure_ok hfree) I.ok.glob gl hcode cd hP' ht hc bP fun ctv h' tk hx2 hsz => ?_
    obtain ⟨J, nF⟩ := inv_hit (tk := tk) (ho := FnE h'.objs.size ⟨"<lambda>", X.env.qual ++ "<lambda>", params, [], scope, cloFrom X.env.cells scope.names [], c'⟩ body) I hx2 hsz fun H1 => fnE_new (pm := (X.mg "__name__").getD .none) (ctv := ctv) (Heap.get?_push_size _ rfl) H1
    have e := Evl.Ex.new (o := FnE h'.objs.size ⟨"<lambda>", X.env.qual ++ "<lambda>", params, [], scope, cloFrom X.env.cells scope.names [], c'⟩ body) nF
    exact ⟨.ref _, _, J, rfl, q _ c' _ (Kp.of_ex e) (T.ex e) nF upd_same (e _ _ hco)⟩
  | none =>
    refine PySem.W.kla_makeFunction (mg := X.mg) (closure_ok hfree) I.ok.glob gl hcode cd hP' ht hc TB.gP bP fun c' ctv h' tk hx2 hge hlt hrec htb => ?_
    obtain ⟨H1, J, k, t, n, h1, h2⟩ := inv_made (tk := tk) (ho := FnE h'.objs.size ⟨"<lambda>", X.env.qual ++ "<lambda>", params, [], scope, cloFrom X.env.cells scope.names [], c'⟩ body) I T hm hP ht hal hn hx2 hge hlt hrec htb fun H1 => fnE_new (pm := (X.mg "__name__").getD .none) (ctv := ctv) (Heap.get?_push_size _ rfl) H1
    exact ⟨.ref _, H1, J, rfl, q _ c' H1 k t n h1 h2⟩
end
/-! ### a maker of the text -/
structure FunT (K : PySem.W.Frag) (x qual : Str) (st : Stmt) (f : Addr) (fd : FuncData) (c : Addr) : Prop where
  ex : ∃ (oc : Value) (od : Option Addr) (kV doc pm : Value) (an : Option Addr) (ct : Value) (osl : Array (Option Value)), fd = PySem.W.fnOf x qual (defArgs st) (defBody st) (defScope st) .none kV doc pm an (.ref c) ct ∧ K.lookup f = some ⟨oc, od, .func fd, osl⟩ ∧ PySem.W.codeIn K (.ref c) qual = true
theorem funT_mk {K : PySem.W.Frag} {x qual : Str} {st : Stmt} {f c : Addr} {oc : Value} {od an : Option Addr} {osl : Array (Option Value)} {kV doc pm cd ct : Value} (l : K.lookup f = some ⟨oc, od, .func (PySem.W.fnOf x qual (defArgs st) (defBody st) (defScope st) .none kV doc pm an cd ct), osl⟩) (ec : cd = .ref c)
    (h : PySem.W.codeIn K cd qual = true) : FunT K x qual st f (PySem.W.fnOf x qual (defArgs st) (defBody st) (defScope st) .none kV doc pm an cd ct) c := by
  subst ec
  exact ⟨oc, od, kV, doc, pm, an, ct, osl, rfl, l, h⟩
/-- a maker, by its body -/
theorem FunT.ok {P : Program} {w : World} {K : PySem.W.Frag} {mg : Str → Option Value} {base : Heap} {x qual : Str} {st : Stmt} {f c : Addr} {fd : FuncData} {N ps : List Str} {k : Nat} {sp : Sp} (F : FunT K x qual st f fd c) (S : FnScope N ps (defScope st)) (len : ∀ vs H Q E, sp vs H Q E → vs.length = ps.length)
    (hb : ∀ (A : Around) (outer : List Env) (s : Shared) (H : Hp) (vs : List V) (Q : VK) (E : XK), Room k (A.deeper (PyProof.Rows.envOfC qual (defScope st) s.heap.objs.size f (.ref c))) → sp vs H Q E →
      ∃ t, PSs (cxOf L2.CX0 P w K mg base N qual (defScope st) f (.ref c) A outer s H E).nox (defBody st) t ∧ t { nx := fun _ H' => Q .non H', rt := Q } (L2.start N vs) H) : FnOk P w K mg base L2.CX0 (k + 1) f fd ps sp := by
  obtain ⟨oc, od, kV, doc, pm, an, ct, osl, rfl, lk, hcd⟩ := F.ex
  refine fn_of lk hcd S len fun A outer s H vs Q E hr hsp => ?_
  obtain ⟨t, h, q⟩ := hb A outer s H vs Q E hr hsp
  exact ⟨t, PSs.nox h, q⟩
/-- a nested def, by its body -/
theorem nok_by {P : Program} {w : World} {K : PySem.W.Frag} {mg : Str → Option Value} {base : Heap} {N ps fr : List Str} {F : NF} {f : Addr} {k : Nat} {sp : List (Option V) → Sp} (S : NScope N ps fr F.scope)
    (hb : ∀ (doc pm ctv : Value) (us : List Value), us.length = ps.length → bindArgs (F.fd doc pm ctv) ⟨us, []⟩ = pure (ps.zip us)) (len : ∀ ws vs H Q E, sp ws vs H Q E → vs.length = ps.length)
    (hbody : ∀ (A : Around) (outer : List Env) (s : Shared) (H : Hp) (vs : List V) (ws : List (Option V)) (Q : VK) (E : XK), Room k (A.deeper (envF F f s.heap.objs.size)) → ws.length = fr.length → sp ws vs H Q E →
      ∃ t, PSs (ncx L2.CX0 P w K mg base N F f A outer s H E).nox F.body t ∧ t { nx := fun _ H' => Q .non H', rt := Q } (startF N vs ws) H) : NOk P w K mg base L2.CX0 (k + 1) f F ps fr sp := by
  refine nok_of S hb len fun A outer s H vs ws Q E hr _ _ hl hsp => ?_
  obtain ⟨t, h, q⟩ := hbody A outer s H vs ws Q E hr hl hsp
  exact ⟨t, PSs.nox h, q⟩
def inBody (st : Stmt) (i : Nat) : Stmt := (defBody st).getD i (.Pass ⟨0, 0, 0, 0⟩)
/-- which table the code object at c has -/
def tabOf (K : PySem.W.Frag) (c : Addr) : Addr := match K.lookup c with
  | some ⟨_, _, .fields vs, _⟩ => match (vs[11]? : Option PySem.Value) with
    | some (.ref p) => p
    | _ => 0
  | _ => 0
theorem tab_is {K : PySem.W.Frag} {c : Addr} (h : PySem.W.codeHdIn K c (tabOf K c) = true) : PySem.W.codeHdIn K c (tabOf K c) = true := h
theorem mem_dec {p : Addr} {l : List Addr} (h : decide (p ∈ l) = true) : p ∈ l := of_decide_eq_true h
end AT

set_option Elab.async false
set_option linter.all false
set_option maxRecDepth 100000
set_option maxHeartbeats 4000000
/-! own words, tenth part: enumerate over a text; sep.join(reversed(a list)) -/
namespace AT
open PySem PySem.Spec PyProof.Rows L2
section
abbrev SgnP (x : Str) : Nat → Value → Prop := fun i v => ∃ c u, x.cps[i]? = some c ∧ v = .str ⟨#[c]⟩ u
theorem draws_sgn {P : Program} {w : World} {B : Around} (calm : B.handled = none) (z : Addr) (x : Str) (t : Tok) : Draws P w B z [z] x.cps.size (SgnP x) (fun i g => g.IsStrIter z (strIterType x) x t i) := by
  unfold strIterType
  cases x.cps.all (· < 128) with
  | true => exact Draws.strAscii calm z x t
  | false => exact Draws.strWide calm z x t
/-- the text x, each sign in a new pair with its place -/
def ItEs (x : Str) : It where
  go := fun i _ => i < x.cps.size
  yld := fun i H v H' => ∃ T c, v = .ref T ∧ H T = none ∧ x.cps[i]? = some c ∧ H' = upd H T (.tup [.int (i : Nat), .str ⟨#[c]⟩])
  stop := fun i _ => x.cps.size ≤ i
theorem turn_enumS {P : Program} {w : World} {K : PySem.W.Frag} {tgs : List Expr} {kk : Nat} {tp : Pos} (x : Str) (t : Tok) (e z : Addr) :
    Turn P w K (.Tuple tgs kk tp) (ItEs x) [e, z] e (fun i g => (∃ old, IsEnum g e z ((i : Nat) : Int) old) ∧ g.IsStrIter z (strIterType x) x t i ∧ e ≠ z ∧ i ≤ x.cps.size) := by
  refine ⟨List.mem_cons_self, fun i g st b hb => ?_, fun i g g' st k => ?_, ?_, ?_, fun B i s Q E st h => ?_⟩
  · obtain ⟨⟨old, he⟩, ⟨o, ho, hc, hd⟩, _⟩ := st
    rcases List.mem_cons.mp hb with y | y
    · rw [y]; exact ⟨_, he, fun v t => nomatch t⟩
    · rw [List.mem_singleton.mp y]; exact ⟨o, ho, fun v t => by rw [hd] at t; cases t⟩
  · obtain ⟨⟨old, he⟩, ⟨o, ho, r⟩, ne, hi⟩ := st
    exact ⟨⟨old, k e List.mem_cons_self _ he⟩, ⟨o, k z (List.mem_cons_of_mem _ List.mem_cons_self) _ ho, r⟩, ne, hi⟩
  · intro X hP hw hK hc i pins s σ H E I hf st hg
    subst hP hw hK
    obtain ⟨⟨old, he⟩, hz, ne, hi⟩ := st
    have lt : i < x.cps.size := hg
    have heL : e < s.heap.objs.size := Heap.lt_size he
    have hzL : z < s.heap.objs.size := by obtain ⟨_, q, _⟩ := hz; exact Heap.lt_size q
    refine wpAny_pyNext_enum_itemD (draws_sgn (P := X.prog) (w := X.w) (B := X.A.in1) (show X.A.in1.handled = none from I.ok.hd hc) z x t) he hz lt ne (by simp [ne]) fun u' g tk hu' ho st' hT hsz hk => ?_
    obtain ⟨c, tu, hc1, rfl⟩ := hu'
    refine ⟨_, rfl, wpAny_letOwnedTupleGo_enum (s := { s with heap := g, toks := tk + 1 }) ho fun g2 he' sb => ?_⟩
    have hT2 : g2.get? s.heap.objs.size = some { cls := .type "tuple", data := .seq #[.int i tk, .str ⟨#[c]⟩ tu] } := (sb.2 _ (Nat.ne_of_gt heL)).trans hT
    have new : ObjOk X.prog X.w (upd H s.heap.objs.size (.tup [.int (i : Nat), .str ⟨#[c]⟩])) g2 s.heap.objs.size (.tup [.int (i : Nat), .str ⟨#[c]⟩]) :=
      ⟨by show 2 ≤ sizeLine; decide, [.int i tk, .str ⟨#[c]⟩ tu], .cons ⟨_, rfl⟩ (.cons ⟨_, rfl⟩ .nil), ⟨_, hT2, rfl, _, rfl⟩⟩
    have I1 : Inv X pins σ (upd H s.heap.objs.size (.tup [.int (i : Nat), .str ⟨#[c]⟩])) { s with heap := g2, toks := tk + 1 } :=
      I.turnedNew (ch := [e, z]) (fun b ob hb t => (sb.2 b (fun y => hb (by simp [y]))).trans (hk b ob (fun y => hb (by simp [y])) (fun y => hb (by simp [y])) t)) hf (Nat.le_refl _) new
    refine ⟨.ref s.heap.objs.size, _, I1, rfl, ⟨_, c, rfl, I.hok.fresh (Nat.le_refl _), hc1, rfl⟩, ⟨⟨.str ⟨#[c]⟩ tu, ?_⟩, ?_, ne, lt⟩, fun b hb => ?_⟩
    · have e1 : ((i + 1 : Nat) : Int) = (i : Int) + 1 := by omega
      rw [e1]
      exact he'
    · obtain ⟨o, q, r⟩ := st'
      exact ⟨o, (sb.2 z (Ne.symm ne)).trans q, r⟩
    · have hb' : b < s.heap.objs.size := by
        rcases List.mem_cons.mp hb with y | y
        · exact y ▸ heL
        · exact List.mem_singleton.mp y ▸ hzL
      rw [upd_ne (Nat.ne_of_lt hb')]
      exact (hf b hb).1
  · intro X hP hw hK hc i pins s σ H E I hf st hg
    subst hP hw hK
    obtain ⟨⟨old, he⟩, hz, ne, hi⟩ := st
    obtain ⟨f0, f1, f2, f3, f4, f5⟩ := hf z (List.mem_cons_of_mem _ List.mem_cons_self)
    have hl : i = x.cps.size := Nat.le_antisymm hi hg
    rw [hl] at he hz
    refine wpAny_pyNext_enum_endD (draws_sgn (P := X.prog) (w := X.w) (B := X.A.in1) (show X.A.in1.handled = none from I.ok.hd hc) z x t) he hz fun g eb => ⟨rfl, I.turned (t' := s.toks) (fun b o hb t => eb b o hb t) f0 f1 f3 f4 f5⟩
  · obtain ⟨⟨_, he⟩, _⟩ := st
    exact wpAny_pyIter_enum he h
def iEnumS (ta : TA) : TI := fun σ H R => ta σ H fun vs H1 => ∃ x, vs = [.str x] ∧ R (ItEs x) H1
theorem pi_enumS {X : Cx} {e : Expr} {ta : TA} {p pos tp : Pos} {tgs : List Expr} {kk : Nat} (hg : Gl X "enumerate") (hm : X.mg "enumerate" = none) (ha : PA X [e] ta) (hs : starEach [e] X.env = [(false, eval e X.env)] := by rfl) :
    PI X (.Tuple tgs kk tp) (.Call (.Name "enumerate" p) [e] [] pos) (iEnumS ta) := by
  constructor
  intro pins s σ H R I h
  refine Call_ (ld_blt I hg hm boot_enumerate (PyProof.Rows.callWith_type1 (thn (ha.run pos pins s σ H _ I h) fun us s1 z => ?_) hs rfl))
  obtain ⟨vs, H1, I1, r1, x, ex, q⟩ := z
  subst ex
  obtain ⟨u, rfl, ru⟩ := vals1 r1
  obtain ⟨t, rfl⟩ := ru
  refine call_enumerate_str fun g he hit hsz hk => wpAny_pyIter_enum he ?_
  have I2 : Inv X pins σ H1 { s1 with heap := g } := I1.kept (t' := s1.toks) hk
  refine ⟨s1.heap.objs.size + 1, [s1.heap.objs.size + 1, s1.heap.objs.size], _, _, H1, rfl, I2, turn_enumS x t (s1.heap.objs.size + 1) s1.heap.objs.size, ⟨⟨.none, he⟩, hit, Nat.succ_ne_self _, Nat.zero_le _⟩, fun b hb => ?_, q⟩
  have hle : s1.heap.objs.size ≤ b := by
    rcases List.mem_cons.mp hb with y | y
    · rw [y]; exact Nat.le_succ _
    · rw [List.mem_singleton.mp y]; exact Nat.le_refl _
  exact I1.fpOk hle (I1.hok.fresh hle)
theorem walk_enumS {x : Str} : Walk (ItEs x) x.cps.size (fun _ => True) (fun i H v H' => ∃ T c, v = .ref T ∧ H T = none ∧ x.cps[i]? = some c ∧ H' = upd H T (.tup [.int (i : Nat), .str ⟨#[c]⟩])) :=
  ⟨fun i _ hi _ => hi, fun _ _ => Nat.le_refl _, fun i H v H' _ _ y => y⟩
/-- enumerate of a list, a tuple or a text -/
def iEnumX (K : PySem.W.Frag) (ta : TA) : TI := fun σ H R => iEnumS ta σ H R ∨ iEnumA K ta σ H R
theorem pi_enumX {X : Cx} {e : Expr} {ta : TA} {p pos tp : Pos} {tgs : List Expr} {kk : Nat} (hg : Gl X "enumerate") (hm : X.mg "enumerate" = none) (ha : PA X [e] ta) (hs : starEach [e] X.env = [(false, eval e X.env)] := by rfl) :
    PI X (.Tuple tgs kk tp) (.Call (.Name "enumerate" p) [e] [] pos) (iEnumX X.K ta) := PI.or (pi_enumS hg hm ha hs) (pi_enumA hg hm ha hs)
end
/-! ### sep.join(reversed(a list)) -/
section
variable {P : Program} {w : World} {A : Around} {E : Value → Shared → Prop} {s : Shared}
theorem join_rev {x : Str} {t : Tok} {it l : Addr} {its : Array Value} {ys : List Str} {Q : Value → Shared → Prop} (calm : A.handled = none) (hit : s.heap.IsRevIter it l ((its.size : Int) - 1)) (hl : s.heap.IsList l its) (hne : l ≠ it) (hn : its.size ≤ sizeLine)
    (hP : ∀ acc : Array Value, ItemsOf (fun i v => its[its.size - 1 - i]? = some v) acc its.size → StrsAre acc.toList ys) (hok : (ys.map (·.length)).sum + ys.length * x.length ≤ 16777216)
    (hq : ∀ h' tk t', (∀ b o, b ≠ it → s.heap.get? b = some o → h'.get? b = some o) → Q (.str (Txt.join x ys) t') { s with heap := h', toks := tk }) : wpAny (model P w) A (call (.builtin "str.join") [.str x t, .ref it]) Q E s := by
  refine wpAny_call (codeAny_call_builtin F.slot_str_join.plain F.entry_str_join (F.slot_str_join.check _ _ _ _ _ _ _ _ (typeIs_str _ _ _) (F.args_str_join_2 _ _) ?_))
  rw [join_tree_other]
  have ty : s.TypeIs (.ref it) "list_reverseiterator" := hit.typeIs
  refine wpAny_bind (wpAny_typeOf ty ?_)
  rw [if_neg (by decide)]
  refine wpAny_bind (wpAny_tryCatch (wpAny_pyIter_revIter hit ?_))
  have calm1 : A.in1.in1.handled = none := calm
  refine wpAny_bind (RT.collect_rev (A := A.in1) calm hit hl hne hn fun h' tk acc kp items => ?_)
  obtain ⟨ps, hps, es⟩ := strsAre_values (hP acc items)
  subst es
  rw [hps]
  have fit := joinOk_of hok
  unfold JoinOk at fit
  rw [Bool.not_eq_true'] at fit
  have g : Gives (PySem.joinTail x (strValues ps)) (joinMade x ps) := by
    have made := PySem.gives_joinTail x ps fit
    rcases ps with _ | ⟨one, _ | ⟨two, rest⟩⟩
    · exact made
    · exact made
    · exact made
  exact g P w A (wants Q E) _ (PySem.post_join ps ⟨PySem.joinFit_length fit, fun t' k => hq h' k t' kp⟩)
end
theorem strs_rev {ys : List Str} {its : List Value} {acc : Array Value} (r : Vals (ys.map V.str) its) (h : ItemsOf (fun i v => its.toArray[its.toArray.size - 1 - i]? = some v) acc its.toArray.size) : StrsAre acc.toList ys.reverse := by
  have r2 := RT.vals_rev r h
  rw [← List.map_reverse] at r2
  generalize ys.reverse = zs at r2
  generalize acc.toList = us at r2
  clear h r
  induction zs generalizing us with
  | nil => cases r2; exact .nil
  | cons z zs ih =>
    cases r2 with
    | cons r1 r3 =>
      obtain ⟨t, rfl⟩ := r1
      exact .cons z t (ih _ r3)
def tJoinRev (K : PySem.W.Frag) (to : TE) (ta : TA) : TE := fun σ H Q => to σ H fun v H1 => (∃ a : Str, v = .str a) ∧ ta σ H1 fun vs H2 => ∃ (a : Str) (q : Addr) (ys : List Str), v = .str a ∧ vs = [.ref q] ∧ SqL K H2 q (ys.map V.str) ∧
  (ys.map (·.length)).sum + ys.length * a.length ≤ 16777216 ∧ Q (.str (Txt.join a ys.reverse)) H2
theorem pe_joinRev {X : Cx} {o e : Expr} {to : TE} {ta : TA} {apos pos p2 pos2 : Pos} (calm : X.calm = true) (ho : PE X o to) (hg : Gl X "reversed") (hm : X.mg "reversed" = none) (ha : PA X [e] ta) (hs : starEach [e] X.env = [(false, eval e X.env)] := by rfl)
    (hs1 : starEach [.Call (.Name "reversed" p2) [e] [] pos2] X.env = [(false, eval (.Call (.Name "reversed" p2) [e] [] pos2) X.env)] := by rfl) (hbase : attributeBase o "join" X.env (eval o X.env) = eval o X.env := by rfl) (hline : (apos.endLine == pos.line) = true := by rfl) :
    PE X (.Call (.Attribute o "join" apos) [.Call (.Name "reversed" p2) [e] [] pos2] [] pos) (tJoinRev X.K to ta) := by
  constructor
  intro pins s σ H Q I h
  refine PySem.Call_method1 hbase hs1 hline (thn (ho.run pins s σ H _ I h) fun v s1 z => ?_)
  obtain ⟨x, H1, I1, r1, ⟨a, rfl⟩, q1⟩ := z
  obtain ⟨t, rfl⟩ := _root_.id r1
  refine ⟨"str", _, F.plainAttrs_str, F.slot_str_join, F.type_str_join, typeIs_str _ _ _, (fun _ e => nomatch e), Calls.callWith_builtin rfl (Calls.evalArgs_plain (Calls.spliced_cons ?_))⟩
  refine Call_ (ld_blt I1 hg hm PyProof.Rows.boot_reversed (PyProof.Rows.callWith_type1 (thn (ha.run pos2 pins s1 σ H1 _ I1 q1) fun us s2 z => ?_) hs rfl))
  obtain ⟨vs, H2, I2, r2, a', q, ys, ea, ev, hq, hz, q2⟩ := z
  cases ea
  subst ev
  obtain ⟨u, rfl, ru⟩ := vals1 r2
  cases (show u = Value.ref q from ru)
  obtain ⟨its, rv, p', hl⟩ := I2.list hq
  refine call_reversed_list p'.isList (Calls.spliced_nil ?_)
  have hol : q < s2.heap.objs.size := by obtain ⟨o, z, _⟩ := p'.isList; exact Heap.lt_size z
  have k0 : ∀ b o, s2.heap.get? b = some o → (s2.heap.push (revObj q ((its.toArray.size : Int) - 1))).get? b = some o := fun b o z => Heap.get?_push_of_some _ z
  have J : Inv X pins σ H2 { s2 with heap := s2.heap.push (revObj q ((its.toArray.size : Int) - 1)) } := I2.kept (t' := s2.toks) k0
  obtain ⟨f0, f1, f2, f3, f4, f5⟩ := I2.fpOk (H' := H2) (b := s2.heap.objs.size) (Nat.le_refl _) (I2.hok.fresh (Nat.le_refl _))
  refine join_rev (s := { s2 with heap := s2.heap.push (revObj q ((its.toArray.size : Int) - 1)) }) (ys := ys.reverse) (I2.ok.hd calm) ⟨_, Heap.get?_push_size _ rfl, rfl, rfl⟩ (p'.isList.push _) (Nat.ne_of_lt hol) ?_ (fun acc hi => strs_rev rv hi) ?_ fun h' tk t' kp => ?_
  · rw [List.size_toArray, ← rv.length]; exact hl
  · rw [List.map_reverse, List.sum_reverse, List.length_reverse]; exact hz
  · exact ⟨.str _, H2, J.turned (t' := tk) (fun b o hb z => kp b o hb z) f0 f1 f3 f4 f5, ⟨t', rfl⟩, q2⟩
section
variable {X : Cx} (K : PySem.W.Frag) (hK : X.K = K := by rfl)
include hK
theorem kJr {e : Expr} {to : TE} {ta : TA} (h : PE X e (tJoinRev X.K to ta)) : PE X e (tJoinRev K to ta) := hK ▸ h
end
section
variable {σ : L2.St} {H : Hp} {Q : VK} {D : Ends} {t : TA} {to : TE} {ta : TA} {nm : Nat → Nat → Str} {Ps : List Addr} {P : Addr} {i : Nat} {mk : Addr → NdefX.NF} {X : Cx} {sp : Sp} {R : It → Hp → Prop}
theorem rd_ndf (T : Tbs nm Ps H) (h : ∀ (f c' : Addr) (H1 : Hp), Kp [P] H H1 → Tbs nm Ps H1 → H f = none → H1 f = some (NdefX.FnO f (mk c')) → H1 c' = some (LamX.CodeO c' (mk c').qual) → D.nx (σ.set i (some (.ref f))) H1) : tNdf nm Ps P i mk D σ H := ⟨T, h⟩
theorem rd_callZ (h : t σ H fun vs H1 => ∀ O, OwnC X σ O H1 → sp vs (fz (ca X) O H1) (fun v H2 => Q v (hid (ca X) H2)) L2.E0) : tCallZ X sp t σ H Q := h
theorem rd_enS (h : ta σ H fun vs H1 => ∃ x, vs = [.str x] ∧ R (ItEs x) H1) : iEnumS ta σ H R := h
end
section
variable {X : Cx}
/-- t.index(True), t a tuple of truth values -/
def rIdxB (K : PySem.W.Frag) : V → List V → Hp → VK → Prop := fun x xs H Q => ∃ (p : Addr) (bs : List Bool) (j : Nat), x = .ref p ∧ xs = [.bl true] ∧ SqT K H p (bs.map V.bl) ∧ bs[j]? = some true ∧ (∀ m, m < j → bs[m]? ≠ some true) ∧ Q (.int (j : Nat)) H
theorem flat_bls : ∀ bs : List Bool, (bs.map V.bl).all flatV = true
  | [] => rfl
  | _ :: bs => flat_bls bs
theorem mt_tupIdxB : MtR X "tuple.index" (rIdxB X.K) := by
  intro pins s σ H x xs v us Q I rx rs h
  obtain ⟨p, bs, j, rfl, rfl, hq, hj, no, q⟩ := h
  cases rx
  obtain ⟨u, rfl, ru⟩ := vals1 rs
  cases (show u = Value.bool true from ru)
  obtain ⟨its, r, ⟨⟨cls, dd, dt, sl⟩, ho, hc, n, hd⟩, hz⟩ := I.tuple hq
  simp only at hc hd
  subst hc hd
  have len : its.toArray.size = bs.length := by
    have := r.length
    rw [List.length_map] at this
    rw [List.size_toArray]; exact this.symm
  have jl : j < its.toArray.size := by rw [len]; exact (List.getElem?_eq_some_iff.mp hj).1
  have here : ∀ (m : Nat) (hm : m < its.toArray.size), ∃ b, bs[m]? = some b ∧ its.toArray[m] = Value.bool b := fun m hm => by
    have hm' : m < bs.length := len ▸ hm
    obtain ⟨z, hz1, hz2⟩ := r.get (i := m) (x := .bl bs[m]) (by simp [hm'])
    refine ⟨bs[m], List.getElem?_eq_getElem hm', ?_⟩
    cases (show z = Value.bool bs[m] from hz2)
    simpa using (List.getElem?_eq_some_iff.mp hz1).2
  refine call_meets PySem.F.slot_tuple_index ⟨_, ho, rfl⟩ PySem.F.entry_tuple_index (PySem.F.args_tuple_index_2 _ _) (TI.tuple_indexAt p its.toArray n dd sl (.bool true) (eqU (.bl true)) j jl ?_ ?_) ⟨ho, fun z hz => mem_eqAt (x := .bl true) rfl rfl r (flat_bls bs) z (by simpa using hz), ⟨.int (j : Nat), H, I.tok _, ⟨_, rfl⟩, q⟩⟩
  · obtain ⟨b, h1, h2⟩ := here j jl
    rw [hj] at h1
    cases h1
    rw [h2]
    rfl
  · intro m hm hmj
    obtain ⟨b, h1, h2⟩ := here m hm
    rw [h2]
    cases b with
    | true => exact absurd h1 (no m hmj)
    | false => rfl
end
section
variable {X : Cx} (K : PySem.W.Frag) (hK : X.K = K := by rfl)
include hK
theorem kIdxB : MtR X "tuple.index" (rIdxB K) := hK ▸ mt_tupIdxB
end
theorem PE.or {X : Cx} {e : Expr} {t t' : TE} (h : PE X e t) (h' : PE X e t') : PE X e (fun σ H Q => t σ H Q ∨ t' σ H Q) := by
  constructor
  intro pins s σ H Q I q
  exact q.elim (h.run pins s σ H Q I) (h'.run pins s σ H Q I)
/-! ### what stands still hides no data -/
section
variable {K : PySem.W.Frag} {S : List Addr} {H H' : Hp}
theorem rz_hid : rz S H (hid S H) = H := by
  funext b
  by_cases hb : b ∈ S
  · rw [rz_in hb]
  · rw [rz_at hb, hid_at hb]
/-- all of S are things that no data leans on -/
def NoD (S : List Addr) (H : Hp) : Prop := ∀ b ∈ S, ∀ o, H b = some o → (∀ xs, o ≠ .lst xs) ∧ (∀ xs, o ≠ .tup xs) ∧ (∀ u xs, o ≠ .frz u (.lst xs)) ∧ ∀ u xs, o ≠ .frz u (.tup xs)
theorem NoD.of_fr (W : ∀ b ∈ S, ∃ o, H b = some (frC b o)) : NoD S H := fun b hb o e => by
  obtain ⟨u, z⟩ := W b hb
  rw [z] at e
  cases e
  exact ⟨fun xs z => (nomatch z), fun xs z => (nomatch z), (fun u xs z => by cases z), (fun u xs z => by cases z)⟩
theorem sqt_noD (h : NoD S H) {a : Addr} {vs : List V} (q : SqT K H a vs) : SqT K (hid S H) a vs := by
  rcases q with (q | ⟨o, q⟩) | q
  · exact .inl (.inl (by rw [hid_at fun hb => (h a hb _ q).2.1 _ rfl]; exact q))
  · exact .inl (.inr ⟨o, by rw [hid_at fun hb => (h a hb _ q).2.2.2 _ _ rfl]; exact q⟩)
  · exact .inr q
theorem sql_noD (h : NoD S H) {a : Addr} {vs : List V} (q : SqL K H a vs) : SqL K (hid S H) a vs := by
  rcases q with (q | ⟨o, q⟩) | q
  · exact .inl (.inl (by rw [hid_at fun hb => (h a hb _ q).1 _ rfl]; exact q))
  · exact .inl (.inr ⟨o, by rw [hid_at fun hb => (h a hb _ q).2.2.1 _ _ rfl]; exact q⟩)
  · exact .inr q
mutual
theorem Dp.hidF (h : NoD S H) : ∀ (d : PyData) {v : V}, Dp K H v d → Dp K (hid S H) v d
  | .none, _, q => by cases q; exact .non
  | .bool b, _, q => by cases q; exact .bl b
  | .int i, _, q => by cases q; exact .int i
  | .str x, _, q => by cases q; exact .str x
  | .list ds, _, q => by
    cases q with
    | lst hs ha => exact .lst (sql_noD h hs) (DpAll.hidF h ds ha)
  | .tuple ds, _, q => by
    cases q with
    | tup hs ha => exact .tup (sqt_noD h hs) (DpAll.hidF h ds ha)
  | .dict _, _, q => by cases q
theorem DpAll.hidF (h : NoD S H) : ∀ (ds : List PyData) {vs : List V}, DpAll K H vs ds → DpAll K (hid S H) vs ds
  | [], _, q => by cases q; exact .nil
  | d :: ds, _, q => by
    cases q with
    | cons h1 h2 => exact .cons (Dp.hidF h d h1) (DpAll.hidF h ds h2)
end
end
section
variable {nm : Nat → Nat → Str} {Ps S : List Addr} {H H' : Hp}
/-- the tables are no data -/
theorem Tbs.noD (t : Tbs nm Ps H) : NoD Ps H := fun b hb o e => by
  obtain ⟨ps, z⟩ := TabN.isT (t b hb)
  rw [z] at e
  cases e
  exact ⟨fun xs z => (nomatch z), fun xs z => (nomatch z), fun u xs z => (nomatch z), fun u xs z => (nomatch z)⟩
theorem kp_one {P : Addr} (hP : P ∈ Ps) (k : Kp [P] H H') : Kp Ps H H' := k.sub fun b hb => by rw [List.mem_singleton.mp hb]; exact hP
end
/-! ### made functions, for those who get them -/
section
open LamX NdefX
/-- the promise, the function's cells out of sight -/
def spC (as : List Addr) (sp : Sp) : List V → Hp → VK → Prop := fun vs H Q => (∀ b ∈ as, ∃ o, H b = some (frC b o)) → sp vs (hid as H) (fun v H' => (∀ b ∈ as, H' b = none) → Q v (rz as H H')) L2.E0
theorem FV.weak {P : Program} {w : World} {K : PySem.W.Frag} {mg : Str → Option Value} {base : Heap} {k : Nat} {f : Addr} {G : Hp → Prop} {sp sp' : List V → Hp → VK → Prop} (F : FV P w K mg base k f G sp) (h : ∀ vs H Q, G H → sp' vs H Q → sp vs H Q) : FV P w K mg base k f G sp' :=
  ⟨F.fn, F.st, fun A outer s H us vs Q hr e0 g r q => F.run A outer s H us vs Q hr e0 g r (h vs H Q g q)⟩
variable {X : Cx} {σ : L2.St} {O : Addr → Obj} {H : Hp} {f c : Addr} {name q : Str} {params : Arguments} {scope : Scope} {N ps fr : List Str} {js : List Nat} {k : Nat} {sp : List (Option V) → Sp}
theorem lam_made {body : Expr} (ow : OwnC X σ O H) (hf : H f = some (FnE f ⟨name, q, params, [], scope, cloFrom X.env.cells scope.names [], c⟩ body)) (hc : H c = some (CodeO c q)) (js : List Nat) (hb : ndefB X.env.scope scope fr = true) (hjs : js.map (fun j => X.N[j]?) = fr.map some) (S : NScope N ps fr scope)
    (hbind : ∀ (cl : List (Str × Addr)) (pm ctv : Value) (us : List Value), us.length = ps.length → bindArgs (PySem.W.kla_fn name q params body scope cl pm (.ref c) ctv) ⟨us, []⟩ = pure (ps.zip us)) (len : ∀ ws vs H Q E, sp ws vs H Q E → vs.length = ps.length)
    (hbody : ∀ (cl : List (Str × Addr)) (A : Around) (outer : List Env) (s : Shared) (H : Hp) (vs : List V) (ws : List (Option V)) (Q : VK), Room k (A.deeper (envF ⟨name, q, params, [], scope, cl, c⟩ f s.heap.objs.size)) → ws.length = fr.length → sp ws vs H Q L2.E0 →
      ∃ t, PE (ncx L2.CX0 X.prog X.w X.K X.mg X.base N ⟨name, q, params, [], scope, cl, c⟩ f A outer s H L2.E0) body t ∧ t (startF N vs ws) H Q) :
    ∃ (G : Hp → Prop) (as : List Addr), FV X.prog X.w X.K X.mg X.base (k + 1) f G (spC as (sp (js.map (slotAt σ)))) ∧ G (fz (ca X) O H) := by
  have F := FV.of_lam (P := X.prog) (w := X.w) (K := X.K) (mg := X.mg) (base := X.base) (f := f) (F := ⟨name, q, params, [], scope, cloFrom X.env.cells scope.names [], c⟩) (body := body) (ws := js.map (slotAt σ)) (sp := sp) S (hbind _) len fun A outer s H vs Q hr hl h => hbody _ A outer s H vs _ Q hr hl h
  exact ⟨_, _, F.weak fun vs H' Q g h => h fun b hb => let ⟨u, e, _⟩ := g.cel b hb; ⟨u, e⟩, clo_made ow hf hc hb hjs⟩
theorem ndf_made {body : List Stmt} (ow : OwnC X σ O H) (hf : H f = some (FnO f ⟨name, q, params, body, scope, cloFrom X.env.cells scope.names [], c⟩)) (hc : H c = some (CodeO c q)) (js : List Nat) (hb : ndefB X.env.scope scope fr = true) (hjs : js.map (fun j => X.N[j]?) = fr.map some)
    (Nk : ∀ cl, NOk X.prog X.w X.K X.mg X.base L2.CX0 k f ⟨name, q, params, body, scope, cl, c⟩ ps fr sp) :
    ∃ (G : Hp → Prop) (as : List Addr), FV X.prog X.w X.K X.mg X.base k f G (spC as (sp (js.map (slotAt σ)))) ∧ G (fz (ca X) O H) := by
  have F := FV.of_nok (ws := js.map (slotAt σ)) (Nk (cloFrom X.env.cells scope.names []))
  exact ⟨_, _, F.weak fun vs H' Q g h => h fun b hb => let ⟨u, e, _⟩ := g.cel b hb; ⟨u, e⟩, clo_made ow hf hc hb hjs⟩
end
theorem Tbs.kpX {nm : Nat → Nat → Str} {Ps : List Addr} {P : Addr} {H H' : Hp} (t : Tbs nm Ps H) (hP : P ∈ Ps) (k : Kp [P] H H') {b : Addr} {o : HO} (e : H b = some o) (x : isX o) : H' b = some o := by
  obtain ⟨ps, z⟩ := TabN.isT (t P hP)
  refine k b o (fun m => ?_) e
  rw [List.mem_singleton.mp m, z] at e
  cases e
  exact x
/-- the data that stands while a table grows -/
theorem Tbs.kpD {nm : Nat → Nat → Str} {Ps : List Addr} {P : Addr} {H H' : Hp} (t : Tbs nm Ps H) (hP : P ∈ Ps) (k : Kp [P] H H') {b : Addr} {o : HO} (e : H b = some o) (x : ∀ ps, o ≠ .tbl ps) : H' b = some o := by
  obtain ⟨ps, z⟩ := TabN.isT (t P hP)
  refine k b o (fun m => ?_) e
  rw [List.mem_singleton.mp m, z] at e
  cases e
  exact absurd rfl (x ps)
/-- out of the callee's heap, the cells left behind -/
theorem fz_out {as : List Addr} {O : Addr → Obj} {H H' : Hp} (n : ∀ c ∈ as, H c = none) (e : Ex (fz as O H) H') : Ex H (hid as H') := fun b o z => by
  have nb : b ∉ as := fun m => by rw [n b m] at z; cases z
  rw [hid_at nb]
  exact e b o (by rw [fz_at nb]; exact z)
section
open LamX NdefX
/-- what stands but for the cells -/
def StE (H H' : Hp) : Prop := ∀ b φ, H b = some (.ext φ) → H' b = some (.ext φ)
theorem StE.hid {S : List Addr} {H : Hp} (W : ∀ b ∈ S, ∃ o, H b = some (frC b o)) : StE H (hid S H) := fun b φ e => by
  rw [hid_at fun m => by obtain ⟨o, z⟩ := W b m; rw [z] at e; cases e]
  exact e
theorem StE.of_ex {H H' : Hp} (e : Ex H H') : StE H H' := fun b φ z => e b _ z
theorem StE.trans {H H1 H2 : Hp} (a : StE H H1) (b : StE H1 H2) : StE H H2 := fun x φ z => b x φ (a x φ z)
/-- a lambda that captured nothing -/
theorem lam_free {P : Program} {w : World} {K : PySem.W.Frag} {mg : Str → Option Value} {base : Heap} {f c : Addr} {name q : Str} {params : Arguments} {scope : Scope} {N ps : List Str} {k : Nat} {sp : Sp} {body : Expr} {H : Hp} {cl : List (Str × Addr)} (hf : H f = some (FnE f ⟨name, q, params, [], scope, cl, c⟩ body)) (hc : H c = some (CodeO c q)) (hcl : cl = [])
    (S : NScope N ps [] scope) (hbind : ∀ (pm ctv : Value) (us : List Value), us.length = ps.length → bindArgs (PySem.W.kla_fn name q params body scope [] pm (.ref c) ctv) ⟨us, []⟩ = pure (ps.zip us)) (len : ∀ vs H Q E, sp vs H Q E → vs.length = ps.length)
    (hbody : ∀ (A : Around) (outer : List Env) (s : Shared) (H : Hp) (vs : List V) (Q : VK), Room k (A.deeper (envF ⟨name, q, params, [], scope, [], c⟩ f s.heap.objs.size)) → sp vs H Q L2.E0 →
      ∃ t, PE (ncx L2.CX0 P w K mg base N ⟨name, q, params, [], scope, [], c⟩ f A outer s H L2.E0) body t ∧ t (startF N vs []) H Q) :
    ∃ G : Hp → Prop, FV P w K mg base (k + 1) f G (fun vs H Q => sp vs H Q L2.E0) ∧ G H ∧ ∀ H H', StE H H' → G H → G H' := by
  subst hcl
  have F := FV.of_lam (P := P) (w := w) (K := K) (mg := mg) (base := base) (f := f) (F := ⟨name, q, params, [], scope, [], c⟩) (body := body) (fr := []) (ws := []) (sp := fun _ => sp) S hbind (fun _ => len) fun A outer s H vs Q hr _ h => hbody A outer s H vs Q hr h
  have all : ∀ H, H f = some (FnE f ⟨name, q, params, [], scope, [], c⟩ body) ∧ H c = some (CodeO c q) → Clo H f (FnE f ⟨name, q, params, [], scope, [], c⟩ body) c q [] [] [] := fun H h =>
    ⟨h.1, h.2, (fun a ha => nomatch ha), (fun x y a e => nomatch e), rfl, fun i y e => by rw [List.getElem?_nil] at e; cases e⟩
  refine ⟨fun H => H f = some (FnE f ⟨name, q, params, [], scope, [], c⟩ body) ∧ H c = some (CodeO c q), ⟨fun H h ok g => F.fn H h ok (all H g), fun H H' st g => ⟨st _ _ g.1 True.intro, st _ _ g.2 True.intro⟩, fun A outer s H us vs Q hr e0 g r q => F.run A outer s H us vs Q hr e0 (all H g) r ?_⟩, ⟨hf, hc⟩, fun H H' st g => ⟨st _ _ g.1, st _ _ g.2⟩⟩
  show sp vs (hid [] H) (fun v H' => (∀ b ∈ ([] : List Addr), H' b = none) → Q v (rz [] H H')) L2.E0
  have e1 : (fun (v : V) (H' : Hp) => (∀ b ∈ ([] : List Addr), H' b = none) → Q v (rz [] H H')) = Q := by
    funext v H'
    have e2 : rz [] H H' = H' := by
      funext b
      exact rz_at (by simp)
    rw [e2]
    exact propext ⟨fun h => h fun b hb => (nomatch hb), fun h _ => h⟩
  rw [hid_nil, e1]
  exact q
end
theorem Tbs.hidC {nm : Nat → Nat → Str} {Ps as : List Addr} {H : Hp} (t : Tbs nm Ps H) (W : ∀ b ∈ as, ∃ o, H b = some (frC b o)) : Tbs nm Ps (hid as H) := fun P hP => by
  obtain ⟨ps, e, h1, h2⟩ := t P hP
  refine ⟨ps, by rw [hid_at fun m => by obtain ⟨o, z⟩ := W P m; rw [e] at z; cases z]; exact e, h1, fun pos cv hc => ?_⟩
  obtain ⟨c, e1, e2⟩ := h2 pos cv hc
  exact ⟨c, e1, by rw [hid_at fun m => by obtain ⟨o, z⟩ := W c m; rw [e2] at z; cases z]; exact e2⟩
/-- back from a callee that may make functions -/
theorem out_T {nm : Nat → Nat → Str} {Ps as : List Addr} {O : Addr → Obj} {H H' : Hp} (n : ∀ c ∈ as, H c = none) (t : Tbs nm Ps H) (k : Kp Ps (fz as O H) H') (t' : Tbs nm Ps H') : Kp Ps H (hid as H') ∧ Tbs nm Ps (hid as H') := by
  have np : ∀ b ∈ as, b ∉ Ps := fun b hb hP => by
    obtain ⟨ps, z⟩ := TabN.isT (t b hP)
    rw [n b hb] at z; cases z
  refine ⟨fun b o hb e => ?_, t'.hidC fun b hb => ⟨O b, k b _ (np b hb) (fz_in hb)⟩⟩
  have nb : b ∉ as := fun m => by rw [n b m] at e; cases e
  rw [hid_at nb]
  exact k b o hb (by rw [fz_at nb]; exact e)
theorem rd_neB {K : PySem.W.Frag} {x y : Bool} {H : Hp} {Q : VK} (h : Q (.bl (x != y)) H) : oNe K (.bl x) (.bl y) H Q := .inl ⟨rfl, by
  have e : (!decide (V.bl x = V.bl y)) = (x != y) := by cases x <;> cases y <;> rfl
  rw [e]; exact h⟩
theorem rd_eqB {K : PySem.W.Frag} {x y : Bool} {H : Hp} {Q : VK} (h : Q (.bl (x == y)) H) : oEq K (.bl x) (.bl y) H Q := .inl ⟨rfl, by
  have e : decide (V.bl x = V.bl y) = (x == y) := by cases x <;> cases y <;> rfl
  rw [e]; exact h⟩
/-! ### tuples that are known to the object: their methods -/
/-- a tuple with no dict of its own -/
def TupF (H : Hp) (p : Addr) (xs : List V) : Prop := ∃ o : Obj, H p = some (.frz o (.tup xs)) ∧ o.cls = .type "tuple" ∧ o.dict = none
theorem TupF.sq {K : PySem.W.Frag} {H : Hp} {p : Addr} {xs : List V} (h : TupF H p xs) : SqT K H p xs := let ⟨o, e, _⟩ := h; .inl (.inr ⟨o, e⟩)
theorem TupF.ex {H H' : Hp} {p : Addr} {xs : List V} (h : TupF H p xs) (e : Ex H H') : TupF H' p xs := let ⟨o, z, r⟩ := h; ⟨o, e _ _ z, r⟩
/-- tuple(a list): the new tuple, known to the object -/
def cTupF (K : PySem.W.Frag) : List V → Hp → VK → Prop := fun xs H Q => ∃ p ys, xs = [.ref p] ∧ SqL K H p ys ∧ ∀ l o, H l = none → o.cls = .type "tuple" → o.dict = none → Q (.ref l) (upd H l (.frz o (.tup ys)))
theorem call_tupF {X : Cx} : CallR X (.type "tuple") (cTupF X.K) := by
  intro pins s σ H xs us Q I r h
  obtain ⟨p, ys, rfl, hq, q⟩ := h
  obtain ⟨u, rfl, ru⟩ := vals1 r
  cases (show u = Value.ref p from ru)
  obtain ⟨its, rv, pl, hz⟩ := I.list hq
  have len := rv.length
  refine call_tuple_list pl.isList (fun h' kp => ?_) (by rw [List.size_toArray]; omega)
  have J : Inv X pins σ H { s with heap := h' } := I.kept (t' := s.toks) kp
  have got : (h'.push { cls := .type "tuple", data := .seq its.toArray }).get? h'.objs.size = some { cls := .type "tuple", data := .seq its.toArray } := Heap.get?_push_size _ rfl
  refine ⟨.ref h'.objs.size, _, J.laid (t' := s.toks) (o := .frz { cls := .type "tuple", data := .seq its.toArray } (.tup ys)) (fun b o e => Heap.get?_push_of_some _ e) (Nat.le_refl _) ⟨got, hz, its, rv, IsTup.new _ _⟩, rfl, q _ _ (J.hok.fresh (Nat.le_refl _)) rfl rfl⟩
/-- o.m(..), o a tuple that is known to the object -/
def tBMF (r : V → List V → Hp → VK → Prop) (to : TE) (t : TA) : TE := fun σ H Q => to σ H fun x H1 => (∃ p xs, x = .ref p ∧ TupF H1 p xs) ∧ t σ H1 fun vs H2 => r x vs H2 Q
theorem pe_bmF {X : Cx} {o e : Expr} {es : List Expr} {name : Str} {id : String} {r : V → List V → Hp → VK → Prop} {to : TE} {t : TA} {apos cpos : Pos} (pa : PlainAttrs "tuple") (slot : Slot "tuple" name id) (hty : typeOf (.builtin id) = pure (.type "method_descriptor")) (hm : MtR X id r) (ho : PE X o to) (ha : PA X (e :: es) t)
    (hbase : attributeBase o name X.env (eval o X.env) = eval o X.env := by rfl)
    (hfew : ((backTo cpos (starEach (e :: es) X.env)).all (fun x => !x.1) && (backToKw cpos (keywordEach [] X.env)).all (fun x => x.1.isSome) && decide ((e :: es).length + ([] : List Keyword).length + (if ([] : List Keyword).isEmpty then 0 else 1) < 30)) = true := by rfl)
    (hline : (apos.endLine == cpos.line) = true := by rfl) (hs : starEach (e :: es) X.env = (false, eval e X.env) :: starEach es X.env := by rfl) (hpl : (backTo cpos (starEach es X.env)).any (·.1) = false := by rfl) :
    PE X (.Call (.Attribute o name apos) (e :: es) [] cpos) (tBMF r to t) := by
  constructor
  intro pins s σ H Q I h
  refine wpAny_Call_method_late hbase hfew hline rfl (thn (ho.run pins s σ H _ I h) fun v s1 z => ?_)
  obtain ⟨x, H1, I1, r1, ⟨p, xs, rfl, u, hp, hc, hd⟩, q1⟩ := z
  have hv : v = Value.ref p := r1
  obtain ⟨got, _⟩ := I1.hok p _ hp
  refine ⟨"tuple", id, pa, slot, hty, by rw [hv]; exact ⟨u, got, hc⟩, fun a e => ?_, ?_⟩
  · rw [hv] at e
    cases e
    exact ⟨u, got, hd⟩
  have hA := ha.run cpos pins s1 σ H1 _ I1 q1
  rw [hs] at hA ⊢
  refine Calls.callWith_builtin (by show (false || (backTo cpos (starEach es X.env)).any (·.1)) = false; rw [hpl]; rfl) (Calls.evalArgs_plain ?_)
  exact thn hA fun us s2 z => by
    obtain ⟨vs, H2, I2, r2, q2⟩ := z
    exact hm pins s2 σ H2 _ vs v us Q I2 r1 r2 q2
section
variable {X : Cx} (K : PySem.W.Frag) (hK : X.K = K := by rfl)
include hK
theorem kTupF : CallR X (.type "tuple") (cTupF K) := hK ▸ call_tupF
end
theorem rd_bmF {r : V → List V → Hp → VK → Prop} {to : TE} {t : TA} {σ : L2.St} {H : Hp} {Q : VK} (h : to σ H fun x H1 => (∃ p xs, x = .ref p ∧ TupF H1 p xs) ∧ t σ H1 fun vs H2 => r x vs H2 Q) : tBMF r to t σ H Q := h
end AT

set_option Elab.async false
set_option linter.all false
set_option maxRecDepth 100000
set_option maxHeartbeats 4000000
/-! own words, eleventh part: calls of function values within comprehensions -/
namespace AT
open PySem PySem.Spec PyProof.Rows L2
section
variable {X : Cx} {k i : Nat} {x : Str} {p pos : Pos} {e : Expr} {es : List Expr} {t : TA} {P : Program} {w : World} {K : PySem.W.Frag} {mg : Str → Option Value} {base : Heap}
/-- x(..), x a name that holds a function, its parts named -/
theorem pe_callQB (h1 : X.prog = P) (h2 : X.w = w) (h3 : X.K = K) (h4 : X.mg = mg) (h5 : X.base = base) (hr : Room k X.A) (hN : X.N[i]? = some x) (hv : Vis X.env.scope x) (ha : PA X (e :: es) t) (hd : (x == ("__debug__" : Str)) = false := by decide) (hcd : (x == ("__classdict__" : Str)) = false := by decide)
    (he : starEach (e :: es) X.env = (false, eval e X.env) :: starEach es X.env := by rfl) (hpl : (backTo pos (starEach es X.env)).any (·.1) = false := by rfl) : PE X (.Call (.Name x p) (e :: es) [] pos) (tCallQ P w K mg base k i t) := by
  subst h1 h2 h3 h4 h5
  exact pe_callQ hr hN hv ha hd hcd he hpl
end
/-- o[i] of a tracked list, from its start, as `o[i] += ..` reads it -/
def gGetL : V → V → Hp → VK → Prop := fun x y H Q => ∃ p xs i v, x = .ref p ∧ y = .int i ∧ H p = some (.lst xs) ∧ 0 ≤ i ∧ xs[i.toNat]? = some v ∧ Q v H
theorem pget_list {X : Cx} : PGet X gGetL := by
  intro pins s σ H x y v u Q I rx ry h
  obtain ⟨p, xs, i, z, rfl, rfl, hq, h0, he, q⟩ := h
  cases rx
  obtain ⟨t, rfl⟩ := ry
  obtain ⟨its, r, pl, hz⟩ := I.list (.inl (.inl hq))
  obtain ⟨w, ew, rw'⟩ := r.get he
  have hl := r.length
  have hn := line63
  have hi : i.toNat < xs.length := (List.getElem?_eq_some_iff.mp he).1
  exact wpAny_mono (wpAny_getItem_list (Q := fun r s' => r = w ∧ s' = s) pl.isList h0 (by omega) (by simpa using ew) ⟨rfl, rfl⟩) (fun r s' e => by obtain ⟨rfl, rfl⟩ := e; exact ⟨z, H, I, rw', q⟩) fun _ _ z => z
theorem rd_augS {to ti te : TE} {tget : V → V → Hp → VK → Prop} {tip : TIp} {tset : TSet} {D : Ends} {σ : L2.St} {H : Hp} (h : to σ H fun o H1 => ti σ H1 fun i H2 => tget o i H2 fun x H3 => te σ H3 fun y H4 => tip x y H4 fun z H5 => tset o i z H5 fun H6 => D.nx σ H6) : tAugS to ti te tget tip tset D σ H := h
/-- d.setdefault(k, v), its reading -/
theorem rd_dsetd {td ty tx : TE} {σ : L2.St} {H : Hp} {Q : VK} (h : td σ H fun x H1 => ∃ a, x = .ref a ∧ IsD H1 a ∧ ty σ H1 fun y H2 => tx σ H2 fun z H3 => ∃ (kvs : List (L2.Key × V)) (k : L2.Key), H3 a = some (.dK kvs) ∧ y = kV k ∧ kvs.length < sizeLine ∧
  (∀ v, valV kvs k = some v → Q v H3) ∧ (valV kvs k = none → Q z (upd H3 a (.dK (putK kvs k z))))) : tDSetd td ty tx σ H Q := h
end AT

set_option Elab.async false
set_option linter.all false
set_option maxRecDepth 100000
set_option maxHeartbeats 4000000
/-! own words, twelfth part: dicts whose keys are truth values; setdefault -/
namespace AT
open PySem PySem.Spec PyProof.Rows L2
/-- a dict whose keys are truth values -/
def dB (P : Program) (w : World) (a : Addr) (kvs : List (Bool × V)) : HO := .ext fun h => kvs.length ≤ sizeLine ∧ (a == sysModules) = false ∧ ∃ vs, KV kvs vs ∧ h.DictOf (PpSet.boolK P w) a vs
section
variable {P : Program} {w : World} {H : Hp} {h : Heap} {a : Addr} {kvs : List (Bool × V)}
theorem dB_ok {vs : List (Bool × Value)} (z : kvs.length ≤ sizeLine) (hd : (a == sysModules) = false) (rel : KV kvs vs) (dd : h.DictOf (PpSet.boolK P w) a vs) : ObjOk P w H h a (dB P w a kvs) := by
  have he : ∃ q, h.get? a = some q := let ⟨q, _, _, hq, _⟩ := dd; ⟨q, hq⟩
  exact ⟨⟨z, hd, vs, rel, dd⟩, he, fun h1 h2 x k => by
    obtain ⟨z, y, vs, r, ob, es, ep, e, c⟩ := x
    exact ⟨z, y, vs, r, ob, es, ep, k _ e, c⟩⟩
theorem dB_rd (ok : HOk P w H h) (e : Rd H a (dB P w a kvs)) : kvs.length ≤ sizeLine ∧ (a == sysModules) = false ∧ ∃ vs, KV kvs vs ∧ h.DictOf (PpSet.boolK P w) a vs :=
  (show ObjOk P w H h a (dB P w a kvs) from rd_of ok e).1
theorem dB_of (ok : HOk P w H h) (e : H a = some (dB P w a kvs)) : kvs.length ≤ sizeLine ∧ (a == sysModules) = false ∧ ∃ vs, KV kvs vs ∧ h.DictOf (PpSet.boolK P w) a vs := dB_rd ok (.inl e)
theorem bl_is {k : Bool} {u : Value} (r : RelV (.bl k) u) : (PpSet.boolK P w).is k u = true := by
  obtain rfl : u = Value.bool k := r
  exact PpSet.boolK_is P w k
end
section
variable {X : Cx} {pins : List (Addr × Obj)} {σ : L2.St} {H : Hp} {s : Shared} {a : Addr} {u r : Value} {d : V} {k : Bool} {A : Around} {E : Value → Shared → Prop}
theorem d_setdB {kvs : List (Bool × V)} {Q : Value → Shared → Prop} (I : Inv X pins σ H s) (e : H a = some (dB X.prog X.w a kvs)) (ry : RelV (.bl k) u) (rd : RelV d r) (hl : kvs.length < sizeLine)
    (h1 : ∀ v, valV kvs k = some v → ∀ (w' : Value) (s' : Shared), Inv X pins σ H s' → RelV v w' → Q w' s') (h2 : valV kvs k = none → ∀ (w' : Value) (s' : Shared), Inv X pins σ (upd H a (dB X.prog X.w a (putK kvs k d))) s' → RelV d w' → Q w' s') :
    wpAny (model X.prog X.w) A (call (.builtin "dict.setdefault") [.ref a, u, r]) Q E s := by
  obtain ⟨z, hd, vs, rel, dd⟩ := dB_of I.hok e
  have hz : vs.length ≤ sizeLine := by
    rw [← rel.length]
    exact z
  refine call_meetsIn PySem.F.slot_dict_setdefault dd.typeIs PySem.F.entry_dict_setdefault (PySem.F.args_dict_setdefault_3 _ _ _) (kt_meets_setdefault (PpSet.boolK X.prog X.w) a (bl_is ry) hd r) ⟨vs, dd, hz, fun v hv => ?_, fun hn h' dd' hs => ?_⟩
  · have q := rel.val k
    rw [hv] at q
    cases q0 : valV kvs k with
    | none =>
      rw [q0] at q
      exact (show False from q).elim
    | some v0 =>
      rw [q0] at q
      exact h1 v0 q0 _ _ (I.tok _) q
  · have q := rel.val k
    rw [hn] at q
    cases q0 : valV kvs k with
    | some v0 =>
      rw [q0] at q
      exact (show False from q).elim
    | none =>
      have hl2 : (putK kvs k d).length ≤ sizeLine := by
        have := length_putK kvs k d
        omega
      have he : ∃ q, h'.get? a = some q := let ⟨q, _, _, hq, _⟩ := dd'; ⟨q, hq⟩
      exact h2 q0 _ _ (d_write (t' := s.toks + 1) I (by rw [e]; exact True.intro) hs he (dB_ok hl2 hd (rel.put k rd) dd')) rd
end
def tDNewB (P : Program) (w : World) : TE := fun _ H Q => ∀ p, H p = none → Q (.ref p) (upd H p (dB P w p []))
def tDSetdB (P : Program) (w : World) (td ty tx : TE) : TE := fun σ H Q => td σ H fun x H1 => (∃ a kvs, x = .ref a ∧ H1 a = some (dB P w a kvs)) ∧ ty σ H1 fun y H2 => tx σ H2 fun z H3 => ∃ (a : Addr) (kvs : List (Bool × V)) (k : Bool), x = .ref a ∧ H3 a = some (dB P w a kvs) ∧ y = .bl k ∧ kvs.length < sizeLine ∧
  (∀ v, valV kvs k = some v → Q v H3) ∧ (valV kvs k = none → Q z (upd H3 a (dB P w a (putK kvs k z))))
def tDGetB (P : Program) (w : World) (td ty : TE) : TE := fun σ H Q => td σ H fun x H1 => ty σ H1 fun y H2 => ∃ (a : Addr) (kvs : List (Bool × V)) (k : Bool) (v : V), x = .ref a ∧ Rd H2 a (dB P w a kvs) ∧ y = .bl k ∧ valV kvs k = some v ∧ Q v H2
section
variable {X : Cx} {o e f i : Expr} {td ty tx : TE} {apos cpos pos : Pos} (P : Program) (w : World) (hP : X.prog = P := by rfl) (hw : X.w = w := by rfl)
include hP hw
theorem pe_dnewB : PE X (.Dict [] [] pos) (tDNewB P w) := by
  subst hP hw
  exact ⟨fun pins s σ H Q I h =>
    wpAny_Dict_empty ⟨.ref s.heap.objs.size, _, I.laid (a := s.heap.objs.size) (o := dB X.prog X.w s.heap.objs.size []) (t' := s.toks) (fun _ _ q => Heap.get?_push_of_some _ q) (Nat.le_refl _)
      (dB_ok (Nat.zero_le _) (beq_eq_false_iff_ne.mpr (Ne.symm (Nat.ne_of_lt I.big))) .nil (Heap.DictOf.new s.heap)), rfl, h _ (I.hok.fresh (Nat.le_refl _))⟩⟩
theorem pe_dsetdB (ho : PE X o td) (he : PE X e ty) (hf : PE X f tx) (m : M2 X o "setdefault" apos e f cpos) : PE X (.Call (.Attribute o "setdefault" apos) [e, f] [] cpos) (tDSetdB P w td ty tx) := by
  subst hP hw
  refine ⟨fun pins s σ H Q I h => ?_⟩
  refine wpAny_Call_method m.base m.few m.line PySem.F.plainAttrs_dict PySem.F.slot_dict_setdefault PySem.F.type_dict_setdefault (thn (ho.run pins s σ H _ I h) fun u s1 ⟨x, H1, I1, rx, ⟨a, kvs0, ex, ea0⟩, q1⟩ => ?_)
  subst ex
  obtain rfl : u = Value.ref a := rx
  obtain ⟨_, _, vs, _, dd⟩ := dB_of I1.hok ea0
  refine ⟨dd.typeIs, dd.mapOf.noDict, ?_⟩
  rw [m.trees]
  refine Calls.callWith_builtin rfl (Calls.evalArgs_plain (Calls.spliced_cons (thn (he.run pins s1 σ H1 _ I1 q1) fun iv s2 ⟨y, H2, I2, ry, q2⟩ =>
    Calls.spliced_cons (thn (hf.run pins s2 σ H2 _ I2 q2) fun fv s3 ⟨z, H3, I3, rz, a', kvs, k, ex2, ea, ey, hl, q3, q4⟩ => Calls.spliced_nil ?_))))
  cases ex2
  subst ey
  exact d_setdB I3 ea ry rz hl (fun v hv w' s4 I4 rw' => ⟨v, _, I4, rw', q3 v hv⟩) fun hn w' s4 I4 rw' => ⟨z, _, I4, rw', q4 hn⟩
theorem pe_dgetB (ho : PE X o td) (hi : PE X i ty) (hs : NoSl i) : PE X (.Subscript o i pos) (tDGetB P w td ty) := by
  subst hP hw
  refine ⟨fun pins s σ H Q I h => ?_⟩
  refine subD_of PySem.F.slot_dict_getitem.lookup hs (thn (ho.run pins s σ H _ I h) fun u s1 ⟨x, H1, I1, rx, q1⟩ => thn (hi.run pins s1 σ H1 _ I1 q1) fun iv s2 ⟨y, H2, I2, ry, a, kvs, k, v, ex, g, ey, hv, q2⟩ => ?_)
  subst ex ey
  obtain rfl : u = Value.ref a := rx
  obtain ⟨z, hd, vs, rel, dd⟩ := dB_rd I2.hok g
  obtain ⟨w', hw, rw'⟩ := RelO.some_of (v := v) (o := valueAt vs k) (by rw [← hv]; exact rel.val k)
  exact ⟨dd.typeIs, wpAny_getItem_of (bl_is ry) dd.mapOf hw ⟨v, H2, I2.tok _, rw', q2⟩⟩
end
/-! the keys of a locked dict -/
section
variable {X : Cx} {pins : List (Addr × Obj)} {σ : L2.St} {H : Hp} {s : Shared} {d : Addr} {o : Obj}
theorem frzB {kvs : List (Bool × V)} (I : Inv X pins σ H s) (h : H d = some (.frz o (dB X.prog X.w d kvs))) :
    (d == sysModules) = false ∧ s.heap.get? d = some o ∧ o.ExactDict ∧ ∃ (es : Array DictEntry) (ep : Nat) (vs : List (Bool × Value)), o.data = .dict es ep ∧ es.size = kvs.length ∧ KV kvs vs ∧ s.heap.DictAt (PpSet.boolK X.prog X.w) d vs ep := by
  obtain ⟨hd, ⟨z, hs, vs, kv, o', es, ep, ho, hx, hdt, r⟩, _⟩ := I.hok d _ h
  rw [hd] at ho
  cases ho
  refine ⟨hs, hd, hx, es, ep, vs, hdt, ?_, kv, o, es, hd, hx, hdt, r⟩
  have l1 := r.2.1.length
  have l2 : kvs.length = vs.length := Paired.length kv
  rw [Array.length_toList] at l1
  omega
end
def Itb (P : Program) (w : World) (d : Addr) (o : Obj) (kvs : List (Bool × V)) : It :=
  ⟨fun i H => H d = some (.frz o (dB P w d kvs)) ∧ i < kvs.length, fun i H x H' => H' = H ∧ ∃ k v, kvs[i]? = some (k, v) ∧ x = .bl k, fun i H => H d = some (.frz o (dB P w d kvs)) ∧ kvs.length ≤ i⟩
theorem kvB_get {kvs : List (Bool × V)} {vs : List (Bool × Value)} (r : KV kvs vs) {i : Nat} {k : Bool} {v : V} (h : kvs[i]? = some (k, v)) : ∃ u, vs[i]? = some (k, u) ∧ RelV v u := by
  unfold KV at r
  induction r generalizing i with
  | nil => simp at h
  | @cons p q ps qs h1 t ih =>
    cases i with
    | zero =>
      simp only [List.getElem?_cons_zero, Option.some.injEq] at h
      subst h
      obtain ⟨h1, h2⟩ := h1
      exact ⟨q.2, by simp only [List.getElem?_cons_zero, Option.some.injEq]; exact Prod.ext h1.symm rfl, h2⟩
    | succ i =>
      simp only [List.getElem?_cons_succ] at h ⊢
      exact ih h
section
variable {P : Program} {w : World} {K : PySem.W.Frag} {tg : Expr} {d : Addr} {o : Obj} {es : Array DictEntry} {ep : Nat}
theorem turn_keysB {kvs : List (Bool × V)} (it : Addr) (hod : o.data = .dict es ep) : Turn P w K tg (Itb P w d o kvs) [it] it (fun i h => h.IsKeyIter it d i kvs.length ep) where
  mem := by simp
  obj := fun i h st b hb => by
    have e : b = it := by simpa using hb
    subst e
    obtain ⟨oi, e, c, dd⟩ := st
    exact ⟨oi, e, fun v z => by rw [dd] at z; cases z⟩
  keep := fun i h h' st k => st.at fun oi e => k it (by simp) oi e
  item := by
    intro X hP hw hK hc i pins s σ H E I hf st hg
    subst hP hw hK
    obtain ⟨hd, hi⟩ := hg
    obtain ⟨f0, f1, f2, f3, f4, f5⟩ := hf it (by simp)
    obtain ⟨hs, hgd, hx, es', ep', vs, hdt, hsz, kv, hm⟩ := frzB I hd
    obtain ⟨rfl, rfl⟩ := dict_ep hod hdt
    obtain ⟨⟨k, v⟩, hkv⟩ : ∃ p, kvs[i]? = some p := ⟨kvs[i], List.getElem?_eq_getElem hi⟩
    obtain ⟨u, hu, ru⟩ := kvB_get kv hkv
    have hl : kvs.length = vs.length := Paired.length kv
    rw [hl] at st
    refine wpAny_pyNext_dict_item st hm hu fun key h' hkey st' sb => ?_
    have I1 : Inv X pins σ H { s with heap := h' } := I.turned (t' := s.toks) (fun b ob hb e => (sb.2 b hb).trans e) f0 f1 f3 f4 f5
    obtain ⟨oi, e, c, dd⟩ := id st'
    refine ⟨key, rfl, go_of (s := { s with heap := h' }) e c dd (by decide) ⟨.bl k, H, I1, PpSet.isB_shape hkey, ⟨rfl, k, v, hkv, rfl⟩, ?_, fun b hb => (hf b hb).1⟩⟩
    show h'.IsKeyIter it d (i + 1) kvs.length _
    rw [hl]
    exact st'
  done := by
    intro X hP hw hK hc i pins s σ H E I hf st hg
    subst hP hw hK
    obtain ⟨hd, hi⟩ := hg
    obtain ⟨f0, f1, f2, f3, f4, f5⟩ := hf it (by simp)
    obtain ⟨hs, hgd, hx, es', ep', vs, hdt, hsz, kv, hm⟩ := frzB I hd
    obtain ⟨rfl, rfl⟩ := dict_ep hod hdt
    exact next_key_end (I.ok.hd hc) st hgd hdt hsz hi fun h' eb => ⟨rfl, I.turned (t' := s.toks) (fun b ob hb e => eb b ob hb e) f0 f1 f3 f4 f5⟩
  self := fun A i s Q E st h => wpAny_pyIter_keyiter st h
end
def iKeysB (P : Program) (w : World) (td : TE) : TI := fun σ H R => td σ H fun x H1 => ∃ d o kvs, x = .ref d ∧ H1 d = some (.frz o (dB P w d kvs)) ∧ R (Itb P w d o kvs) H1
theorem pi_keysB {X : Cx} {tg e : Expr} {td : TE} (P : Program) (w : World) (hP : X.prog = P) (hw : X.w = w) (he : PE X e td) : PI X tg e (iKeysB P w td) := by
  subst hP hw
  refine ⟨fun pins s σ H R I h => ?_⟩
  refine thn (he.run pins s σ H _ I h) fun u s1 ⟨x, H1, I1, rx, d, o, kvs, ex, hd, q⟩ => ?_
  subst ex
  obtain rfl : u = Value.ref d := rx
  obtain ⟨hs, hgd, hx, es, ep, vs, hdt, hsz, kv, hm⟩ := frzB I1 hd
  refine iter_keys hs hgd hx hdt (pi_one (tk := s1.toks) I1 _ (turn_keysB _ hdt) ⟨_, Heap.get?_push_size _ rfl, rfl, ?_⟩ q)
  rw [hsz] <;> rfl
theorem walk_keysB {P : Program} {w : World} {d : Addr} {o : Obj} {kvs : List (Bool × V)} : Walk (Itb P w d o kvs) kvs.length (fun H => H d = some (.frz o (dB P w d kvs))) (fun i H x H' => H' = H ∧ ∃ k v, kvs[i]? = some (k, v) ∧ x = .bl k) :=
  ⟨fun _ _ hi q => ⟨q, hi⟩, fun _ q => ⟨q, Nat.le_refl _⟩, fun _ _ _ _ _ _ y => y⟩
/-! reading -/
section
variable {K : PySem.W.Frag} {σ : L2.St} {H : Hp} {Q : VK} {td ty tx : TE} {P : Program} {w : World}
theorem rd_dsetdB (h : td σ H fun x H1 => (∃ a kvs, x = .ref a ∧ H1 a = some (dB P w a kvs)) ∧ ty σ H1 fun y H2 => tx σ H2 fun z H3 => ∃ (a : Addr) (kvs : List (Bool × V)) (k : Bool), x = .ref a ∧ H3 a = some (dB P w a kvs) ∧ y = .bl k ∧ kvs.length < sizeLine ∧
  (∀ v, valV kvs k = some v → Q v H3) ∧ (valV kvs k = none → Q z (upd H3 a (dB P w a (putK kvs k z))))) : tDSetdB P w td ty tx σ H Q := h
theorem rd_dgetB (h : td σ H fun x H1 => ty σ H1 fun y H2 => ∃ (a : Addr) (kvs : List (Bool × V)) (k : Bool) (v : V), x = .ref a ∧ Rd H2 a (dB P w a kvs) ∧ y = .bl k ∧ valV kvs k = some v ∧ Q v H2) : tDGetB P w td ty σ H Q := h
theorem rd_dnB (h : ∀ p, H p = none → Q (.ref p) (upd H p (dB P w p []))) : tDNewB P w σ H Q := h
end
end AT

set_option Elab.async false
set_option linter.all false
set_option maxRecDepth 100000
set_option maxHeartbeats 4000000
/-! own words, thirteenth part: a tuple, several times or once; sorted ints; list of a dict -/
namespace AT
open PySem PySem.Spec PyProof.Rows L2
theorem tuple_mul1 (l : Addr) (items : Array Value) (n : Nat) (dd : Option Addr) (sl : Array (Option Value)) (u : Tok) (c1 : items.isEmpty = false) :
    Meets (Builtin.«tuple.__mul__» ⟨[.ref l, .int 1 u], []⟩) (fun _ R s => s.heap.get? l = some { cls := .type "tuple", dict := dd, data := .seq items n, slots := sl } ∧ R (.ok (.ret (Value.ref l))) s) :=
  .of_wp fun prog w A R s h => by
    obtain ⟨hp, g, d, tk, os⟩ := s
    obtain ⟨hl, h⟩ := h
    have f1 := AutoSeq1.idx_int
    have c0 : (decide ((1 : Int) < -(2 ^ 63)) || decide ((1 : Int) ≥ 2 ^ 63)) = false := by decide
    have c2 : (items.isEmpty || (1 : Int) == 1) = true := by rw [c1]; rfl
    wp_walk using wpAny_loadPart' hl
    exact ⟨_, rfl, h⟩
/-- a tuple, once -/
def rRepT1 (K : PySem.W.Frag) : R2 := fun x y H Q => ∃ l xs, x = .ref l ∧ y = .int 1 ∧ SqT K H l xs ∧ xs ≠ [] ∧ Q (.ref l) H
section
variable {X : Cx}
theorem op_repT1 : OpR X (binaryOp .Mult) (rRepT1 X.K) := by
  intro pins s σ H x y v u Q I rx ry h
  obtain ⟨l, xs, rfl, rfl, hT, hne, q⟩ := h
  cases rx
  obtain ⟨t, rfl⟩ := ry
  obtain ⟨its, r, ⟨⟨cls, dd, data, sl⟩, ho, hc, n, hd⟩, hs⟩ := I.tuple hT
  simp only at hc hd
  subst hc hd
  have hle : its.length = xs.length := r.length.symm
  have hn : its ≠ [] := fun e => hne (by
    rw [e] at hle
    exact List.eq_nil_of_length_eq_zero hle.symm)
  have hi : its.toArray.isEmpty = false := by
    cases its with
    | nil => exact absurd rfl hn
    | cons a b => rfl
  refine wpAny_binaryOp_repeat_ref (T := "tuple") (U := "int") (by decide) ⟨_, ho, rfl⟩ (fun s' => typeIs_int s' 1 t) noFill_tuple_mul F.fills_int_mul F.slot_int_rmul repeat_tuple F.slot_int_index.lookup
    (call_meets F.slot_int_rmul (typeIs_int s 1 t) F.entry_int_rmul (F.args_int_rmul_2 _ _) (int_rmul_tuple 1 t l its.toArray n dd sl)
      ⟨ho, rfl, ⟨_, ho, rfl⟩, call_meets F.slot_tuple_mul ⟨_, ho, rfl⟩ F.entry_tuple_mul (F.args_tuple_mul_2 _ _) (tuple_mul1 l its.toArray n dd sl t hi) ⟨ho, ?_⟩⟩)
  exact ⟨.ref l, H, I, rfl, q⟩
end
/-- a tuple, several times or once -/
def oMulT (K : PySem.W.Frag) : R2 := fun x y H Q => rRepT K x y H Q ∨ rRepT1 K x y H Q
section
variable {X : Cx} (K : PySem.W.Frag) (hK : X.K = K := by rfl)
include hK
theorem kMulT : OpR X (binaryOp .Mult) (oMulT K) := hK ▸ OpR.or op_repT op_repT1
theorem kIndex : MtR X "list.index" (rIndex K) := hK ▸ mt_index
theorem kIsi : CallR X (.builtin "isinstance") (rIsi K) := hK ▸ call_isi
theorem kSortI : CallR X (.builtin "sorted") (rSortedI K) := hK ▸ cr_sortedI
end
section
variable {K : PySem.W.Frag} {H : Hp} {Q : VK}
theorem rd_isiL {a : Addr} {xs : List V} (h : H a = some (.lst xs)) (q : Q (.bl true) H) : rIsi K [.ref a, .ty "list"] H Q := ⟨_, _, _, _, true, rfl, .ty _, .base (.lst h), kit_ty (by decide +kernel), q⟩
theorem rd_lidx {a : Addr} {l : List Nat} {x : Nat} (h : SqL K H a (l.map fun n : Nat => V.int (n : Int))) (hx : x ∈ l) (q : Q (.int ((l.idxOf x : Nat) : Int)) H) : rIndex K (.ref a) [.int (x : Int)] H Q := by
  have hlt := List.idxOf_lt_length_iff.mpr hx
  have hg : l[l.idxOf x]? = some x := by rw [List.getElem?_eq_getElem hlt, List.getElem_idxOf hlt]
  refine ⟨a, _, .int (x : Int), l.idxOf x, .int (x : Int), rfl, rfl, h, rfl, List.all_eq_true.mpr fun y hy => ?_, by rw [List.getElem?_map, hg]; rfl, beq_self_eq_true _, fun m z' hm hz => ?_, q⟩
  · obtain ⟨n, _, rfl⟩ := List.mem_map.mp hy
    rfl
  · rw [List.getElem?_map] at hz
    obtain ⟨n, hn, rfl⟩ := Option.map_eq_some_iff.mp hz
    show (((n : Nat) : Int) == ((x : Nat) : Int)) = false
    refine beq_eq_false_iff_ne.mpr fun e => ?_
    have e : n = x := by omega
    have := List.not_of_lt_findIdx (p := (· == x)) (xs := l) hm
    obtain ⟨h1, h2⟩ := List.getElem?_eq_some_iff.mp hn
    rw [h2, e] at this
    simp at this
/-- (v,) * k -/
theorem rd_tupk {l : Addr} {v : V} {k : Nat} (h : H l = some (.tup [v])) (k0 : 0 < k) (k1 : k ≤ 1000) (q : ∀ p H', Ex H H' → H' p = some (.tup (List.replicate k v)) → (H p = none ∨ p = l) → Q (.ref p) H') : oMulT K (.ref l) (.int (k : Int)) H Q := by
  rcases Nat.lt_or_ge 1 k with z | z
  · refine .inl ⟨l, (k : Int), [v], rfl, rfl, Evl.st_of h, (fun z => nomatch z), by omega, by omega, by show 1 ≤ 1000; decide, fun p hp => ?_⟩
    have e : (List.replicate ((k : Int)).toNat [v]).flatten = List.replicate k v := by
      rw [Int.toNat_natCast, List.flatten_replicate_singleton]
    rw [e]
    exact q p _ (Evl.Ex.new hp) upd_same (.inl hp)
  · obtain rfl : k = 1 := by omega
    exact .inr ⟨l, [v], rfl, rfl, Evl.st_of h, (fun z => nomatch z), q l H (Evl.Ex.refl H) h (.inr rfl)⟩
theorem rd_catT {l m : Addr} {xs : List V} {v : V} (h1 : H l = some (.tup xs)) (h2 : H m = some (.tup [v])) (hx : xs ≠ []) (c : xs.length + 1 ≤ sizeLine) (h : ∀ p, H p = none → Q (.ref p) (upd H p (.tup (xs ++ [v])))) : oAdd K (.ref l) (.ref m) H Q :=
  .inr (.inr (.inr ⟨l, m, xs, [v], rfl, rfl, Evl.st_of h1, Evl.st_of h2, hx, c, fun z => (nomatch z), fun _ => h⟩))
end
end AT

set_option Elab.async false
set_option linter.all false
set_option maxRecDepth 100000
set_option maxHeartbeats 4000000
/-! own words, fourteenth part: dicts whose keys are tuples that may hold tuples -/
namespace AT
open PySem PySem.Spec PyProof.Rows L2
mutual
/-- v is this key, by what is tracked -/
inductive NV : Hp → NestedKey → V → Prop
  | non {H : Hp} : NV H .none .non
  | int {H : Hp} (i : Int) : NV H (.num i) (.int i)
  | str {H : Hp} (x : Str) : NV H (.text x) (.str x)
  | tup {H : Hp} {b : Addr} {vs : List V} {ks : List NestedKey} : H b = some (.tup vs) → NVs H ks vs → NV H (.tup ks) (.ref b)
inductive NVs : Hp → List NestedKey → List V → Prop
  | nil {H : Hp} : NVs H [] []
  | cons {H : Hp} {k : NestedKey} {v : V} {ks : List NestedKey} {vs : List V} : NV H k v → NVs H ks vs → NVs H (k :: ks) (v :: vs)
end
mutual
theorem NV.ex {H H' : Hp} (e : ∀ b xs, H b = some (.tup xs) → H' b = some (.tup xs)) {k : NestedKey} {v : V} : NV H k v → NV H' k v
  | .non => .non
  | .int i => .int i
  | .str x => .str x
  | .tup h r => .tup (e _ _ h) (NVs.ex e r)
theorem NVs.ex {H H' : Hp} (e : ∀ b xs, H b = some (.tup xs) → H' b = some (.tup xs)) {ks : List NestedKey} {vs : List V} : NVs H ks vs → NVs H' ks vs
  | .nil => .nil
  | .cons h r => .cons (NV.ex e h) (NVs.ex e r)
end
mutual
theorem NV.is {P : Program} {w : World} {H : Hp} {h : Heap} (ok : HOk P w H h) {k : NestedKey} {v : V} {u : Value} : NV H k v → RelV v u → NestedIs h k u
  | .non, r => by
    obtain rfl : u = Value.none := r
    exact .none
  | .int i, r => by
    obtain ⟨t, rfl⟩ : ∃ t, u = Value.int i t := r
    exact .int i t
  | .str x, r => by
    obtain ⟨t, rfl⟩ : ∃ t, u = Value.str x t := r
    exact .text x t
  | .tup (b := b) (vs := vs) hb q, r => by
    obtain rfl : u = Value.ref b := r
    obtain ⟨_, its, rel, o, h1, h2, n, h3⟩ := (show ObjOk P w H h b (.tup vs) from ok b _ hb)
    exact .tup h1 h2 h3 (by rw [List.toList_toArray]; exact NVs.is ok q rel)
theorem NVs.is {P : Program} {w : World} {H : Hp} {h : Heap} (ok : HOk P w H h) {ks : List NestedKey} {vs : List V} {us : List Value} : NVs H ks vs → Vals vs us → NestedAll h ks us
  | .nil, r => by
    cases r
    exact .nil
  | .cons q qs, r => by
    cases r with
    | cons r1 r2 => exact .cons (NV.is ok q r1) (NVs.is ok qs r2)
end
section
variable {X : Cx}
theorem PC.or {op : CmpOp} {a b : Expr} {t t' : TE} (h : PC X op a b t) (h' : PC X op a b t') : PC X op a b fun σ H Q => t σ H Q ∨ t' σ H Q :=
  ⟨fun pins s σ H Q I q => q.elim (h.run pins s σ H Q I) (h'.run pins s σ H Q I)⟩
theorem PS.or {st : Stmt} {t t' : TS} (h : PS X st t) (h' : PS X st t') : PS X st fun D σ H => t D σ H ∨ t' D σ H :=
  ⟨fun pins s σ H D I q => q.elim (h.run pins s σ H D I) (h'.run pins s σ H D I)⟩
end
end AT

set_option Elab.async false
set_option linter.all false
set_option maxRecDepth 100000
set_option maxHeartbeats 4000000
/-! own words, fifteenth part: dicts whose keys are None, numbers and tuples together -/
namespace AT
open PySem PySem.Spec PyProof.Rows L2
abbrev KVV := List (NestedKey × Value × Value)
def entV (w : World) (x : NestedKey × Value × Value) : DictEntry := { hash := NestedKey.hash w x.1, key := x.2.1, val := x.2.2 }
/-- no text: the finding of texts goes another way -/
def NoStr (v : Value) : Prop := ∀ x t, v ≠ .str x t
structure KeyVl (h : Heap) (k : NestedKey) (v : Value) : Prop where
  is : NestedIs h k v
  d : k.depth ≤ 8
  n : NoStr v
def DictV (w : World) (h : Heap) (d : Addr) (xs : KVV) : Prop := ∃ o es ep, h.get? d = some o ∧ o.ExactDict ∧ o.data = .dict es ep ∧ es.toList = xs.map (entV w) ∧ (xs.map (·.1)).Nodup
section
variable {P : Program} {w : World} {A : Around} {E : Value → Shared → Prop} {s : Shared}
theorem entV_at {es : Array DictEntry} {xs : KVV} (he : es.toList = xs.map (entV w)) (j : Nat) : es[j]? = xs[j]?.map (entV w) := by
  rw [← Array.getElem?_toList, he, List.getElem?_map]
theorem idV_unique {xs : KVV} (hn : (xs.map (·.1)).Nodup) {i j : Nat} {k : NestedKey} {p q : Value × Value} (hi : xs[i]? = some (k, p)) (hj : xs[j]? = some (k, q)) : i = j := by
  have l1 := (List.getElem?_eq_some_iff.mp hi).1
  refine (List.getElem?_inj (l := xs.map (·.1)) (by rw [List.length_map]; exact l1) hn).mp ?_
  rw [List.getElem?_map, List.getElem?_map, hi, hj]
  rfl
theorem eqV {x y : NestedKey} {a b : Value} {Q : Bool → Shared → Prop} (hx : KeyVl s.heap x a) (hy : KeyVl s.heap y b) (hu : A.units + 8 < cLine) (q : Q (decide (x = y)) s) : wpAny (model P w) A (eqBool a b) Q E s := by
  have h1 := hx.d
  have h2 := hy.d
  exact eqAt_key x y A s _ _ hx.is hy.is (by omega) _ _ _ _ (by rw [← NestedKey.decide_eq]; exact q)
theorem tellV {k : NestedKey} {key : Value} {stored : List Value} {Q : Bool → Shared → Prop} (hk : KeyVl s.heap k key) (hst : ∀ v ∈ stored, ∃ k', KeyVl s.heap k' v) (q : Q false s) : wpAny (model P w) A (tableMayTell key stored) Q E s := by
  unfold tableMayTell
  split
  · exact wpAny_pure q
  · refine wpAny_bind (quiet_key k key 8 s hk.is hk.d A E _ ?_)
    simp only [Bool.not_true, Bool.false_eq_true, if_false]
    refine wpAny_bind ?_
    refine wpAny_forIn_list _ (fun rest r s' => s' = s ∧ r = (none, ()) ∧ ∀ v ∈ rest, ∃ k', KeyVl s.heap k' v) _ ?_ ?_ _ _ ⟨rfl, rfl, hst⟩
    · rintro x rest r s' ⟨rfl, rfl, hr⟩
      obtain ⟨k', hb⟩ := hr x List.mem_cons_self
      refine wpAny_bind (quiet_key k' x 8 s' hb.is hb.d A E _ ?_)
      simp only [Bool.not_true, Bool.false_eq_true, if_false]
      exact wpAny_pure ⟨rfl, rfl, fun v hv => hr v (List.mem_cons_of_mem _ hv)⟩
    · rintro r s' ⟨rfl, rfl, _⟩
      exact wpAny_pure q
/-- found so far -/
def FndV (xs : KVV) (k : NestedKey) (i : Nat) (hit : Option Nat) : Prop := (hit = none ∧ ∀ (j : Nat) p, j < i → xs[j]? ≠ some (k, p)) ∨ ∃ (j : Nat) (p : Value × Value), hit = some j ∧ j < i ∧ xs[j]? = some (k, p)
section
variable {d : Addr} {o : Obj} {es : Array DictEntry} {ep : Nat} {xs : KVV} {k : NestedKey} {key : Value} {Q : Option Nat → Shared → Prop}
abbrev plV (w : World) (es : Array DictEntry) (k : NestedKey) (i : Nat) : List Nat := (List.range' i (es.size - i)).filter fun i => (es[i]?.map (·.hash)) == some (NestedKey.hash w k)
theorem hasV (he : es.toList = xs.map (entV w)) {j : Nat} {p : Value × Value} (hj : xs[j]? = some (k, p)) : ((es[j]?.map (·.hash)) == some (NestedKey.hash w k)) = true := by
  rw [entV_at he j, hj]
  simp [entV]
/-- the next place of this hash -/
theorem nextV (he : es.toList = xs.map (entV w)) {i x : Nat} {rest : List Nat} {hit : Option Nat} (hr : x :: rest = plV w es k i) (hi : i ≤ es.size) (F : FndV xs k i hit) :
    x < es.size ∧ rest = plV w es k (x + 1) ∧ FndV xs k x hit ∧ ∃ k' u v, xs[x]? = some (k', u, v) ∧ es[x]? = some ⟨NestedKey.hash w k', u, v⟩ ∧ (k' ≠ k → FndV xs k (x + 1) hit) := by
  obtain ⟨hix, hxn, hpx, hskip, hrest⟩ := filter_range'_cons _ _ _ _ _ hr.symm
  have hlt : x < es.size := by omega
  have hsz : es.size = xs.length := by rw [← Array.length_toList, he, List.length_map]
  obtain ⟨⟨k', u, v⟩, hkv⟩ : ∃ y, xs[x]? = some y := ⟨xs[x]'(by rw [← hsz]; exact hlt), List.getElem?_eq_getElem _⟩
  have Fx : FndV xs k x hit := by
    rcases F with ⟨h0, hno⟩ | ⟨j, p, h1, hji, hj⟩
    · refine .inl ⟨h0, fun j p hjx hj => ?_⟩
      rcases Nat.lt_or_ge j i with h | h
      · exact hno j p h hj
      · have := hskip j h hjx
        rw [hasV he hj] at this
        cases this
    · exact .inr ⟨j, p, h1, by omega, hj⟩
  refine ⟨hlt, by rw [hrest]; show _ = List.filter _ _; congr 2; omega, Fx, k', u, v, hkv, by rw [entV_at he x, hkv]; rfl, fun ne => ?_⟩
  rcases Fx with ⟨h0, hno⟩ | ⟨j, p, h1, hjx, hj⟩
  · refine .inl ⟨h0, fun j p hjx hj => ?_⟩
    rcases Nat.lt_or_ge j x with h | h
    · exact hno j p h hj
    · obtain rfl : j = x := by omega
      rw [hkv] at hj
      exact ne (congrArg (fun z : NestedKey × Value × Value => z.1) (Option.some.inj hj))
  · exact .inr ⟨j, p, h1, by omega, hj⟩
theorem doneV (he : es.toList = xs.map (entV w)) {i : Nat} {hit : Option Nat} (hr : [] = plV w es k i) (F : FndV xs k i hit)
    (hnone : (∀ (j : Nat) p, xs[j]? ≠ some (k, p)) → Q none s) (hsome : ∀ (j : Nat) p, xs[j]? = some (k, p) → Q (some j) s) : Q hit s := by
  have hsz : es.size = xs.length := by rw [← Array.length_toList, he, List.length_map]
  rcases F with ⟨rfl, hno⟩ | ⟨j, p, rfl, _, hj⟩
  · refine hnone fun j p hj => ?_
    rcases Nat.lt_or_ge j i with h | h
    · exact hno j p h hj
    · have hl := (List.getElem?_eq_some_iff.mp hj).1
      have := List.filter_eq_nil_iff.mp hr.symm j (List.mem_range'_1.mpr ⟨h, by omega⟩)
      exact this (hasV he hj)
  · exact hsome j p hj
theorem walkV (hu : A.units + 8 < cLine) (hkey : KeyVl s.heap k key) (ho : s.heap.get? d = some o) (hd : o.data = .dict es ep) (he : es.toList = xs.map (entV w)) (his : ∀ x ∈ xs, KeyVl s.heap x.1 x.2.1) (hn : (xs.map (·.1)).Nodup)
    (hnone : (∀ (j : Nat) p, xs[j]? ≠ some (k, p)) → Q none s) (hsome : ∀ (j : Nat) p, xs[j]? = some (k, p) → Q (some j) s) :
    wpAny (model P w) A (dictWalkPlain d key (NestedKey.hash w k) es (placesWithHash es.size (fun i => es[i]?.map (·.hash)) (NestedKey.hash w k))) Q E s := by
  unfold dictWalkPlain
  refine wpAny_bind ?_
  refine wpAny_forIn_list _ (fun rest b s' => s' = s ∧ b = (none, ()) ∧ ∃ i, rest = plV w es k i ∧ i ≤ es.size ∧ FndV xs k i none) _ ?_ ?_ _ _
    ⟨rfl, rfl, 0, by rw [placesWithHash, List.range_eq_range', plV, Nat.sub_zero], Nat.zero_le _, .inl ⟨rfl, fun _ _ h => absurd h (Nat.not_lt_zero _)⟩⟩
  · rintro x rest b s' ⟨rfl, rfl, i, hr, hi, F⟩
    obtain ⟨hlt, hrest, Fx, k', u, v, hkv, hex, hstay⟩ := nextV he hr hi F
    have hib := his _ (List.mem_of_getElem? hkv)
    rw [hex]
    dsimp only
    by_cases hh : (NestedKey.hash w k' == NestedKey.hash w k) = true
    · rw [if_pos hh]
      refine wpAny_bind (wpAny_dictEpoch ho hd (wpAny_bind (eqV (x := k') (y := k) hib hkey hu (wpAny_bind (wpAny_dictEpoch ho hd ?_)))))
      show wpAny _ _ (if (ep != ep) = true then _ else _) _ E _
      rw [if_neg (by simp)]
      by_cases hkk : k' = k
      · rw [decide_eq_true hkk]
        subst hkk
        show wpAny _ _ (if true = true then _ else _) _ E _
        rw [if_pos rfl]
        exact wpAny_bind (wpAny_rule (wpAny_pure (wpAny_pure (hsome x _ hkv))))
      · rw [decide_eq_false hkk]
        show wpAny _ _ (if false = true then _ else _) _ E _
        rw [if_neg (by decide)]
        exact wpAny_bind (wpAny_rule (wpAny_pure ⟨rfl, rfl, x + 1, hrest, hlt, hstay hkk⟩))
    · rw [if_neg hh]
      refine wpAny_pure ⟨rfl, rfl, x + 1, hrest, hlt, hstay fun e => ?_⟩
      rw [e] at hh; simp at hh
  · rintro b s' ⟨rfl, rfl, i, hr, hi, F⟩
    exact wpAny_pure (doneV he hr F hnone hsome)
theorem wpIte {α : Type} {M : Model} {c : Prop} [Decidable c] {a b : Sem α} {Q : α → Shared → Prop} (h1 : c → wpAny M A a Q E s) (h2 : ¬ c → wpAny M A b Q E s) : wpAny M A (if c then a else b) Q E s := by
  by_cases h : c
  · rw [if_pos h]; exact h1 h
  · rw [if_neg h]; exact h2 h
theorem findV (hu : A.units + 8 < cLine) (hkey : KeyVl s.heap k key) (ho : s.heap.get? d = some o) (hd : o.data = .dict es ep) (he : es.toList = xs.map (entV w)) (his : ∀ x ∈ xs, KeyVl s.heap x.1 x.2.1) (hn : (xs.map (·.1)).Nodup)
    (hnone : (∀ (j : Nat) p, xs[j]? ≠ some (k, p)) → Q none s) (hsome : ∀ (j : Nat) p, xs[j]? = some (k, p) → Q (some j) s) :
    wpAny (model P w) A (dictFind d key (NestedKey.hash w k)) Q E s := by
  have hmem : ∀ e ∈ es, ∃ x ∈ xs, e = entV w x := by
    intro e hin
    have : e ∈ xs.map (entV w) := he ▸ Array.mem_toList_iff.mpr hin
    obtain ⟨x, hx, rfl⟩ := List.mem_map.mp this
    exact ⟨x, hx, rfl⟩
  have hany : ∀ a, key = .ref a → ¬ (es.any fun e => e.key == Value.ref a && e.hash != NestedKey.hash w k) = true := by
    rintro a rfl
    rw [← Array.any_toList, List.any_eq_true]
    rintro ⟨e, hin, hc⟩
    obtain ⟨x, hx, rfl⟩ := hmem e (Array.mem_toList_iff.mp hin)
    simp only [entV, Bool.and_eq_true, beq_iff_eq, bne_iff_ne, ne_eq] at hc
    obtain ⟨hxa, hne⟩ := hc
    have := (his x hx).is
    rw [hxa] at this
    exact hne (by rw [NestedIs.inj _ _ _ this hkey.is])
  have hst : ∀ v ∈ (placesWithHash es.size (fun i => es[i]?.map (·.hash)) (NestedKey.hash w k)).filterMap (fun i => es[i]?.map (·.key)), ∃ k', KeyVl s.heap k' v := by
    intro v hv
    obtain ⟨i, _, hi⟩ := List.mem_filterMap.mp hv
    cases hei : es[i]? with
    | none => rw [hei] at hi; cases hi
    | some e =>
      rw [hei] at hi
      obtain rfl : e.key = v := by simpa using hi
      obtain ⟨x, hx, rfl⟩ := hmem e (Array.mem_of_getElem? hei)
      exact ⟨x.1, his x hx⟩
  have hW := walkV (P := P) (E := E) (Q := Q) hu hkey ho hd he his hn hnone hsome
  by_cases hr : ∃ a, key = .ref a
  · obtain ⟨a, rfl⟩ := hr
    unfold dictFind
    try with_reducible refine wpAny_holding ?_
    refine wpAny_bind (wpAny_dictEntries ho hd ?_)
    dsimp only
    rw [if_neg (show ¬ ((Value.ref a :: (placesWithHash es.size (fun i => es[i]?.map (·.hash)) (NestedKey.hash w k)).filterMap (fun i => es[i]?.map (·.key))).all carriedByValue) = true by simp [carriedByValue])]
    rw [if_neg (hany a rfl)]
    clear hW
    by_cases hone : (((placesWithHash es.size (fun i => es[i]?.map (·.hash)) (NestedKey.hash w k)).filterMap (fun i => es[i]?.map (·.key))) == [Value.ref a]) = true <;>
    (first | rw [if_pos hone] | rw [if_neg hone]) <;> (first | refine wpAny_bind (wpAny_pure ?_) | refine wpAny_bind (tellV hkey hst ?_)) <;> (
    rw [if_neg (by simp)]
    refine wpAny_bind ?_
    refine wpAny_forIn_list _ (fun rest b s' => s' = s ∧ ∃ i hit, b = (none, hit) ∧ rest = plV w es k i ∧ i ≤ es.size ∧ FndV xs k i hit) _ ?_ ?_ _ _
      ⟨rfl, 0, none, rfl, by rw [placesWithHash, List.range_eq_range', plV, Nat.sub_zero], Nat.zero_le _, .inl ⟨rfl, fun _ _ h => absurd h (Nat.not_lt_zero _)⟩⟩
    · rintro x rest b s' ⟨rfl, i, hit, rfl, hr, hi, F⟩
      obtain ⟨hlt, hrest, Fx, k', u, v, hkv, hex, hstay⟩ := nextV he hr hi F
      have hib := his _ (List.mem_of_getElem? hkv)
      rw [hex]
      dsimp only
      by_cases hh : (NestedKey.hash w k' == NestedKey.hash w k) = true
      · rw [if_pos hh]
        refine wpAny_bind (wpAny_dictEpoch ho hd (wpAny_bind (eqV (x := k') (y := k) hib hkey hu (wpAny_bind (wpAny_dictEpoch ho hd ?_)))))
        show wpAny _ _ (if (ep != ep) = true then _ else _) _ E _
        rw [if_neg (by simp)]
        by_cases hkk : k' = k
        · rw [decide_eq_true hkk]
          subst hkk
          rcases Fx with ⟨rfl, _⟩ | ⟨j, p, _, hjx, hj⟩
          · first | rw [if_pos rfl] | skip
            simp only [Option.isSome_none, Bool.false_eq_true, if_false]
            first | refine wpAny_bind (wpAny_pure ?_) | skip
            refine wpAny_bind (wpAny_rule ?_)
            split
            · exact wpAny_pure (wpAny_pure (hsome x _ hkv))
            · exact wpAny_pure ⟨rfl, x + 1, some x, rfl, hrest, hlt, .inr ⟨x, _, rfl, Nat.lt_succ_self x, hkv⟩⟩
          · exact absurd (idV_unique hn hj hkv) (by omega)
        · rw [decide_eq_false hkk]
          simp only [Bool.false_eq_true, if_false]
          refine wpAny_bind (wpAny_rule ?_)
          first | rw [if_neg (by simp)] | skip
          first
            | exact wpAny_pure ⟨rfl, x + 1, hit, rfl, hrest, hlt, hstay hkk⟩
            | exact wpAny_bind (wpAny_pure (wpAny_pure ⟨rfl, x + 1, hit, rfl, hrest, hlt, hstay hkk⟩))
      · rw [if_neg hh]
        refine wpAny_pure ⟨rfl, x + 1, hit, rfl, hrest, hlt, hstay fun e => ?_⟩
        rw [e] at hh; simp at hh
    · rintro b s' ⟨rfl, i, hit, rfl, hr, hi, F⟩
      exact wpAny_pure (doneV he hr F hnone hsome))
  · by_cases hall : ((key :: (placesWithHash es.size (fun i => es[i]?.map (·.hash)) (NestedKey.hash w k)).filterMap (fun i => es[i]?.map (·.key))).all carriedByValue) = true
    · unfold dictFind
      try with_reducible refine wpAny_holding ?_
      refine wpAny_bind (wpAny_dictEntries ho hd ?_)
      cases key with
      | str x t => exact absurd rfl (hkey.n x t)
      | ref a => exact absurd ⟨a, rfl⟩ hr
      | _ =>
        dsimp only
        rw [if_pos hall]
        exact hW
    · clear hW
      unfold dictFind
      try with_reducible refine wpAny_holding ?_
      refine wpAny_bind (wpAny_dictEntries ho hd ?_)
      cases key with
      | str x t => exact absurd rfl (hkey.n x t)
      | ref a => exact absurd ⟨a, rfl⟩ hr
      | _ =>
        dsimp only
        rw [if_neg hall]
        refine wpIte (fun _ => wpAny_bind (wpAny_pure ?_)) (fun _ => wpAny_bind (tellV hkey hst ?_)) <;> (
    rw [if_neg (by simp)]
    refine wpAny_bind ?_
    refine wpAny_forIn_list _ (fun rest b s' => s' = s ∧ ∃ i hit, b = (none, hit) ∧ rest = plV w es k i ∧ i ≤ es.size ∧ FndV xs k i hit) _ ?_ ?_ _ _
      ⟨rfl, 0, none, rfl, by rw [placesWithHash, List.range_eq_range', plV, Nat.sub_zero], Nat.zero_le _, .inl ⟨rfl, fun _ _ h => absurd h (Nat.not_lt_zero _)⟩⟩
    · rintro x rest b s' ⟨rfl, i, hit, rfl, hr, hi, F⟩
      obtain ⟨hlt, hrest, Fx, k', u, v, hkv, hex, hstay⟩ := nextV he hr hi F
      have hib := his _ (List.mem_of_getElem? hkv)
      rw [hex]
      dsimp only
      by_cases hh : (NestedKey.hash w k' == NestedKey.hash w k) = true
      · rw [if_pos hh]
        refine wpAny_bind (wpAny_dictEpoch ho hd (wpAny_bind (eqV (x := k') (y := k) hib hkey hu (wpAny_bind (wpAny_dictEpoch ho hd ?_)))))
        show wpAny _ _ (if (ep != ep) = true then _ else _) _ E _
        rw [if_neg (by simp)]
        by_cases hkk : k' = k
        · rw [decide_eq_true hkk]
          subst hkk
          rcases Fx with ⟨rfl, _⟩ | ⟨j, p, _, hjx, hj⟩
          · first | rw [if_pos rfl] | skip
            simp only [Option.isSome_none, Bool.false_eq_true, if_false]
            first | refine wpAny_bind (wpAny_pure ?_) | skip
            refine wpAny_bind (wpAny_rule ?_)
            split
            · exact wpAny_pure (wpAny_pure (hsome x _ hkv))
            · exact wpAny_pure ⟨rfl, x + 1, some x, rfl, hrest, hlt, .inr ⟨x, _, rfl, Nat.lt_succ_self x, hkv⟩⟩
          · exact absurd (idV_unique hn hj hkv) (by omega)
        · rw [decide_eq_false hkk]
          simp only [Bool.false_eq_true, if_false]
          refine wpAny_bind (wpAny_rule ?_)
          first | rw [if_neg (by simp)] | skip
          first
            | exact wpAny_pure ⟨rfl, x + 1, hit, rfl, hrest, hlt, hstay hkk⟩
            | exact wpAny_bind (wpAny_pure (wpAny_pure ⟨rfl, x + 1, hit, rfl, hrest, hlt, hstay hkk⟩))
      · rw [if_neg hh]
        refine wpAny_pure ⟨rfl, x + 1, hit, rfl, hrest, hlt, hstay fun e => ?_⟩
        rw [e] at hh; simp at hh
    · rintro b s' ⟨rfl, i, hit, rfl, hr, hi, F⟩
      exact wpAny_pure (doneV he hr F hnone hsome))
end
end
section
variable {P : Program} {w : World} {A : Around} {E : Value → Shared → Prop} {s : Shared} {d : Addr} {xs : KVV} {k : NestedKey} {key : Value}
def atV (xs : KVV) (k : NestedKey) : Option (Value × Value) := (xs.find? fun x => decide (x.1 = k)).map (·.2)
theorem atV_none (h : ∀ (j : Nat) p, xs[j]? ≠ some (k, p)) : atV xs k = none := by
  have : (xs.find? fun x => decide (x.1 = k)) = none := by
    rw [List.find?_eq_none]
    intro x hx hk
    obtain ⟨j, hj⟩ := List.mem_iff_getElem?.mp hx
    exact h j x.2 (by rw [hj, ← of_decide_eq_true hk])
  rw [atV, this]; rfl
theorem atV_some (hn : (xs.map (·.1)).Nodup) {j : Nat} {p : Value × Value} (h : xs[j]? = some (k, p)) : atV xs k = some p := by
  obtain ⟨x, hx⟩ : ∃ x, (xs.find? fun x => decide (x.1 = k)) = some x := by
    cases e : xs.find? fun x => decide (x.1 = k) with
    | some x => exact ⟨x, rfl⟩
    | none => exact absurd (decide_eq_true rfl) (List.find?_eq_none.mp e _ (List.mem_of_getElem? h))
  have h0 := List.find?_some hx
  have h1 : x.1 = k := of_decide_eq_true h0
  obtain ⟨i, hi⟩ := List.mem_iff_getElem?.mp (List.mem_of_find?_eq_some hx)
  obtain ⟨x1, x2⟩ := x
  obtain rfl : x1 = k := h1
  have e := idV_unique hn hi h
  rw [e, h] at hi
  rw [atV, hx]
  exact congrArg (fun z : NestedKey × Value × Value => some z.2) (Option.some.inj hi).symm
theorem atV_out (h : atV xs k = none) : ∀ (j : Nat) p, xs[j]? ≠ some (k, p) := fun j p hj => by
  have h' : (xs.find? fun x => decide (x.1 = k)) = none := by
    cases e : xs.find? fun x => decide (x.1 = k) with
    | none => rfl
    | some x => rw [atV, e] at h; cases h
  exact List.find?_eq_none.mp h' _ (List.mem_of_getElem? hj) (decide_eq_true rfl)
theorem DictV.typeIs (hm : DictV w s.heap d xs) : s.TypeIs (.ref d) "dict" := let ⟨o, _, _, ho, hc, _⟩ := hm; ⟨o, ho, hc.1⟩
theorem getV_ {Q : Option Value → Shared → Prop} (hu : A.units + 8 < cLine) (hkey : KeyVl s.heap k key) (hm : DictV w s.heap d xs) (his : ∀ x ∈ xs, KeyVl s.heap x.1 x.2.1)
    (h : Q ((atV xs k).map (·.2)) { s with toks := s.toks + k.draws }) : wpAny (model P w) A (dictGet d key) Q E s := by
  obtain ⟨o, es, ep, ho, _, hd, he, hn⟩ := hm
  have hdp := hkey.d
  unfold dictGet
  try with_reducible refine wpAny_holding ?_
  refine wpAny_bind (pyHash_key k key A s _ hkey.is (by omega) (wpAny_bind (findV (s := { s with toks := s.toks + k.draws }) hu hkey ho hd he his hn ?_ ?_)))
  · intro hno
    rw [atV_none hno] at h
    exact wpAny_pure h
  · intro j p hj
    rw [atV_some hn hj] at h
    refine wpAny_bind (wpAny_dictEntries (s := { s with toks := s.toks + k.draws }) ho hd ?_)
    rw [entV_at he j, hj]
    exact wpAny_pure h
/-- d[k] = v, k new -/
theorem setV_ {v : Value} {Q : Unit → Shared → Prop} (hu : A.units + 8 < cLine) (hkey : KeyVl s.heap k key) (hm : DictV w s.heap d xs) (his : ∀ x ∈ xs, KeyVl s.heap x.1 x.2.1) (hno : atV xs k = none)
    (hQ : ∀ h', DictV w h' d (xs ++ [(k, key, v)]) → Heap.SameBut d s.heap h' → Q () { s with heap := h', toks := s.toks + k.draws })
    (hsz : xs.length ≤ sizeLine) : wpAny (model P w) A (dictSet d key v) Q E s := by
  obtain ⟨o, es, ep, ho, hc, hd, he, hn⟩ := hm
  have hdp := hkey.d
  have hsize : es.size = xs.length := by rw [← Array.length_toList, he, List.length_map]
  have hno := atV_out hno
  unfold dictSet
  try with_reducible refine wpAny_holding ?_
  refine wpAny_bind (pyHash_key k key A s _ hkey.is (by omega) ?_)
  unfold dictSetHashed
  try with_reducible refine wpAny_holding ?_
  refine wpAny_bind (findV (s := { s with toks := s.toks + k.draws }) hu hkey ho hd he his hn ?_ ?_)
  · intro _
    refine wpAny_bind (wpAny_rule (wpAny_updateDictKeys (hz := by omega) (s := { s with toks := s.toks + k.draws }) ho hd (hQ _ ⟨_, _, ep + 1, Heap.get?_update_self _ ho (Obj.isFreed_of_dict (Obj.data_mapDictKeys hd _)),
      hc.mapDictKeys _, Obj.data_mapDictKeys hd _, ?_, ?_⟩ (Heap.SameBut.update ..))))
    · simp [he, entV]
    · rw [List.map_append, List.nodup_append]
      refine ⟨hn, by simp, ?_⟩
      intro x hx y hy
      simp only [List.map_cons, List.map_nil, List.mem_singleton] at hy
      subst hy
      rintro rfl
      obtain ⟨p, hp, rfl⟩ := List.mem_map.mp hx
      obtain ⟨j, hj⟩ := List.mem_iff_getElem?.mp hp
      exact hno j p.2 (by rw [hj])
  · intro j p hj
    exact absurd hj (hno j p)
theorem getItemV {v : Value} {Q : Value → Shared → Prop} (hu : A.units + 9 < cLine) (hkey : KeyVl s.heap k key) (hm : DictV w s.heap d xs) (his : ∀ x ∈ xs, KeyVl s.heap x.1 x.2.1) (hp : (atV xs k).map (·.2) = some v)
    (h : Q v { s with toks := s.toks + k.draws }) : wpAny (model P w) A (getItem (.ref d) key) Q E s := by
  have hu1 : A.in1.units + 8 < cLine := by show A.units + 1 + 8 < cLine; omega
  unfold getItem
  try with_reducible refine wpAny_holding ?_
  refine wpAny_bind (wpAny_sequenceKey hm.typeIs (by decide) ?_)
  refine wpAny_bind (wpAny_callSpecial?_slot (name := Str.ofString "__getitem__") hm.typeIs slot_dict_getitem
    (wpAny_call_entry slot_dict_getitem hm.typeIs entry_dict_getitem ?_ (args_dict_getitem _ _)))
  show wpAny _ _ (dictGet d key >>= _) _ _ s
  refine wpAny_bind (getV_ hu1 hkey hm his ?_)
  rw [hp]
  exact wpAny_pure ⟨v, rfl, wpAny_pure h⟩
theorem containsV {Q : Bool → Shared → Prop} (hu : A.units + 9 < cLine) (hkey : KeyVl s.heap k key) (hd : (d == sysModules) = false) (hm : DictV w s.heap d xs) (his : ∀ x ∈ xs, KeyVl s.heap x.1 x.2.1)
    (h : Q (atV xs k).isSome { s with toks := s.toks + k.draws }) : wpAny (model P w) A (contains (.ref d) key) Q E s := by
  have hu1 : A.in1.units + 8 < cLine := by show A.units + 1 + 8 < cLine; omega
  unfold contains
  try with_reducible refine wpAny_holding ?_
  refine wpAny_bind (wpAny_specialOf hm.typeIs slot_dict_contains.lookup ?_)
  show wpAny _ _ (if (some (Value.builtin "dict.__contains__") == some Value.none) = true then _ else _) _ E s
  rw [if_neg (by rw [beq_builtin_none]; exact Bool.false_ne_true)]
  refine wpAny_bind (wpAny_callSpecialUnlessNone?_slot (name := Str.ofString "__contains__") hm.typeIs slot_dict_contains
    (wpAny_call_entry slot_dict_contains hm.typeIs entry_dict_contains ?_ (args_dict_contains _ _)))
  show wpAny _ _ (dictGet d key >>= _) _ _ s
  refine wpAny_bind (getV_ hu1 hkey hm his ?_)
  cases hf : atV xs k with
  | some p =>
    rw [hf] at h
    show wpAny _ _ (ret (.bool true)) _ _ _
    exact wpAny_pure ⟨_, rfl, wpAny_truthy_bool h⟩
  | none =>
    rw [hf] at h
    show wpAny _ _ (Builtin.Dict.pendingKey? d key >>= _) _ _ _
    exact wpAny_bind (wpAny_pendingKey_other hd (wpAny_pure ⟨_, rfl, wpAny_truthy_bool h⟩))
theorem notInV {Q : Value → Shared → Prop} (hu : A.units + 9 < cLine) (hkey : KeyVl s.heap k key) (hd : (d == sysModules) = false) (hm : DictV w s.heap d xs) (his : ∀ x ∈ xs, KeyVl s.heap x.1 x.2.1)
    (h : Q (.bool (!(atV xs k).isSome)) { s with toks := s.toks + k.draws }) : wpAny (model P w) A (compareOp .NotIn key (.ref d)) Q E s := by
  show wpAny _ _ (do return .bool (!(← contains (.ref d) key))) Q E s
  exact wpAny_bind (containsV hu hkey hd hm his (wpAny_pure h))
theorem setItemV {v : Value} {Q : Unit → Shared → Prop} (hu : A.units + 9 < cLine) (hkey : KeyVl s.heap k key) (hm : DictV w s.heap d xs) (his : ∀ x ∈ xs, KeyVl s.heap x.1 x.2.1) (hno : atV xs k = none)
    (hQ : ∀ h', DictV w h' d (xs ++ [(k, key, v)]) → Heap.SameBut d s.heap h' → Q () { s with heap := h', toks := s.toks + k.draws }) (hsz : xs.length ≤ sizeLine) :
    wpAny (model P w) A (setItem (.ref d) key v) Q E s := by
  have hu1 : A.in1.units + 8 < cLine := by show A.units + 1 + 8 < cLine; omega
  unfold setItem
  try with_reducible refine wpAny_holding ?_
  refine wpAny_bind (wpAny_sequenceKey hm.typeIs (by decide) ?_)
  refine wpAny_bind (wpAny_callSpecial?_slot (name := Str.ofString "__setitem__") hm.typeIs slot_dict_setitem
    (wpAny_call_entry slot_dict_setitem hm.typeIs entry_dict_setitem ?_ (args_dict_setitem _ _ _)))
  show wpAny _ _ (Builtin.Dict.notOrdered "__setitem__" ⟨[.ref d, key, v], []⟩ >>= _) _ _ s
  refine wpAny_bind (wpAny_notOrdered_dict hm.typeIs ?_)
  show wpAny _ _ (dictSet d key v >>= _) _ _ s
  exact wpAny_bind (setV_ hu1 hkey hm his hno (fun h' hm' hs' => wpAny_pure ⟨.none, rfl, wpAny_pure (hQ h' hm' hs')⟩) hsz)
end
/-! the object, by what is tracked -/
/-- v is the key k -/
structure KyN (H : Hp) (k : NestedKey) (v : V) : Prop where
  nv : NV H k v
  d : k.depth ≤ 8
  n : ∀ x, v ≠ .str x
theorem KyN.ex {H H' : Hp} {k : NestedKey} {v : V} (h : KyN H k v) (e : ∀ b xs, H b = some (.tup xs) → H' b = some (.tup xs)) : KyN H' k v := ⟨h.nv.ex e, h.d, h.n⟩
theorem KyN.is {P : Program} {w : World} {H : Hp} {h : Heap} {k : NestedKey} {v : V} {u : Value} (q : KyN H k v) (ok : HOk P w H h) (r : RelV v u) : KeyVl h k u := by
  refine ⟨q.nv.is ok r, q.d, fun x t e => ?_⟩
  subst e
  have hv := q.nv
  have hn := q.n
  cases hv with
  | non => cases (show Value.str x t = Value.none from r)
  | int i =>
    obtain ⟨t', e⟩ : ∃ t', Value.str x t = Value.int i t' := r
    cases e
  | str y => exact hn y rfl
  | tup h1 h2 => cases (show Value.str x t = Value.ref _ from r)
abbrev KA := List (NestedKey × V × V)
def KX (kvs : KA) (xs : KVV) : Prop := Paired (fun p q => p.1 = q.1 ∧ RelV p.2.1 q.2.1 ∧ RelV p.2.2 q.2.2) kvs xs
/-- a dict whose keys are None, numbers, tuples that may hold tuples -/
def dN (w : World) (a : Addr) (kvs : KA) : HO := .ext fun h => kvs.length ≤ sizeLine ∧ (a == sysModules) = false ∧ ∃ xs, KX kvs xs ∧ DictV w h a xs
def KsN (H : Hp) (kvs : KA) : Prop := ∀ p ∈ kvs, KyN H p.1 p.2.1
theorem KsN.ex {H H' : Hp} {kvs : KA} (h : KsN H kvs) (e : ∀ b xs, H b = some (.tup xs) → H' b = some (.tup xs)) : KsN H' kvs := fun p hp => (h p hp).ex e
def valN : KA → NestedKey → Option V
  | [], _ => none
  | p :: kvs, k => if p.1 = k then some p.2.2 else valN kvs k
section
variable {P : Program} {w : World} {H : Hp} {h : Heap} {a : Addr} {kvs : KA}
theorem KX.val {xs : KVV} (r : KX kvs xs) (k : NestedKey) : RelO (valN kvs k) ((atV xs k).map (·.2)) := by
  induction r with
  | nil => exact True.intro
  | @cons p q ps qs hq t ih =>
    obtain ⟨h1, h2, h3⟩ := hq
    unfold valN
    by_cases e : p.1 = k
    · rw [if_pos e]
      have e2 : q.1 = k := by rw [← h1]; exact e
      have : atV (q :: qs) k = some q.2 := by simp [atV, e2]
      rw [this]
      exact h3
    · rw [if_neg e]
      have e2 : ¬ q.1 = k := by rw [← h1]; exact e
      have : atV (q :: qs) k = atV qs k := by simp [atV, e2]
      rw [this]
      exact ih
theorem KX.mem {xs : KVV} (r : KX kvs xs) (ks : KsN H kvs) (ok : HOk P w H h) : ∀ x ∈ xs, KeyVl h x.1 x.2.1 := by
  unfold KsN at ks
  induction r with
  | nil => intro x hx; cases hx
  | @cons p q ps qs hq t ih =>
    intro x hx
    rcases List.mem_cons.mp hx with e | hx
    · rw [e, ← hq.1]
      exact (ks p List.mem_cons_self).is ok hq.2.1
    · exact ih (fun y hy => ks y (List.mem_cons_of_mem _ hy)) x hx
theorem dN_of (ok : HOk P w H h) (e : H a = some (dN w a kvs)) (ks : KsN H kvs) : kvs.length ≤ sizeLine ∧ (a == sysModules) = false ∧ ∃ xs, KX kvs xs ∧ DictV w h a xs ∧ ∀ x ∈ xs, KeyVl h x.1 x.2.1 := by
  obtain ⟨z, y, xs, r, dd⟩ := (show ObjOk P w H h a (dN w a kvs) from ok a _ e).1
  exact ⟨z, y, xs, r, dd, r.mem ks ok⟩
theorem dN_ok {xs : KVV} (z : kvs.length ≤ sizeLine) (hd : (a == sysModules) = false) (r : KX kvs xs) (dd : DictV w h a xs) : ObjOk P w H h a (dN w a kvs) := by
  refine ⟨⟨z, hd, xs, r, dd⟩, let ⟨o, _, _, h1, _⟩ := dd; ⟨o, h1⟩, fun g1 g2 x k => ?_⟩
  obtain ⟨z, y, xs, r, o, es, ep, h1, h2, h3, h4, h5⟩ := x
  exact ⟨z, y, xs, r, o, es, ep, k _ h1, h2, h3, h4, h5⟩
theorem dN_new {h : Heap} (hb : sysModules < h.objs.size) : ObjOk P w H (h.push { cls := .type "dict", data := .dict #[] }) h.objs.size (dN w h.objs.size []) := by
  obtain ⟨o, es, ep, h1, h2, h3, h4, _, h5⟩ := Heap.DictOfH.new (knd := nestedKind P w) h
  exact dN_ok (Nat.zero_le _) (beq_eq_false_iff_ne.mpr (Ne.symm (Nat.ne_of_lt hb))) .nil ⟨o, es, ep, h1, h2, h3, by rw [h4]; rfl, h5⟩
end
/-- what is asked of the dict and of the key -/
def AtN (w : World) (H : Hp) (a : Addr) (kvs : KA) (y : V) (k : NestedKey) : Prop := H a = some (dN w a kvs) ∧ KsN H kvs ∧ KyN H k y
/-- in a dict of ints, texts, flat tuples, or of keys of any kind -/
def DGX (w : World) (H : Hp) (a : Addr) (y : V) (r : Option V) : Prop := DGet H a y r ∨ ∃ kvs k, AtN w H a kvs y k ∧ r = valN kvs k
def DPX (w : World) (H : Hp) (a : Addr) (y v : V) (H' : Hp) : Prop := DPut H a y v H' ∨ ∃ kvs k, AtN w H a kvs y k ∧ valN kvs k = none ∧ kvs.length < sizeLine ∧ H' = upd H a (dN w a (kvs ++ [(k, y, v)]))
def tDGetX (w : World) (td ty : TE) : TE := fun σ H Q => td σ H fun x H1 => ty σ H1 fun y H2 => ∃ a v, x = .ref a ∧ DGX w H2 a y (some v) ∧ Q v H2
def tDNotInX (w : World) (ty td : TE) : TE := fun σ H Q => ty σ H fun y H1 => td σ H1 fun x H2 => ∃ a o, x = .ref a ∧ DGX w H2 a y o ∧ Q (.bl (!o.isSome)) H2
def sDPutX (w : World) (td ty tv : TE) : TS := fun D σ H => tv σ H fun v H1 => td σ H1 fun x H2 => ty σ H2 fun y H3 => ∃ a H4, x = .ref a ∧ DPX w H3 a y v H4 ∧ D.nx σ H4
/-- {k: v}, k a tuple -/
def tDisp1N (w : World) (tk tv : TE) : TE := fun σ H Q => ∀ p, H p = none → tk σ (upd H p (dN w p [])) fun x H1 => tv σ H1 fun y H2 => H2 p = some (dN w p []) ∧ ∃ (b : Addr) (k : NestedKey), x = .ref b ∧ KyN H2 k (.ref b) ∧ Q (.ref p) (upd H2 p (dN w p [(k, .ref b, y)]))
def tDNewN (w : World) : TE := fun _ H Q => ∀ p, H p = none → Q (.ref p) (upd H p (dN w p []))
section
variable {X : Cx} {i o e value k v : Expr} {pos pos' : Pos} {td ty tv tk : TE} (w : World) (hw : X.w = w := by rfl)
include hw
theorem pe_dgetX (hu : X.A.units + 40 < cLine) (ho : PE X o td) (hi : PE X i ty) (hs : NoSl i) : PE X (.Subscript o i pos) (tDGetX w td ty) := by
  subst hw
  refine ⟨fun pins s σ H Q I h => ?_⟩
  refine subD_of PySem.F.slot_dict_getitem.lookup hs (thn (ho.run pins s σ H _ I h) fun u s1 ⟨x, H1, I1, rx, q1⟩ => thn (hi.run pins s1 σ H1 _ I1 q1) fun iv s2 ⟨y, H2, I2, ry, a, v, ex, g, q2⟩ => ?_)
  subst ex
  obtain rfl : u = Value.ref a := rx
  rcases g with g | ⟨kvs, k, ⟨e, ks, kb⟩, hv⟩
  · exact ⟨dict_typeIs I2 g, d_getItem (by omega) I2 g ry fun w' s3 I3 rw' => ⟨v, H2, I3, rw', q2⟩⟩
  obtain ⟨z, hd, xs, rel, dd, his⟩ := dN_of I2.hok e ks
  obtain ⟨w', hw, rw'⟩ := RelO.some_of (v := v) (o := (atV xs k).map (·.2)) (by rw [hv]; exact rel.val k)
  exact ⟨dd.typeIs, getItemV (by omega) (kb.is I2.hok ry) dd his hw ⟨v, H2, I2.tok _, rw', q2⟩⟩
theorem pc_dnotinX (hu : X.A.units + 40 < cLine) (hi : PE X i ty) (ho : PE X o td) : PC X .NotIn i o (tDNotInX w ty td) := by
  subst hw
  refine ⟨fun pins s σ H Q I h => ?_⟩
  refine thn (hi.run pins s σ H _ I h) fun iv s1 ⟨y, H1, I1, ry, q1⟩ => thn (ho.run pins s1 σ H1 _ I1 q1) fun u s2 ⟨x, H2, I2, rx, a, ov, ex, g, q2⟩ => ?_
  subst ex
  obtain rfl : u = Value.ref a := rx
  rcases g with g | ⟨kvs, k, ⟨e, ks, kb⟩, hv⟩
  · exact d_notIn (by omega) I2 g ry fun s3 I3 => ⟨.bl (!ov.isSome), H2, I3, rfl, q2⟩
  obtain ⟨z, hd, xs, rel, dd, his⟩ := dN_of I2.hok e ks
  refine notInV (by omega) (kb.is I2.hok ry) hd dd his ?_
  have q := (rel.val k).isSome_eq
  rw [Option.isSome_map, ← hv] at q
  rw [← q]
  exact ⟨.bl (!ov.isSome), H2, I2.tok _, rfl, q2⟩
theorem ps_dputX (hu : X.A.units + 40 < cLine) (ho : PE X o td) (hi : PE X i ty) (hv : PE X value tv) (hs : swapsWith value (some (.Subscript o i pos')) pos.line X.env = pure false) :
    PS X (.Assign [.Subscript o i pos'] value pos) (sDPutX w td ty tv) := by
  subst hw
  refine ⟨fun pins s σ H D I h => ?_⟩
  refine wpAny_Assign_Subscript (thn (hv.run pins s σ H _ I h) fun r s1 ⟨v, H1, I1, rv, q1⟩ => thn (ho.run pins s1 σ H1 _ I1 q1) fun u s2 ⟨x, H2, I2, rx, q2⟩ => thn (hi.run pins s2 σ H2 _ I2 q2) fun iv s3 ⟨y, H3, I3, ry, a, H4, ex, g, q3⟩ => ?_) hs
  subst ex
  obtain rfl : u = Value.ref a := rx
  rcases g with g | ⟨kvs, k, ⟨e, ks, kb⟩, hn, hl, rfl⟩
  · exact d_setItem (by omega) I3 g ry rv fun s4 I4 => ⟨σ, H4, I4, q3⟩
  obtain ⟨z, hd, xs, rel, dd, his⟩ := dN_of I3.hok e ks
  have hz : xs.length ≤ sizeLine := by rw [← Paired.length rel]; exact z
  have hl2 : (kvs ++ [(k, y, v)]).length ≤ sizeLine := by rw [List.length_append, List.length_singleton]; omega
  have q := (rel.val k).isSome_eq
  rw [hn, Option.isSome_map] at q
  have hno : atV xs k = none := by
    cases e : atV xs k with
    | none => rfl
    | some p => rw [e] at q; cases q
  refine setItemV (by omega) (kb.is I3.hok ry) dd his hno (fun h' dd' hs => ?_) hz
  have he : ∃ q, h'.get? a = some q := let ⟨q, _, _, hq, _⟩ := dd'; ⟨q, hq⟩
  exact ⟨σ, _, d_write I3 (by rw [e]; exact True.intro) hs he (dN_ok hl2 hd (Paired.snoc rel ⟨rfl, ry, rv⟩) dd'), q3⟩
theorem pe_dnewN : PE X (.Dict [] [] pos) (tDNewN w) := by
  subst hw
  exact ⟨fun pins s σ H Q I h =>
    wpAny_Dict_empty ⟨.ref s.heap.objs.size, _, I.laid (a := s.heap.objs.size) (o := dN X.w s.heap.objs.size []) (t' := s.toks) (fun _ _ q => Heap.get?_push_of_some _ q) (Nat.le_refl _) (dN_new I.big), rfl, h _ (I.hok.fresh (Nat.le_refl _))⟩⟩
theorem pe_disp1N (hu : X.A.units + 40 < cLine) (hk : PE X k tk) (hv : PE X v tv) : PE X (.Dict [some k] [v] pos) (tDisp1N w tk tv) := by
  subst hw
  refine ⟨fun pins s σ H Q I q => ?_⟩
  have hn := I.hok.fresh (Nat.le_refl s.heap.objs.size)
  have I1 := I.laid (a := s.heap.objs.size) (o := dN X.w s.heap.objs.size []) (t' := s.toks) (fun _ _ z => Heap.get?_push_of_some _ z) (Nat.le_refl _) (dN_new I.big)
  have hz := zip_pairTrees [some k] [v] X.env pos rfl rfl
  have hl : (pairTrees [some k] [v] X.env pos).length = 1 := pairTrees_length [some k] [v] X.env pos rfl rfl
  have hne : pairTrees [some k] [v] X.env pos ≠ [] := fun z => by rw [z] at hl; cases hl
  have room : (nestedKind X.prog X.w).room X.A := by show X.A.units + 8 < cLine; omega
  rw [arm_eval_Dict, hz, dictDisplay_pairs _ hne (by rw [hl]; decide)]
  refine wpAny_bind (wpAny_standAt (wpAny_bind ?_))
  refine wpAny_subDictH (knd := nestedKind X.prog X.w) room (by rw [hl]; decide) ?_
  refine pairTrees_cons_walk (thn (hk.run pins _ σ _ _ I1 (q _ hn)) fun u s1 ⟨x, H1, I1', rx, q1⟩ => thn (hv.run pins s1 σ H1 _ I1' q1) fun w2 s2 ⟨y, H2, I2, ry, q2⟩ => pairTrees_nil_walk ?_)
  obtain ⟨e, b, ks, rfl, kb, q3⟩ := q2
  cases (show u = Value.ref b from rx)
  obtain ⟨z, hd, xs0, r0, dd, _⟩ := dN_of I2.hok e (fun p hp => nomatch hp)
  cases r0
  have kb2 := kb.is I2.hok (u := .ref b) rfl
  obtain ⟨o0, es0, ep0, d1, d2, d3, d4, d5⟩ := dd
  refine ⟨[(ks, b, w2)], ⟨rfl, rfl, ⟨kb2.is, kb2.d⟩, True.intro⟩, ⟨o0, es0, ep0, d1, d2, d3, by rw [d4]; rfl, (fun x hx => nomatch hx), List.nodup_nil⟩, fun h' tk dd' hs => wpAny_pure ⟨.ref s.heap.objs.size, _, ?_, rfl, q3⟩⟩
  have e1 : storedAllH [] [(ks, b, w2)] = [(ks, b, w2)] := rfl
  rw [e1] at dd'
  obtain ⟨o, es, ep, ho, h2, h3, h4, h5, h6⟩ := dd'
  exact d_write I2 (by rw [e]; exact True.intro) hs ⟨o, ho⟩ (dN_ok (xs := [(ks, .ref b, w2)]) (by show 1 ≤ sizeLine; decide) hd (.cons ⟨rfl, (rfl : Value.ref b = Value.ref b), ry⟩ .nil) ⟨o, es, ep, ho, h2, h3, by rw [h4]; rfl, h6⟩)
end
section
variable {w : World} {σ : L2.St} {H : Hp} {Q : VK} {td ty tv tk : TE} {D : Ends}
theorem rd_dgetX (h : td σ H fun x H1 => ty σ H1 fun y H2 => ∃ a v, x = .ref a ∧ DGX w H2 a y (some v) ∧ Q v H2) : tDGetX w td ty σ H Q := h
theorem rd_dninX (h : ty σ H fun y H1 => td σ H1 fun x H2 => ∃ a o, x = .ref a ∧ DGX w H2 a y o ∧ Q (.bl (!o.isSome)) H2) : tDNotInX w ty td σ H Q := h
theorem rd_dputX (h : tv σ H fun v H1 => td σ H1 fun x H2 => ty σ H2 fun y H3 => ∃ a H4, x = .ref a ∧ DPX w H3 a y v H4 ∧ D.nx σ H4) : sDPutX w td ty tv D σ H := h
theorem rd_disp1N (h : ∀ p, H p = none → tk σ (upd H p (dN w p [])) fun x H1 => tv σ H1 fun y H2 => H2 p = some (dN w p []) ∧ ∃ (b : Addr) (k : NestedKey), x = .ref b ∧ KyN H2 k (.ref b) ∧ Q (.ref p) (upd H2 p (dN w p [(k, .ref b, y)]))) : tDisp1N w tk tv σ H Q := h
end
theorem hu40 {k : Nat} {A : Around} (r : Room k A) : A.units + 40 < cLine := by have := r.un; omega
end AT

set_option Elab.async false
set_option linter.all false
set_option maxRecDepth 100000
set_option maxHeartbeats 4000000
/-! own words, sixteenth part: nested defs with cells of their own; sets made of lists of numbers -/
namespace AT
open PySem PySem.Spec PyProof.Rows L2 LamX NdefX
/-! ### a def within a def, some of whose parameters are captured in their turn -/
theorem cellsFrom_acc (cl : List (Str × Addr)) : ∀ (names : List (Str × NameKind)) (n : Nat) (a : List (Str × Addr)), cellsFrom n names (a ++ cl) = cellsFrom n names a ++ cl
  | [], _, _ => rfl
  | (x, k) :: r, n, a => by
    unfold cellsFrom
    split
    · exact cellsFrom_acc cl r (n + 1) ((x, n) :: a)
    · exact cellsFrom_acc cl r n a
theorem cellsFrom_cl (cl : List (Str × Addr)) (names : List (Str × NameKind)) (n : Nat) : cellsFrom n names cl = cellsFrom n names [] ++ cl := cellsFrom_acc cl names n []
theorem cellsFrom_mem' : ∀ {names : List (Str × NameKind)} {n : Nat} {a : List (Str × Addr)} {p : Str × Addr}, p ∈ cellsFrom n names a → p ∈ a ∨ (p.1, NameKind.cell) ∈ names
  | [], _, _, _, h => .inl h
  | (x, k) :: r, n, a, p, h => by
    unfold cellsFrom at h
    split at h
    · rename_i hk
      rcases cellsFrom_mem' h with z | z
      · rcases List.mem_cons.mp z with z | z
        · right
          rw [z, show k = .cell from eq_of_beq hk]
          exact List.mem_cons_self
        · exact .inl z
      · exact .inr (List.mem_cons_of_mem _ z)
    · rcases cellsFrom_mem' h with z | z
      · exact .inl z
      · exact .inr (List.mem_cons_of_mem _ z)
section
variable {M : Model} {A : Around} {E : Value → Shared → Prop} {s₀ s : Shared} {m cm : Str → Option Value} {env : Env} {cs : List (Str × Addr)}
/-- a parameter stored: an own local, or a cell of cs -/
theorem st_par (x : InCallC s₀ env.locals m cs cm s) (hk : env.scope.kind = .function) {n : Str} {v : Value} {Q : Unit → Shared → Prop} (hl : env.kindOf n = some .local ∨ (env.kindOf n = some .cell ∧ ∃ c, env.cells.lookup n = some c ∧ cs.lookup n = some c))
    (h : ∀ s', InCallC s₀ env.locals (if env.kindOf n = some .local then fun y => if y = n then some v else m y else m) cs (if env.kindOf n = some .local then cm else fun y => if y = n then some v else cm y) s' → Q () s') : wpAny M A (storeName env n v) Q E s := by
  obtain ⟨x1, x2, x3, x4⟩ := id x
  rcases hl with hl | ⟨hl, c, hc, hc2⟩
  · rw [if_pos hl, if_pos hl] at h
    refine wpAny_storeName_local hl x1.ns (fun h1 hn hb => h _ ⟨⟨?_, hn, fun b o e => ?_, x1.fresh⟩, fun k a ha => ?_, x3, x4⟩) (by rw [hk]; rfl)
    · obtain ⟨g, tk, rfl⟩ := x1.same
      exact ⟨h1, _, rfl⟩
    · have hlt := Nat.lt_of_lt_of_le (Heap.lt_size e) x1.fresh
      exact hb.extBut b o (Nat.ne_of_lt hlt) (x1.keep b o e)
    · have hlt := x4 k a (PySem.mem_of_lookup ha)
      exact (x2 k a ha).sameBut hb (Nat.ne_of_gt hlt)
  · have nl : ¬ env.kindOf n = some .local := by rw [hl]; decide
    rw [if_neg nl, if_neg nl] at h
    have hlt := x4 n c (PySem.mem_of_lookup hc2)
    refine wpAny_storeName_cell hk hl hc (x2 n c hc2) fun h1 hn hb => h _ ⟨⟨?_, x1.ns.sameBut hb (Nat.ne_of_lt hlt), fun b o e => ?_, x1.fresh⟩, fun k a ha => ?_, x3, x4⟩
    · obtain ⟨g, tk, rfl⟩ := x1.same
      exact ⟨h1, _, rfl⟩
    · have hl2 := Nat.lt_trans (Nat.lt_of_lt_of_le (Heap.lt_size e) x1.fresh) hlt
      exact hb.extBut b o (Nat.ne_of_lt hl2) (x1.keep b o e)
    · by_cases ek : k = n
      · rw [ek, hc2] at ha
        cases ha
        rw [ek, if_pos rfl]
        exact hn
      · rw [if_neg ek]
        refine (x2 k a ha).sameBut hb fun e => ek (name_of_addr x3 (PySem.mem_of_lookup ha) ?_)
        rw [e]
        exact PySem.mem_of_lookup hc2
theorem st_pars (f : Str × Value → PUnit → Sem (ForInStep PUnit)) (hf : ∀ n v u, f (n, v) u = (do storeName env n v; pure (.yield ⟨⟩))) (hk : env.scope.kind = .function) :
    ∀ (bs : List (Str × Value)) (m cm : Str → Option Value) (s : Shared) (Q : PUnit → Shared → Prop), InCallC s₀ env.locals m cs cm s → (∀ x ∈ bs, env.kindOf x.1 = some .local ∨ (env.kindOf x.1 = some .cell ∧ ∃ c, env.cells.lookup x.1 = some c ∧ cs.lookup x.1 = some c)) →
      (∀ s', InCallC s₀ env.locals (bindL env.kindOf bs m) cs (bindC env.kindOf bs cm) s' → Q ⟨⟩ s') → wpAny M A (forIn bs ⟨⟩ f) Q E s
  | [], m, cm, s, Q, x, _, h => by
    rw [List.forIn_nil]
    exact wpAny_pure (h s x)
  | (n, v) :: r, m, cm, s, Q, x, hl, h => by
    rw [List.forIn_cons, hf]
    refine wpAny_bind (wpAny_bind (st_par x hk (hl _ List.mem_cons_self) fun s1 x1 => wpAny_pure ?_))
    refine st_pars f hf hk r _ _ s1 Q x1 (fun y hy => hl y (List.mem_cons_of_mem _ hy)) fun s2 x2 => h s2 ?_
    unfold bindL bindC
    exact x2
end
section
variable {M : Model} {A : Around} {E : Value → Shared → Prop} {s : Shared}
theorem new_env_cl {scope : Scope} {globals : Addr} {cl : List (Str × Addr)} {bs : List (Str × Value)} {qual : Str} {func : Option Addr} {code : Value} {builtins : Addr} {Q : Env → Shared → Prop} (hk : scope.kind = .function)
    (hl : ∀ x ∈ bs, scope.names.lookup x.1 = some .local ∨ (scope.names.lookup x.1 = some .cell ∧ ∃ c, (cellsFrom (s.heap.objs.size + 1) scope.names []).lookup x.1 = some c))
    (hQ : ∀ s', InCallC s s.heap.objs.size (bindL (fun y => scope.names.lookup y) bs fun _ => none) (cellsFrom (s.heap.objs.size + 1) scope.names []) (bindC (fun y => scope.names.lookup y) bs fun _ => none) s' → Q (newEnv scope s.heap.objs.size globals (cellsFrom (s.heap.objs.size + 1) scope.names cl) qual func code none builtins) s') :
    wpAny M A (newFunctionEnv scope globals cl bs qual func code none builtins) Q E s := by
  simp only [newFunctionEnv, Option.isSome_none, Bool.false_eq_true, if_false]
  refine wpAny_bind (wpAny_alloc ?_)
  refine wpAny_bind (wpAny_layCells _ (fun name kind cells => by cases e : kind == NameKind.cell <;> simp [e]) _ _ _ _ ?_)
  have ez : ∀ o : Obj, ({ s with heap := s.heap.push o } : Shared).heap.objs.size = s.heap.objs.size + 1 := fun o => Heap.size_push ..
  have ok := cellsFrom_ok scope.names (s.heap.push { cls := .type "frame", data := .dict #[] }) (s.heap.objs.size + 1) [] ⟨fun _ _ z => (nomatch z), List.Pairwise.nil⟩ (Nat.le_of_eq (ez _).symm)
  rw [show (s.heap.push { cls := .type "frame", data := .dict #[] }).objs.size = s.heap.objs.size + 1 from ez _] at ok
  rw [ez]
  refine wpAny_bind (st_pars (s₀ := s) (cs := cellsFrom (s.heap.objs.size + 1) scope.names []) (env := newEnv scope s.heap.objs.size globals (cellsFrom (s.heap.objs.size + 1) scope.names cl) qual func code none builtins) _ (fun _ _ _ => rfl) hk bs (fun _ => none) (fun _ => none) _ _
    ⟨⟨⟨_, _, rfl⟩, (Heap.Ns.new s.heap (.type "frame")).keeps (pushCells_keeps _ _), fun b o e => pushCells_keeps _ _ b o (Heap.get?_push_of_some _ e), Nat.le_refl _⟩, fun n c hc => (ok.empty n c (PySem.mem_of_lookup hc)).1, ok.apart, fun n c z => (ok.empty n c z).2⟩
    (fun x hx => ?_) fun s' x => wpAny_pure (hQ s' x))
  rcases hl x hx with z | ⟨z, c, hc⟩
  · exact .inl z
  · refine .inr ⟨z, c, ?_, hc⟩
    show (cellsFrom (s.heap.objs.size + 1) scope.names cl).lookup x.1 = some c
    rw [cellsFrom_cl, List.lookup_append, hc]
    rfl
end
/-- its names: the parameters, then the captured ones, then its locals; some parameters are cells -/
structure NScopeC (N ps fr : List Str) (sc : Scope) : Prop where
  kind : sc.kind = .function
  co : sc.isCoroutine = false
  gen : sc.isGenerator = false
  nd : N.Nodup
  pre : N.take (ps.length + fr.length) = ps ++ fr
  par : ∀ x ∈ ps, sc.names.lookup x = some .local ∨ sc.names.lookup x = some .cell
  own : ∀ y ∈ sc.names, y.2 = .cell → y.1 ∈ ps
  free : ∀ y ∈ sc.names, y.2 = .free → y.1 ∈ fr
  frk : ∀ x ∈ fr, sc.names.lookup x = some .free
def nscCB (N ps fr : List Str) (sc : Scope) : Bool :=
  decide (sc.kind = .function) && (!sc.isCoroutine && (!sc.isGenerator && (decide N.Nodup && (decide (N.take (ps.length + fr.length) = ps ++ fr) && (ps.all (fun x => decide (sc.names.lookup x = some .local) || decide (sc.names.lookup x = some .cell)) &&
    (sc.names.all (fun y => !decide (y.2 = .cell) || decide (y.1 ∈ ps)) && (sc.names.all (fun y => !decide (y.2 = .free) || decide (y.1 ∈ fr)) && fr.all (fun x => decide (sc.names.lookup x = some .free)))))))))
theorem nscopeC_by {N ps fr : List Str} {sc : Scope} (h : nscCB N ps fr sc = true) : NScopeC N ps fr sc := by
  unfold nscCB at h
  simp only [Bool.and_eq_true, Bool.not_eq_true', decide_eq_true_eq, List.all_eq_true, Bool.or_eq_true, decide_eq_false_iff_not] at h
  obtain ⟨h1, h2, h3, h4, h5, h6, h7, h8, h9⟩ := h
  exact ⟨h1, h2, h3, h4, h5, h6, fun y hy e => (h7 y hy).elim (fun z => absurd e z) id, fun y hy e => (h8 y hy).elim (fun z => absurd e z) id, h9⟩
abbrev envFC (F : NF) (f L : Addr) : Env := PySem.W.envX F.qual F.scope L f (.ref F.c) (cellsFrom (L + 1) F.scope.names F.cl)
def ncxC (CX : CXT) (P : Program) (w : World) (K : PySem.W.Frag) (mg : Str → Option Value) (base : Heap) (N : List Str) (F : NF) (f : Addr) (A : Around) (outer : List Env) (s : Shared) (H : Hp) (E : XK) : Cx :=
  { ncx CX P w K mg base N F f A outer s H E with
    A := A.deeper (envFC F f s.heap.objs.size), env := envFC F f s.heap.objs.size, stack := envFC F f s.heap.objs.size :: outer,
    xe := fun e s' => wpAny (model P w) (A.deeper (envFC F f s.heap.objs.size)) (leaving (envFC F f s.heap.objs.size) e) (fun _ s'' => CX outer H s E e s'') (fun e' s'' => CX outer H s E e' s'') s' }
section
variable {CX : CXT} {P : Program} {w : World} {K : PySem.W.Frag} {mg : Str → Option Value} {base : Heap} {N ps fr : List Str} {F : NF} {f : Addr} {A : Around} {outer : List Env} {s s1 : Shared} {H : Hp} {E : XK} {us : List Value} {vs : List V} {ws : List (Option V)}
theorem inv_startC (S : NScopeC N ps fr F.scope) (hd : A.handled = none) (e0 : Env0 P w K mg base A outer s H) (hl : vs.length = ps.length) (r : Vals vs us) (C : CellsAt F.cl fr ws s.heap H)
    (x : InCallC s s.heap.objs.size (bindL (fun y => F.scope.names.lookup y) (ps.zip us) fun _ => none) (cellsFrom (s.heap.objs.size + 1) F.scope.names []) (bindC (fun y => F.scope.names.lookup y) (ps.zip us) fun _ => none) s1) :
    Inv (ncxC CX P w K mg base N F f A outer s H E) [] (startF N vs ws) H s1 := by
  obtain ⟨h₁, tk, rfl, kp⟩ := x.done
  have hpl : ps.length + fr.length ≤ N.length := by
    have q := congrArg List.length S.pre
    rw [List.length_take, List.length_append] at q
    omega
  have noA : ∀ b : Addr, b ∉ (ncxC CX P w K mg base N F f A outer s H E).ex := fun b z => absurd (show b ∈ ([] : List Addr) from z) (by simp)
  have cellK : ∀ {c : Addr} {v : Option Value}, s.heap.IsCell c v → h₁.IsCell c v := fun {c v} ⟨o, ho, hd⟩ => ⟨o, kp _ _ ho, hd⟩
  have look : ∀ y, (cellsFrom (s.heap.objs.size + 1) F.scope.names F.cl).lookup y = ((cellsFrom (s.heap.objs.size + 1) F.scope.names []).lookup y).or (F.cl.lookup y) := fun y => by rw [cellsFrom_cl, List.lookup_append]
  have cut : ∀ {y c}, (cellsFrom (s.heap.objs.size + 1) F.scope.names F.cl).lookup y = some c → (cellsFrom (s.heap.objs.size + 1) F.scope.names []).lookup y = some c ∨ (F.cl.lookup y = some c) := fun {y c} e => by
    rw [look] at e
    cases z : (cellsFrom (s.heap.objs.size + 1) F.scope.names []).lookup y with
    | none => rw [z] at e; exact .inr e
    | some c' => rw [z] at e; exact .inl e
  have hi : ∀ {y c}, (cellsFrom (s.heap.objs.size + 1) F.scope.names []).lookup y = some c → s.heap.objs.size < c := fun e => x.above _ _ (PySem.mem_of_lookup e)
  have lo : ∀ {y c}, F.cl.lookup y = some c → c < s.heap.objs.size := fun e => by
    obtain ⟨_, v, o, ho, _⟩ := C.all _ _ e
    exact Heap.lt_size ho
  have ndA : (ps ++ fr).Nodup := by
    rw [← S.pre]
    exact S.nd.sublist (List.take_sublist _ _)
  have frn : ∀ {y}, y ∈ fr → (cellsFrom (s.heap.objs.size + 1) F.scope.names []).lookup y = none := fun {y} hy => by
    cases z : (cellsFrom (s.heap.objs.size + 1) F.scope.names []).lookup y with
    | none => rfl
    | some c =>
      rcases cellsFrom_mem' (PySem.mem_of_lookup z) with q | q
      · cases q
      · exact absurd (rfl : y = y) ((List.nodup_append.mp ndA).2.2 y (S.own _ q rfl) y hy)
  refine ⟨⟨e0.mod, S.kind, rfl, rfl, Nat.le_refl _, fun y z c h1 h2 => ?_, fun y hy => ?_, fun y c z _ => ?_, fun _ => hd, Around.frames_deeper e0.frames, .inr ⟨rfl, rfl⟩, fun b z => absurd z (noA b), e0.bs, e0.bsz, fun b _ _ => noA b,
      fun b z => absurd z (noA b), e0.funs, e0.frf⟩,
    rfl, e0.bare, Un.kept kp, ⟨_, x.toInCall.ns, fun i y v e1 e2 e3 => ?_⟩, fun y c e => ?_, e0.hok.fresh (Nat.le_refl _), fun y c e => ?_, fun q hq => absurd (show q ∈ ([] : List (Addr × Obj)) ++ [] from hq) (by simp), e0.hok.kept kp, ?_⟩
  · rcases cut h1 with a | a <;> rcases cut h2 with b | b
    · exact name_of_addr x.apart (PySem.mem_of_lookup a) (PySem.mem_of_lookup b)
    · exact absurd (Nat.lt_trans (hi a) (lo b)) (Nat.lt_irrefl _)
    · exact absurd (Nat.lt_trans (hi b) (lo a)) (Nat.lt_irrefl _)
    · exact C.inj y z c a b
  · have hy : F.scope.names.lookup y = some .cell ∨ F.scope.names.lookup y = some .free := hy
    rcases hy with hy | hy
    · obtain ⟨c, hc⟩ := cell_has (n := s.heap.objs.size + 1) hy
      exact ⟨c, by show (cellsFrom _ _ _).lookup y = _; rw [look, hc]; rfl⟩
    · have hf := S.free _ (PySem.mem_of_lookup hy) rfl
      obtain ⟨i, hi⟩ := List.mem_iff_getElem?.mp hf
      obtain ⟨c, hc, _⟩ := C.has i y hi
      exact ⟨c, by show (cellsFrom _ _ _).lookup y = _; rw [look, frn hf, hc]; rfl⟩
  · have z : false = true := z
    cases z
  · have e1 : N[i]? = some y := e1
    have clen := C.len
    unfold startF at e2
    by_cases h1 : i < ps.length
    · have hq : (ps ++ fr)[i]? = some y := by
        rw [← S.pre, List.getElem?_take_of_lt (by omega)]
        exact e1
      rw [List.getElem?_append_left h1] at hq
      rw [List.getElem?_append_left (by rw [List.length_map]; omega), List.getElem?_map] at e2
      have ha : vs[i]? = some v := by
        cases e : vs[i]? with
        | none => rw [e] at e2; cases e2
        | some a => rw [e] at e2; cases e2; rfl
      obtain ⟨u, hu, rv⟩ := r.get ha
      have ndP : ps.Nodup := (List.nodup_append.mp ndA).1
      refine ⟨u, rv, ?_⟩
      rcases S.par y (List.mem_of_getElem? hq) with k | k
      · exact .inl ⟨k, bindL_get ndP hq hu k⟩
      · obtain ⟨c, e⟩ := cell_has (n := s.heap.objs.size + 1) k
        refine .inr ⟨.inl k, c, by show (cellsFrom _ _ _).lookup y = _; rw [look, e]; rfl, ?_⟩
        have q := x.cell y c e
        rw [bindC_get ndP hq hu (by rw [k]; decide)] at q
        exact q
    · rw [List.getElem?_append_right (by rw [List.length_map]; omega), List.length_map] at e2
      by_cases h2 : i < ps.length + fr.length
      · have hq : (ps ++ fr)[i]? = some y := by
          rw [← S.pre, List.getElem?_take_of_lt (by omega)]
          exact e1
        rw [List.getElem?_append_right (by omega)] at hq
        rw [List.getElem?_append_left (by omega), hl] at e2
        obtain ⟨c, hc, hv⟩ := C.has (i - ps.length) y hq
        obtain ⟨u, ru, hu⟩ := hv v e2
        have hf := List.mem_of_getElem? hq
        exact ⟨u, ru, .inr ⟨.inr (S.frk y hf), c, by show (cellsFrom _ _ _).lookup y = _; rw [look, frn hf, hc]; rfl, cellK hu⟩⟩
      · rw [List.getElem?_append_right (by omega), List.getElem?_replicate] at e2
        split at e2 <;> cases e2
  · rcases cut e with z | z
    · exact ⟨_, x.cell y c z⟩
    · obtain ⟨v, q⟩ := (C.all y c z).2
      exact ⟨v, cellK q⟩
  · rcases cut e with z | z
    · exact e0.hok.fresh (Nat.le_of_lt (hi z))
    · exact (C.all y c z).1
  · have clen := C.len
    unfold startF
    show _ = N.length
    rw [List.length_append, List.length_append, List.length_map, List.length_replicate]
    omega
theorem nokC_of {k : Nat} {sp : List (Option V) → Sp} (S : NScopeC N ps fr F.scope) (hb : ∀ (doc pm ctv : Value) (us : List Value), us.length = ps.length → bindArgs (F.fd doc pm ctv) ⟨us, []⟩ = pure (ps.zip us)) (len : ∀ ws vs H Q E, sp ws vs H Q E → vs.length = ps.length)
    (hbody : ∀ (A : Around) (outer : List Env) (s : Shared) (H : Hp) (vs : List V) (ws : List (Option V)) (Q : VK) (E : XK), Room k (A.deeper (envFC F f s.heap.objs.size)) → ws.length = fr.length → sp ws vs H Q E →
      ∃ t, PSs (ncxC CX P w K mg base N F f A outer s H E).nox F.body t ∧ t { nx := fun _ H' => Q .non H', rt := Q } (startF N vs ws) H) :
    NOk P w K mg base CX (k + 1) f F ps fr sp := by
  refine ⟨len, fun A outer s H us vs ws Q E hr e0 hf hc C r hsp => ?_⟩
  have hl := len _ _ _ _ _ hsp
  have lim : s.heap.NoLimit := e0.mod.nolimit.keeps fun b o e => (e0.bs b o e).1
  obtain ⟨od, sl, doc, pm, ctv, ho⟩ := fnO_at e0.hok hf
  have hul : us.length = ps.length := by rw [← r.length]; exact hl
  refine codeAny_call_function hr.depth ho rfl S.co S.gen rfl (codeO_at e0.hok hc) ?_
  rw [hb doc pm ctv us hul]
  refine wpAny_pure (new_env_cl S.kind (fun ⟨n, v⟩ hy => ?_) fun s1 x => ⟨lim.keeps x.toInCall.keep, ?_⟩)
  · rcases S.par n (List.of_mem_zip hy).1 with q | q
    · exact .inl q
    · exact .inr ⟨q, cell_has q⟩
  show codeAny _ _ (.func F.body (envFC F f s.heap.objs.size)) _ _
  refine codeAny_func ?_
  obtain ⟨t, ht, hq⟩ := hbody A outer s H vs ws Q E (hr.deeper _) C.len hsp
  have I := inv_startC (CX := CX) (E := E) (f := f) (N := N) S hr.hd e0 hl r C x
  have ht := PSs.nox ht
  refine wpAny_mono (ht.run [] _ (startF N vs ws) H _ I hq) (fun fl s' hs => ?_) fun e s' hs => hs
  have fin : ∀ {σ' : L2.St} {H' : Hp} {v : V} {u : Value}, Inv (ncxC CX P w K mg base N F f A outer s H E) [] σ' H' s' → L2.RelV v u → Q v H' → CE outer P w H s Q u s' :=
    fun {σ' H' v u} J rv q => ⟨v, H', J.os, J.bare, J.base, J.hok, rv, q⟩
  cases fl with
  | ret u =>
    obtain ⟨v, σ', H', J, rv, q⟩ := hs
    exact fin J rv q
  | next =>
    obtain ⟨σ', H', J, q⟩ := hs
    exact fin (v := V.non) (u := Value.none) J rfl q
  | brk =>
    obtain ⟨_, _, _, q⟩ := hs
    exact q.elim
  | cont =>
    obtain ⟨_, _, _, q⟩ := hs
    exact q.elim
end
end AT

set_option Elab.async false
set_option linter.all false
set_option maxRecDepth 100000
set_option maxHeartbeats 4000000
/-! own words, seventeenth part: sorted(set(a list of numbers)) -/
namespace AT
open PySem PySem.Spec PyProof.Rows L2
/-- the set that is just made -/
abbrev eSet (w : World) : Obj := { cls := .type "set", dict := none, data := .set #[] 0 (.fresh 0 0 (!w.params.followText "set-order")) }
section
variable {P : Program} {w : World} {A : Around} {E : Value → Shared → Prop} {s : Shared}
set_option maxHeartbeats 6400000 in
theorem call_setL {l : Addr} {its : Array Value} (ns : List Int) {Q : Value → Shared → Prop} (calm : A.handled = none) (hl : s.heap.IsList l its) (hi : IntsAre its.toList ns) (few : ns.length + 1 < scanBound)
    (q : ∀ (h' : Heap) (tk c : Nat), SetR w h' s.heap.objs.size (fun j => decide (j ∈ ns)) c → c ≤ ns.length → (∀ b o, s.heap.get? b = some o → h'.get? b = some o) → Q (.ref s.heap.objs.size) { s with heap := h', toks := tk }) :
    wpAny (model P w) A (call (.type "set") [.ref l]) Q E s := by
  have sz : its.size = ns.length := by have e := IntsAre.length hi; rwa [Array.length_toList] at e
  have hC := F.called_set
  obtain ⟨c0, tl0, mro0⟩ := hC.mro
  have a1 := hC.made
  have a2 := hC.sub
  have a3 := hC.notType
  have a4 := hC.canCreate
  have a5 := F.typeCall_set_1 (.ref l)
  refine wpAny_call (codeAny_of_tree ?_)
  show wpAny _ _ (callAny (.type "set") _) _ _ _
  refine wpAny_pure ⟨Code.quiet_builtin _ (by decide +kernel), codeAny_builtin F.entry_type_call ?_⟩
  rw [Around.under_plain (weight_type_call_type "set" [.ref l] []) rfl]
  repeat (any_goals (first | assumption | wp_step))
  refine codeAny_mono (code_set_led1 (.ref l) (E := E) (Q₁ := fun v s1 => v = .ref s.heap.objs.size ∧ s1 = { s with heap := s.heap.push (eSet w) }) ⟨rfl, rfl⟩) fun r1 s1 z1 => ?_
  rcases r1 with e1 | f1
  · exact z1
  cases f1 with
  | next => exact z1.elim
  | brk => exact z1.elim
  | cont => exact z1.elim
  | ret v1 =>
    obtain ⟨rfl, rfl⟩ := z1
    have gS : (s.heap.push (eSet w)).get? s.heap.objs.size = some (eSet w) := Heap.get?_push_size _ rfl
    have tS : Shared.TypeIs { s with heap := s.heap.push (eSet w) } (.ref s.heap.objs.size) "set" := ⟨_, gS, rfl⟩
    have b1 := hC.init.lookup
    have b2 := hC.init.bind (.ref s.heap.objs.size)
    repeat (any_goals (first | assumption | wp_step))
    refine codeAny_mono (codeAny_call_builtin (R := wants (fun v s2 => v = .none ∧ ∃ g tk c, s2 = { s with heap := g, toks := tk } ∧ SetR w g s.heap.objs.size (fun j => decide (j ∈ ns)) c ∧ c ≤ ns.length ∧ (∀ b o, s.heap.get? b = some o → g.get? b = some o)) E)
      hC.init.plain F.entry_set_init (check_set_init_1 tS ?_)) fun r2 s2 z2 => ?_
    · obtain ⟨⟨oc, od, odt, osl⟩, ho, e1, n1, e2⟩ := hl
      simp only at e1 e2
      subst e1
      subst e2
      have ho1 : (s.heap.push (eSet w)).get? l = some { cls := .type "list", dict := od, data := .seq its n1, slots := osl } := Heap.get?_push_of_some _ ho
      have c1 := F.sub_list_set
      have c2 := F.sub_list_frozenset
      have c3 : (Value.type "list" == Value.type "dict") = false := by decide
      have isl : (s.heap.push (eSet w)).IsList l its := ⟨_, ho1, rfl, n1, rfl⟩
      unfold Builtin.«set.__init__» noKeywords Builtin.Frozenset.updateFrom
      generalize eI : pyIter = it0
      wp_walk
      subst eI
      refine wpAny_pyIter_list isl (wpAny_bind (wpAny_runValue ?_))
      have l1 : l < s.heap.objs.size := Heap.lt_size ho
      have zz : (s.heap.push (eSet w)).objs.size = s.heap.objs.size + 1 := Heap.size_push ..
      have calm3 : A.in1.in1.in1.handled = none := by simp [calm]
      have n2 : l ≠ (s.heap.push (eSet w)).objs.size := by rw [zz]; exact Nat.ne_of_lt (Nat.lt_succ_of_lt l1)
      have n3 : s.heap.objs.size ∉ [(s.heap.push (eSet w)).objs.size, l] := by
        rw [zz]
        simp only [List.mem_cons, List.not_mem_nil, or_false, not_or]
        exact ⟨Nat.ne_of_lt (Nat.lt_succ_self _), Nat.ne_of_gt l1⟩
      have vals : ∀ (i : Nat) (v : Value), its[i]? = some v → ∃ k t, ns[i]? = some k ∧ v = .int k t := fun i v hv => by
        have hlt : i < ns.length := by rw [← sz]; exact (Array.getElem?_eq_some_iff.mp hv).1
        obtain ⟨t, e⟩ := PyProof.Rows.IntsAre.int_at hi i v (by rw [Array.getElem?_toList]; exact hv)
        have e3 : ns[i]? = some ns[i] := List.getElem?_eq_getElem hlt
        exact ⟨ns[i], t, e3, by rw [e, List.getD_eq_getElem?_getD, e3]; rfl⟩
      refine set_update_ints ((Walks.list calm3 _ l n2 its).toS) s.heap.objs.size n3 ns sz few vals (its.size - 0) 0 _ (by omega) (Nat.zero_le _) ⟨⟨_, Heap.get?_push_size _ rfl, rfl, rfl⟩, isl.push _⟩ ⟨0, Nat.le_refl 0, setR_new_at (Heap.get?_push_of_some _ gS)⟩ fun s3 c hm hc hS => ?_
      obtain ⟨g, g2, d, tk, os⟩ := s3
      obtain rfl : g2 = s.gens := hm.gens
      obtain rfl : d = s.drawn := hm.drawn
      obtain rfl : os = s.os := hm.os
      show wpAny _ _ _ _ _ _
      refine wpAny_pure ?_
      show wpAny _ _ (ret Value.none) _ _ _
      rw [sz] at hc
      refine wpAny_pure ⟨rfl, g, tk, c, rfl, hS, hc, fun b o e => hm.heap b o ?_ (Heap.get?_push_of_some _ (Heap.get?_push_of_some _ e))⟩
      have lb : b < s.heap.objs.size := Heap.lt_size e
      rw [zz]
      simp only [List.mem_cons, List.not_mem_nil, or_false, not_or]
      exact ⟨Nat.ne_of_lt lb, Nat.ne_of_lt (Nat.lt_succ_of_lt lb)⟩
    · rcases r2 with e2 | f2
      · exact z2
      cases f2 with
      | ret v2 =>
        obtain ⟨rfl, g, tk, c, rfl, hS, hc, hk⟩ := z2
        repeat (any_goals (first | assumption | wp_step))
        exact q g tk c hS hc hk
      | next => exact z2.elim
      | brk => exact z2.elim
      | cont => exact z2.elim
end
/-- set(a list of numbers) -/
def rSetOfL (K : PySem.W.Frag) (w : World) : List V → Hp → VK → Prop := fun vs H Q => ∃ (l : Addr) (ns : List Int), vs = [.ref l] ∧ SqL K H l (ns.map V.int) ∧ ns.length ≤ 1000 ∧ ∀ (a : Addr) (c : Nat), H a = none → c ≤ ns.length → Q (.ref a) (upd H a (SetO w a (fun j => decide (j ∈ ns)) c))
theorem cr_setL {X : Cx} (hc : X.calm = true) : CallR X (.type "set") (rSetOfL X.K X.w) := by
  intro pins s σ H vs us Q I r h
  obtain ⟨l, ns, rfl, hs, hn, q⟩ := h
  rw [Vals.ref1 r]
  obtain ⟨its, rv, pl, hz⟩ := I.list hs
  refine call_setL ns (I.ok.hd hc) pl.isList (by rw [List.toList_toArray]; exact ints_of_vals rv) (by unfold scanBound; omega) fun h' tk c hS hl hk => ?_
  exact ⟨.ref _, _, I.laid (t' := tk) hk (Nat.le_refl _) (setO_new hS), rfl, q _ c (I.hok.fresh (Nat.le_refl _)) hl⟩
section
variable {X : Cx} (K : PySem.W.Frag) (w : World) (hK : X.K = K := by rfl) (hw : X.w = w := by rfl) (hc : X.calm = true := by rfl)
include hK hw hc
theorem kSetL : CallR X (.type "set") (rSetOfL K w) := hK ▸ hw ▸ cr_setL hc
omit hK in
theorem kSortSet : CallR X (.builtin "sorted") (rSortedSet w) := hw ▸ cr_sortedSet hc
end
/-- the places below n that are in xs -/
def lotN (n : Nat) (p : Nat → Bool) : List Nat := (List.range n).filter p
theorem mem_lotN {n : Nat} {p : Nat → Bool} {i : Nat} : i ∈ lotN n p ↔ i < n ∧ p i = true := by
  unfold lotN
  rw [List.mem_filter, List.mem_range]
theorem pw_ext : ∀ {a b : List Int}, a.Pairwise (· < ·) → b.Pairwise (· < ·) → (∀ k, k ∈ a ↔ k ∈ b) → a = b
  | [], [], _, _, _ => rfl
  | [], y :: _, _, _, h => absurd ((h y).mpr List.mem_cons_self) (by simp)
  | x :: _, [], _, _, h => absurd ((h x).mp List.mem_cons_self) (by simp)
  | x :: a, y :: b, ha, hb, h => by
    obtain ⟨a1, a2⟩ := List.pairwise_cons.mp ha
    obtain ⟨b1, b2⟩ := List.pairwise_cons.mp hb
    have e : x = y := by
      rcases List.mem_cons.mp ((h x).mp List.mem_cons_self) with z | z
      · exact z
      · rcases List.mem_cons.mp ((h y).mpr List.mem_cons_self) with z2 | z2
        · exact z2.symm
        · have := a1 _ z2
          have := b1 _ z
          omega
    subst e
    rw [pw_ext a2 b2 fun k => ⟨fun hk => ?_, fun hk => ?_⟩]
    · rcases List.mem_cons.mp ((h k).mp (List.mem_cons_of_mem _ hk)) with z | z
      · have := a1 _ hk; omega
      · exact z
    · rcases List.mem_cons.mp ((h k).mpr (List.mem_cons_of_mem _ hk)) with z | z
      · have := b1 _ hk; omega
      · exact z
theorem lotN_pw (n : Nat) (p : Nat → Bool) : ((lotN n p).map fun i : Nat => (i : Int)).Pairwise (· < ·) := by
  rw [List.pairwise_map]
  refine (List.pairwise_lt_range (n := n)).sublist List.filter_sublist |>.imp fun h => ?_
  exact Int.ofNat_lt.mpr h
/-- tuple(sorted(set(xs))) -/
theorem rd_sortSet {K : PySem.W.Frag} {w : World} {n : Nat} {xs : List Nat} {l : Addr} {H : Hp} {Q : VK} (hl : SqL K H l (xs.map fun i : Nat => V.int (i : Int))) (hn : xs.length < 64) (hb : ∀ x ∈ xs, x < n)
    (q : ∀ (p : Addr) (H' : Hp), Ex H H' → H' p = some (.lst ((lotN n fun i => decide (i ∈ xs)).map fun i : Nat => V.int (i : Int))) → Q (.ref p) H') : rSetOfL K w [.ref l] H fun v H1 => rSortedSet w [v] H1 Q := by
  refine ⟨l, xs.map fun i : Nat => (i : Int), rfl, by rw [List.map_map]; exact hl, by rw [List.length_map]; omega, fun a c ha hc => ?_⟩
  rw [List.length_map] at hc
  refine ⟨a, _, c, rfl, upd_same, by omega, fun ns p h1 h2 h3 hp => ?_⟩
  have e : ns = (lotN n fun i => decide (i ∈ xs)).map fun i : Nat => (i : Int) := pw_ext h1 (lotN_pw _ _) fun k => by
    rw [h2 k, decide_eq_true_eq, List.mem_map, List.mem_map]
    exact ⟨fun ⟨i, hi, e⟩ => ⟨i, mem_lotN.mpr ⟨hb i hi, decide_eq_true hi⟩, e⟩, fun ⟨i, hi, e⟩ => ⟨i, of_decide_eq_true (mem_lotN.mp hi).2, e⟩⟩
  refine q p _ ((Evl.Ex.new ha).trans (Evl.Ex.new hp)) ?_
  rw [upd_same, e, List.map_map]
  rfl
end AT

set_option Elab.async false
set_option linter.all false
set_option maxRecDepth 100000
set_option maxHeartbeats 4000000
/-! own words, eighteenth part: x or y of a tuple -/
namespace AT
open PySem PySem.Spec PyProof.Rows L2
theorem kOrT {X : Cx} (K : PySem.W.Frag) (hK : X.K = K) {a : Expr} {ta tb : TE} (h : PE X a (tOrT X.K ta tb)) : PE X a (tOrT K ta tb) := hK ▸ h
theorem rd_orT {K : PySem.W.Frag} {ta tb : TE} {σ : L2.St} {H : Hp} {Q : VK} (h : ta σ H fun x H1 => ∃ k, TruV K x H1 k ∧ if k = true then Q x H1 else tb σ H1 Q) : tOrT K ta tb σ H Q := h
end AT

set_option Elab.async false
set_option linter.all false
set_option maxRecDepth 100000
set_option maxHeartbeats 4000000
/-! own words, nineteenth part: a text turned round -/
namespace AT
open PySem PySem.Spec PyProof.Rows L2
/-- z[::-1] -/
def revS (z : Str) : Str := ⟨z.cps.toList.reverse.toArray⟩
theorem pick_rev (z : Str) : (Builtin.Str.strSliceIndices none none (-1) z.length).filterMap (z.cps[·]?) = z.cps.toList.reverse := by
  show (sliceRange ((z.cps.size : Int) - 1) (-1) (-1)).filterMap (z.cps[·]?) = _
  rw [PySem.W.krv_sliceRange, PySem.W.krv_range, List.filterMap_reverse, PySem.W.krv_all]
def tRevS (te : TE) : TE := fun σ H Q => te σ H fun x H1 => ∃ z : Str, x = .str z ∧ z.length ≤ sizeLine ∧ Q (.str (revS z)) H1
theorem pe_revS {X : Cx} {e : Expr} {te : TE} {k : Nat} {p1 p2 p3 pos : Pos} (he : PE X e te) : PE X (.Subscript e (.Slice none none (some (.UnaryOp .USub (.Constant (.int 1) k p1) p2)) p3) pos) (tRevS te) := by
  constructor
  intro pins s σ H Q I q
  refine Subscript_ (thn (he.run pins s σ H _ I q) fun v s1 ⟨x, H1, I1, rx, z, ex, hz, q1⟩ => ?_)
  subst ex
  obtain ⟨t, rfl⟩ : ∃ t, v = Value.str z t := rx
  have step : PO X (some (.UnaryOp .USub (.Constant (.int 1) k p1) p2)) (tPart (tUn (rU fun i => .int (-i)) (tC (.int 1)))) := po_some (pe_un un_neg pe_int)
  refine wpAny_Slice (thn (po_none.run pins s1 σ H1 (fun o H2 => o = none ∧ H2 = H1) I1 ⟨rfl, rfl⟩) fun va s2 ⟨a, H2, I2, pa, ea, e2⟩ => ?_)
  subst ea e2
  refine thn (po_none.run pins s2 σ H2 (fun o H3 => o = none ∧ H3 = H2) I2 ⟨rfl, rfl⟩) fun vb s3 ⟨b, H3, I3, pb, eb, e3⟩ => ?_
  subst eb e3
  refine thn (step.run pins s3 σ H3 (fun o H4 => o = some (-1) ∧ H4 = H3) I3 ⟨1, rfl, -1, rfl, rfl, rfl⟩) fun vc s4 ⟨c, H4, I4, pc, ec, e4⟩ => ?_
  subst ec e4
  obtain ⟨la, rfl, ha⟩ := IsPart.raw pa
  obtain ⟨lb, rfl, hb⟩ := IsPart.raw pb
  obtain ⟨lc, rfl, hc⟩ := IsPart.raw pc
  have I5 : Inv X pins σ H4 { s4 with heap := s4.heap.push { cls := .type "slice", data := .fields #[partValue la, partValue lb, partValue lc] } } := I4.kept (t' := s4.toks) fun b ob q => Heap.get?_push_of_some _ q
  have made : (slicePicked z la lb lc).filterMap (z.cps[·]?) = z.cps.toList.reverse := by
    unfold slicePicked
    rw [ha, hb, hc]
    exact pick_rev z
  refine tail_any (ops := [.ref s4.heap.objs.size, .str z t]) (typeIs_str _ _ _) (F.slot_str_getitem.lookup) ?_ (by with_unfolding_all rfl)
  refine wpAny_getItem_str_slice (l := la) (u := lb) (st := lc) ⟨_, Heap.get?_push_size _ rfl, rfl, rfl⟩ (by rw [hc]; rfl) ?_
  have em : sliceMade z t la lb lc = .str (revS z) := by
    unfold sliceMade
    rw [made, hc]
    rfl
  rw [em]
  refine ⟨?_, .str _, H4, I5.tok _, ⟨_, rfl⟩, q1⟩
  show (z.cps.toList.reverse.toArray).size ≤ sizeLine
  rw [List.size_toArray, List.length_reverse, Array.length_toList]
  exact hz
theorem rd_revS {te : TE} {σ : L2.St} {H : Hp} {Q : VK} (h : te σ H fun x H1 => ∃ z : Str, x = .str z ∧ z.length ≤ sizeLine ∧ Q (.str (revS z)) H1) : tRevS te σ H Q := h
end AT

set_option Elab.async false
set_option linter.all false
set_option maxRecDepth 100000
set_option maxHeartbeats 4000000
local macro_rules | `(tactic| walk_at "rd1") => `(tactic| with_reducible first
  | refine AT.rd_seq ?_ | refine AT.rd_is ?_ | refine AT.rd_asg ?_ | refine AT.rd_name ?_ | refine AT.rd_var (by with_unfolding_all rfl) ?_ | refine AT.rd_c ?_ | refine AT.rd_op ?_ | refine AT.rd_ret ?_ | refine AT.rd_retN ?_ | refine AT.rd_if ?_ | refine AT.rd_ife ?_ | refine AT.rd_next ?_ | refine AT.rd_drop ?_
  | refine AT.rd_test ?_ | refine AT.rd_tB ?_ | refine AT.rd_bl ?_ | refine AT.rd_not ?_ | refine AT.rd_and ?_ | refine AT.rd_or ?_ | refine AT.rd_nil ?_ | refine AT.rd_cons ?_ | refine AT.rd_lst ?_ | refine AT.rd_tup ?_ | refine AT.rd_cb ?_ | refine AT.rd_chain ?_
  | refine AT.rd_called ?_ | refine AT.rd_calledR ?_ | refine AT.rd_raised ?_ | refine AT.rd_iteT ?_ | refine AT.rd_iteF ?_ | refine AT.rd_iteNF ?_ | refine AT.rd_iteNT ?_ | refine AT.rd_addI ?_ | refine AT.rd_subI ?_ | refine AT.rd_lt ?_ | refine AT.rd_le ?_ | refine AT.rd_gt ?_ | refine AT.rd_ge ?_ | refine AT.rd_eqI ?_ | refine AT.rd_neI ?_ | refine AT.rd_eqS ?_ | refine AT.rd_neS ?_
  | refine AT.rd_int ?_ | refine AT.rd_abs ?_ | refine AT.rd_inS ?_ | refine AT.rd_niS ?_ | refine AT.rd_rng1 ?_ | refine AT.rd_rng2 ?_ | refine AT.rd_bm ?_ | refine AT.rd_fld ?_ | refine AT.rd_sfld ?_ | refine AT.rd_makeR ?_ | refine AT.rd_methR ?_ | refine AT.rd_meth ?_ | refine AT.rd_notV ?_ | refine AT.rd_xf ?_ | refine AT.rd_andV ?_ | refine AT.rd_orV ?_ | refine AT.rd_sl ?_ | refine AT.rd_noPart ?_ | refine AT.rd_part ?_ | refine AT.rd_intv ?_ | refine AT.rd_raised1 ?_ | refine AT.rd_gsub ?_ | refine AT.rd_gN ?_ | refine AT.rd_par3 ?_ | refine AT.rd_dget ?_ | refine AT.rd_din ?_ | refine AT.rd_dnin ?_ | refine AT.rd_dput ?_ | refine AT.rd_disp1T ?_ | refine AT.rd_dnK ?_ | refine AT.rd_dnT ?_ | refine AT.rd_v3 ?_ | refine AT.rd_gE ?_ | refine AT.rd_for ?_ | refine AT.rd_lc ?_ | refine AT.rd_lenL (by assumption) ?_ | refine AT.rd_dsetd ?_ | refine AT.rd_dgetX ?_ | refine AT.rd_dninX ?_ | refine AT.rd_dputX ?_ | refine AT.rd_dsetdB ?_ | refine AT.rd_dgetB ?_ | refine AT.rd_dnB ?_ | refine AT.rd_lenT (by assumption) ?_)
local macro_rules | `(tactic| walk_at "rd") => `(tactic| (repeat walk_at "rd1"))
local macro_rules | `(tactic| walk_at "rc1") => `(tactic| with_reducible first
  | refine AT.rd_seqA ?_ | refine AT.rd_is ?_ | refine AT.rd_seqD ?_ | refine AT.rd_asg ?_ | refine AT.rd_name ?_ | refine AT.rd_var (by with_unfolding_all rfl) ?_ | refine AT.rd_c ?_ | refine AT.rd_op ?_ | refine AT.rd_ret ?_ | refine AT.rd_retN ?_ | refine AT.rd_if ?_ | refine AT.rd_next ?_ | refine AT.rd_drop ?_
  | refine AT.rd_test ?_ | refine AT.rd_tB ?_ | refine AT.rd_bl ?_ | refine AT.rd_not ?_ | refine AT.rd_and ?_ | refine AT.rd_or ?_ | refine AT.rd_nil ?_ | refine AT.rd_cons ?_ | refine AT.rd_lst ?_ | refine AT.rd_tup ?_ | refine AT.rd_cb ?_ | refine AT.rd_chain ?_
  | refine AT.rd_called ?_ | refine AT.rd_calledR ?_ | refine AT.rd_raised ?_ | refine AT.rd_iteT ?_ | refine AT.rd_iteF ?_ | refine AT.rd_iteNF ?_ | refine AT.rd_iteNT ?_ | refine AT.rd_addI ?_ | refine AT.rd_subI ?_ | refine AT.rd_lt ?_ | refine AT.rd_le ?_ | refine AT.rd_gt ?_ | refine AT.rd_ge ?_ | refine AT.rd_eqI ?_ | refine AT.rd_neI ?_ | refine AT.rd_eqS ?_ | refine AT.rd_neS ?_
  | refine AT.rd_int ?_ | refine AT.rd_abs ?_ | refine AT.rd_inS ?_ | refine AT.rd_niS ?_ | refine AT.rd_rng1 ?_ | refine AT.rd_rng2 ?_ | refine AT.rd_bm ?_ | refine AT.rd_fld ?_ | refine AT.rd_sfld ?_ | refine AT.rd_makeR ?_ | refine AT.rd_methR ?_ | refine AT.rd_meth ?_ | refine AT.rd_notV ?_ | refine AT.rd_xf ?_ | refine AT.rd_sl ?_ | refine AT.rd_noPart ?_ | refine AT.rd_part ?_ | refine AT.rd_intv ?_ | refine AT.rd_raised1 ?_ | refine AT.rd_gsub ?_ | refine AT.rd_gN ?_ | refine AT.rd_par3 ?_ | refine AT.rd_dget ?_ | refine AT.rd_din ?_ | refine AT.rd_dnin ?_ | refine AT.rd_dput ?_ | refine AT.rd_disp1T ?_ | refine AT.rd_dnK ?_ | refine AT.rd_dnT ?_ | refine AT.rd_v3 ?_ | refine AT.rd_gE ?_ | refine AT.rd_for ?_ | refine AT.rd_lc ?_ | refine AT.rd_lenL (by assumption) ?_ | refine AT.rd_dsetd ?_ | refine AT.rd_dgetX ?_ | refine AT.rd_dninX ?_ | refine AT.rd_dputX ?_ | refine AT.rd_dsetdB ?_ | refine AT.rd_dgetB ?_ | refine AT.rd_dnB ?_ | refine AT.rd_lenT (by assumption) ?_)
local macro_rules | `(tactic| walk_at "rc") => `(tactic| ((repeat walk_at "rc1"); (try with_reducible refine AT.rd_idS ?_)))
local macro_rules | `(tactic| walk_at "rs") => `(tactic| with_reducible refine AT.rd_seq ?_)

namespace AT
open PySem L2
def top (i : Nat) : Stmt := PySem.Challenge.pw_anytext_k15_counting.main.body.getD i (.Pass ⟨0, 0, 0, 0⟩)
abbrev s__wall : Stmt := top 0
theorem sc__wall : FnScope ["k"] ["k"] (defScope s__wall) := ⟨rfl, rfl, rfl, by decide +kernel, rfl, by decide +kernel, by decide +kernel⟩
abbrev s_ways_back : Stmt := top 8
theorem sc_ways_back : FnScope ["nexts", "found", "_", "state", "afters", "after"] ["nexts"] (defScope s_ways_back) := ⟨rfl, rfl, rfl, by decide +kernel, rfl, by decide +kernel, by decide +kernel⟩
abbrev s_reached : Stmt := top 9
theorem sc_reached : FnScope ["starts", "nexts", "found", "waiting", "state", "after"] ["starts", "nexts"] (defScope s_reached) := ⟨rfl, rfl, rfl, by decide +kernel, rfl, by decide +kernel, by decide +kernel⟩
abbrev s_useful : Stmt := top 11
theorem sc_useful : FnScope ["machine", "ends", "state", "accepting", "led_to", "leads_on"] ["machine"] (defScope s_useful) := ⟨rfl, rfl, rfl, by decide +kernel, rfl, by decide +kernel, by decide +kernel⟩
abbrev s_count : Stmt := top 13
theorem sc_count : FnScope ["machine", "length", "many", "_"] ["machine", "length"] (defScope s_count) := ⟨rfl, rfl, rfl, by decide +kernel, rfl, by decide +kernel, by decide +kernel⟩
abbrev s_place_of : Stmt := top 14
theorem sc_place_of : FnScope ["machine", "text", "before", "shorter", "smaller", "state", "letter", "index", "after"] ["machine", "text"] (defScope s_place_of) := ⟨rfl, rfl, rfl, by decide +kernel, rfl, by decide +kernel, by decide +kernel⟩
abbrev s_text_at : Stmt := top 15
theorem sc_text_at : FnScope ["machine", "place", "kept", "state", "layers", "left", "here", "longer"] ["machine", "place"] (defScope s_text_at) := ⟨rfl, rfl, rfl, by decide +kernel, rfl, by decide +kernel, by decide +kernel⟩
abbrev s__longer : Stmt := top 16
theorem sc__longer : FnScope ["machine", "many", "found", "state", "after"] ["machine", "many"] (defScope s__longer) := ⟨rfl, rfl, rfl, by decide +kernel, rfl, by decide +kernel, by decide +kernel⟩
abbrev s__accepted : Stmt := top 17
theorem sc__accepted : FnScope ["machine", "many", "state"] ["machine", "many"] (defScope s__accepted) := ⟨rfl, rfl, rfl, by decide +kernel, rfl, by decide +kernel, by decide +kernel⟩
abbrev s__text_through : Stmt := top 18
theorem sc__text_through : FnScope ["machine", "layers", "left", "state", "found", "ends", "index"] ["machine", "layers", "left"] (defScope s__text_through) := ⟨rfl, rfl, rfl, by decide +kernel, rfl, by decide +kernel, by decide +kernel⟩
abbrev s__ends_behind : Stmt := top 19
theorem sc__ends_behind : FnScope ["machine", "layers", "ends", "state", "found", "layer"] ["machine", "layers"] (defScope s__ends_behind) := ⟨rfl, rfl, rfl, by decide +kernel, rfl, by decide +kernel, by decide +kernel⟩
abbrev s__sums_of_next : Stmt := top 20
theorem sc__sums_of_next : FnScope ["machine", "layer", "ends", "after", "state"] ["machine", "layer", "ends"] (defScope s__sums_of_next) := ⟨rfl, rfl, rfl, by decide +kernel, rfl, by decide +kernel, by decide +kernel⟩
abbrev s_cell : Stmt := top 22
theorem sc_cell : FnScope ["script", "k"] ["script", "k"] (defScope s_cell) := ⟨rfl, rfl, rfl, by decide +kernel, rfl, by decide +kernel, by decide +kernel⟩
abbrev s_numbers : Stmt := top 23
theorem sc_numbers : FnScope ["cell", "many", "rest", "whole", "numbers", "k", "mixed"] ["cell", "many"] (defScope s_numbers) := ⟨rfl, rfl, rfl, by decide +kernel, rfl, by decide +kernel, by decide +kernel⟩
abbrev s_state : Stmt := top 24
theorem sc_state : FnScope ["script", "start", "many", "numbers", "k", "cell"] ["script", "start", "many"] (defScope s_state) := ⟨rfl, rfl, rfl, by decide +kernel, rfl, by decide +kernel, by decide +kernel⟩
abbrev s_next : Stmt := top 25
theorem sc_next : FnScope ["state", "many", "numbers", "place"] ["state", "many"] (defScope s_next) := ⟨rfl, rfl, rfl, by decide +kernel, rfl, by decide +kernel, by decide +kernel⟩
abbrev s_letters : Stmt := top 26
theorem sc_letters : FnScope ["state", "most", "pool", "letters", "k", "letter"] ["state", "most"] (defScope s_letters) := ⟨rfl, rfl, rfl, by decide +kernel, rfl, by decide +kernel, by decide +kernel⟩
abbrev s_texts : Stmt := top 27
theorem sc_texts : FnScope ["letters", "most", "last", "rows", "k", "longer", "text", "letter"] ["letters", "most"] (defScope s_texts) := ⟨rfl, rfl, rfl, by decide +kernel, rfl, by decide +kernel, by decide +kernel⟩
abbrev s_parts : Stmt := top 28
theorem sc_parts : FnScope ["letters", "state", "most", "many", "accepting", "k", "table", "letter"] ["letters", "state", "most"] (defScope s_parts) := ⟨rfl, rfl, rfl, by decide +kernel, rfl, by decide +kernel, by decide +kernel⟩
abbrev s_accepts : Stmt := top 29
theorem sc_accepts : FnScope ["letters", "accepting", "table", "text", "at", "letter"] ["letters", "accepting", "table", "text"] (defScope s_accepts) := ⟨rfl, rfl, rfl, by decide +kernel, rfl, by decide +kernel, by decide +kernel⟩
abbrev s_ways : Stmt := top 30
theorem sc_ways : FnScope ["letters", "accepting", "table", "length", "ways", "k", "turn", "after", "at", "following"] ["letters", "accepting", "table", "length"] (defScope s_ways) := ⟨rfl, rfl, rfl, by decide +kernel, rfl, by decide +kernel, by decide +kernel⟩
abbrev s_before : Stmt := top 31
theorem sc_before : FnScope ["letters", "accepting", "table", "text", "ways", "each", "k", "following", "row", "found", "at", "place"] ["letters", "accepting", "table", "text"] (defScope s_before) := ⟨rfl, rfl, rfl, by decide +kernel, rfl, by decide +kernel, by decide +kernel⟩
abbrev s_law : Stmt := top 32
theorem sc_law : FnScope ["script", "state", "letters", "most", "accepting", "table", "machine", "before", "lengths", "k", "text", "length", "long", "total", "place", "told"] ["script"] (defScope s_law) := ⟨rfl, rfl, rfl, by decide +kernel, rfl, by decide +kernel, by decide +kernel⟩
abbrev s_init : Stmt := inClass (top 2) 0
theorem sc_init : FnScope ["self", "what"] ["self", "what"] (defScope s_init) := ⟨rfl, rfl, rfl, by decide +kernel, rfl, by decide +kernel, by decide +kernel⟩
abbrev s_Machine_init : Stmt := inClass (top 6) 0
theorem sc_Machine_init : FnScope ["self", "letters", "accepting", "table", "row"] ["self", "letters", "accepting", "table"] (defScope s_Machine_init) := ⟨rfl, rfl, rfl, by decide +kernel, rfl, by decide +kernel, by decide +kernel⟩
abbrev s_Machine_check : Stmt := inClass (top 6) 1
theorem sc_Machine_check : FnScope ["self", "states", "row"] ["self"] (defScope s_Machine_check) := ⟨rfl, rfl, rfl, by decide +kernel, rfl, by decide +kernel, by decide +kernel⟩
abbrev s_Machine_run : Stmt := inClass (top 6) 2
theorem sc_Machine_run : FnScope ["self", "text"] ["self", "text"] (defScope s_Machine_run) := ⟨rfl, rfl, rfl, by decide +kernel, rfl, by decide +kernel, by decide +kernel⟩
abbrev s_Machine_run_from : Stmt := inClass (top 6) 3
theorem sc_Machine_run_from : FnScope ["self", "state", "text"] ["self", "state", "text"] (defScope s_Machine_run_from) := ⟨rfl, rfl, rfl, by decide +kernel, rfl, by decide +kernel, by decide +kernel⟩
abbrev s_Machine_accepts : Stmt := inClass (top 6) 4
theorem sc_Machine_accepts : FnScope ["self", "text"] ["self", "text"] (defScope s_Machine_accepts) := ⟨rfl, rfl, rfl, by decide +kernel, rfl, by decide +kernel, by decide +kernel⟩
abbrev s_Machine_picture : Stmt := inClass (top 6) 5
theorem sc_Machine_picture : FnScope ["self"] ["self"] (defScope s_Machine_picture) := ⟨rfl, rfl, rfl, by decide +kernel, rfl, by decide +kernel, by decide +kernel⟩
structure Txt (K : PySem.W.Frag) (mg : Str → Option Value) where
  a__wall : Addr
  d__wall : FuncData
  f__wall : Fun K "_wall" "_wall" s__wall a__wall d__wall
  o__wall : Own K mg "_wall" a__wall d__wall ["k"]
  a_ways_back : Addr
  d_ways_back : FuncData
  f_ways_back : Fun K "ways_back" "ways_back" s_ways_back a_ways_back d_ways_back
  o_ways_back : Own K mg "ways_back" a_ways_back d_ways_back ["nexts"]
  a_reached : Addr
  d_reached : FuncData
  f_reached : Fun K "reached" "reached" s_reached a_reached d_reached
  o_reached : Own K mg "reached" a_reached d_reached ["starts", "nexts"]
  a_useful : Addr
  d_useful : FuncData
  f_useful : Fun K "useful" "useful" s_useful a_useful d_useful
  o_useful : Own K mg "useful" a_useful d_useful ["machine"]
  a_count : Addr
  d_count : FuncData
  f_count : Fun K "count" "count" s_count a_count d_count
  o_count : Own K mg "count" a_count d_count ["machine", "length"]
  a_place_of : Addr
  d_place_of : FuncData
  f_place_of : Fun K "place_of" "place_of" s_place_of a_place_of d_place_of
  o_place_of : Own K mg "place_of" a_place_of d_place_of ["machine", "text"]
  a_text_at : Addr
  d_text_at : FuncData
  f_text_at : Fun K "text_at" "text_at" s_text_at a_text_at d_text_at
  o_text_at : Own K mg "text_at" a_text_at d_text_at ["machine", "place"]
  a__longer : Addr
  d__longer : FuncData
  f__longer : Fun K "_longer" "_longer" s__longer a__longer d__longer
  o__longer : Own K mg "_longer" a__longer d__longer ["machine", "many"]
  a__accepted : Addr
  d__accepted : FuncData
  f__accepted : Fun K "_accepted" "_accepted" s__accepted a__accepted d__accepted
  o__accepted : Own K mg "_accepted" a__accepted d__accepted ["machine", "many"]
  a__text_through : Addr
  d__text_through : FuncData
  f__text_through : Fun K "_text_through" "_text_through" s__text_through a__text_through d__text_through
  o__text_through : Own K mg "_text_through" a__text_through d__text_through ["machine", "layers", "left"]
  a__ends_behind : Addr
  d__ends_behind : FuncData
  f__ends_behind : Fun K "_ends_behind" "_ends_behind" s__ends_behind a__ends_behind d__ends_behind
  o__ends_behind : Own K mg "_ends_behind" a__ends_behind d__ends_behind ["machine", "layers"]
  a__sums_of_next : Addr
  d__sums_of_next : FuncData
  f__sums_of_next : Fun K "_sums_of_next" "_sums_of_next" s__sums_of_next a__sums_of_next d__sums_of_next
  o__sums_of_next : Own K mg "_sums_of_next" a__sums_of_next d__sums_of_next ["machine", "layer", "ends"]
  a_cell : Addr
  d_cell : FuncData
  f_cell : Fun K "_law_cell" "_law_cell" s_cell a_cell d_cell
  o_cell : Own K mg "_law_cell" a_cell d_cell ["script", "k"]
  a_numbers : Addr
  d_numbers : FuncData
  f_numbers : Fun K "_law_numbers" "_law_numbers" s_numbers a_numbers d_numbers
  o_numbers : Own K mg "_law_numbers" a_numbers d_numbers ["cell", "many"]
  a_state : Addr
  d_state : FuncData
  f_state : Fun K "_law_state" "_law_state" s_state a_state d_state
  o_state : Own K mg "_law_state" a_state d_state ["script", "start", "many"]
  a_next : Addr
  d_next : FuncData
  f_next : Fun K "_law_next" "_law_next" s_next a_next d_next
  o_next : Own K mg "_law_next" a_next d_next ["state", "many"]
  a_letters : Addr
  d_letters : FuncData
  f_letters : Fun K "_law_letters" "_law_letters" s_letters a_letters d_letters
  o_letters : Own K mg "_law_letters" a_letters d_letters ["state", "most"]
  a_texts : Addr
  d_texts : FuncData
  f_texts : Fun K "_law_texts" "_law_texts" s_texts a_texts d_texts
  o_texts : Own K mg "_law_texts" a_texts d_texts ["letters", "most"]
  a_parts : Addr
  d_parts : FuncData
  f_parts : Fun K "_law_parts" "_law_parts" s_parts a_parts d_parts
  o_parts : Own K mg "_law_parts" a_parts d_parts ["letters", "state", "most"]
  a_accepts : Addr
  d_accepts : FuncData
  f_accepts : Fun K "_law_accepts" "_law_accepts" s_accepts a_accepts d_accepts
  o_accepts : Own K mg "_law_accepts" a_accepts d_accepts ["letters", "accepting", "table", "text"]
  a_ways : Addr
  d_ways : FuncData
  f_ways : Fun K "_law_ways" "_law_ways" s_ways a_ways d_ways
  o_ways : Own K mg "_law_ways" a_ways d_ways ["letters", "accepting", "table", "length"]
  a_before : Addr
  d_before : FuncData
  f_before : Fun K "_law_before" "_law_before" s_before a_before d_before
  o_before : Own K mg "_law_before" a_before d_before ["letters", "accepting", "table", "text"]
  a_law : Addr
  d_law : FuncData
  f_law : Fun K "law" "law" s_law a_law d_law
  o_law : Own K mg "law" a_law d_law ["script"]
  a_init : Addr
  d_init : FuncData
  T_init : Addr
  f_init : FunD K "__init__" "AnytextError.__init__" (defArgs s_init) (defBody s_init) (defScope s_init) [.non] [] a_init d_init
  tI : PySem.W.typeIn K (.ref a_init) = some (.type "function")
  bI : Binds K d_init ["self", "what"] []
  C_AnytextError : Addr
  C_MachineError : Addr
  C_BadMachine : Addr
  g_BadMachine : mg "BadMachine" = some (.ref C_BadMachine)
  x_BadMachine : ErrX K C_BadMachine a_init
  clsB : ClsB K
  C_Machine : Addr
  g_Machine : mg "Machine" = some (.ref C_Machine)
  cl_Machine : Cls K C_Machine
  na_Machine_letters : NoAttr K C_Machine "letters"
  na_Machine_accepting : NoAttr K C_Machine "accepting"
  na_Machine_table : NoAttr K C_Machine "table"
  a_Machine_init : Addr
  d_Machine_init : FuncData
  f_Machine_init : Fun K "__init__" "Machine.__init__" s_Machine_init a_Machine_init d_Machine_init
  b_Machine_init : Binds K d_Machine_init ["self", "letters", "accepting", "table"] []
  mk_Machine : Mk K C_Machine a_Machine_init
  a_Machine_check : Addr
  d_Machine_check : FuncData
  f_Machine_check : Fun K "check" "Machine.check" s_Machine_check a_Machine_check d_Machine_check
  b_Machine_check : Binds K d_Machine_check ["self"] []
  m_Machine_check : Meth K C_Machine "check" a_Machine_check
  a_Machine_run : Addr
  d_Machine_run : FuncData
  f_Machine_run : Fun K "run" "Machine.run" s_Machine_run a_Machine_run d_Machine_run
  b_Machine_run : Binds K d_Machine_run ["self", "text"] []
  m_Machine_run : Meth K C_Machine "run" a_Machine_run
  a_Machine_run_from : Addr
  d_Machine_run_from : FuncData
  f_Machine_run_from : Fun K "run_from" "Machine.run_from" s_Machine_run_from a_Machine_run_from d_Machine_run_from
  b_Machine_run_from : Binds K d_Machine_run_from ["self", "state", "text"] []
  m_Machine_run_from : Meth K C_Machine "run_from" a_Machine_run_from
  a_Machine_accepts : Addr
  d_Machine_accepts : FuncData
  f_Machine_accepts : Fun K "accepts" "Machine.accepts" s_Machine_accepts a_Machine_accepts d_Machine_accepts
  b_Machine_accepts : Binds K d_Machine_accepts ["self", "text"] []
  m_Machine_accepts : Meth K C_Machine "accepts" a_Machine_accepts
  a_Machine_picture : Addr
  d_Machine_picture : FuncData
  f_Machine_picture : Fun K "picture" "Machine.picture" s_Machine_picture a_Machine_picture d_Machine_picture
  b_Machine_picture : Binds K d_Machine_picture ["self"] []
  m_Machine_picture : Meth K C_Machine "picture" a_Machine_picture
  nb_abs : mg "abs" = none
  nb_enumerate : mg "enumerate" = none
  nb_int : mg "int" = none
  nb_len : mg "len" = none
  nb_list : mg "list" = none
  nb_max : mg "max" = none
  nb_min : mg "min" = none
  nb_range : mg "range" = none
  nb_reversed : mg "reversed" = none
  nb_sum : mg "sum" = none
  nb_tuple : mg "tuple" = none
section
variable {P : Program} {w : World} {K : PySem.W.Frag} {mg : Str → Option Value} {base : Heap}
/-! ### the helpers that all laws have: cells of the script, numbers, a state, the next drawn number -/
def spCell (K : PySem.W.Frag) : Sp := fun vs H Q _ => ∃ (l : Addr) (ns : List Int) (k : Int), vs = [.ref l, .int k] ∧ SqL K H l (ns.map V.int) ∧ 0 ≤ k ∧ ∀ z, Q (.int z) H
theorem ok_cell (T : Txt K mg) : FnOk P w K mg base CX0 1 T.a_cell T.d_cell ["script", "k"] (spCell K) := by
  refine T.f_cell.ok sc_cell (fun vs H Q E h => ?_) (fun cdv A outer s H vs Q E hr h => ?_)
  · obtain ⟨_, _, _, rfl, _⟩ := h; rfl
  · obtain ⟨l, ns, k, rfl, hs, h0, q⟩ := h
    refine ⟨_, (pss_cons (ps_if (pt_cmpR op_ltP (pv 1) (pe_callB (kLen K) (by rfl) T.nb_len (by decide +kernel) (pa_cons (pv 0) pa_nil)) (by first | rfl | exact nomark _))
    (pss_one (ps_ret (pe_ix (kIx K) (pv 0) (pv 1) (fun _ _ => rfl))))
    pss_nil)
  (pss_one (ps_ret pe_int))), ?_⟩
    walk_at "rd"
    refine rd_iteD (fun h1 => ?_) (fun h1 => ?_)
    · walk_at "rd"
      rw [List.length_map] at h1
      refine rd_ixL (v := .int (ns.getD k.toNat 0)) hs ?_ (q _)
      have e : k = (k.toNat : Int) := (Int.toNat_of_nonneg h0).symm
      rw [e]
      refine atI_nat ?_
      rw [List.getElem?_map, Int.toNat_natCast, List.getD_eq_getElem?_getD, List.getElem?_eq_getElem (show k.toNat < ns.length by omega)]
      rfl
    · walk_at "rd"
      exact q 0
/-- numbers from 0 to 999 -/
def Small (ns : List Int) : Prop := ∀ x ∈ ns, 0 ≤ x ∧ x < 1000
theorem Small.more {ns : List Int} {x : Int} (h : Small ns) (h0 : 0 ≤ x) (h1 : x < 1000) : Small (ns ++ [x]) := fun y hy => by
  rcases List.mem_append.mp hy with hy | hy
  · exact h y hy
  · rw [List.mem_singleton.mp hy]; exact ⟨h0, h1⟩
theorem Small.app {ns ms : List Int} (h : Small ns) (k : Small ms) : Small (ns ++ ms) := fun y hy => (List.mem_append.mp hy).elim (h y) (k y)
theorem fmod_small {a m : Int} (h : 0 < m) : 0 ≤ a.fmod m ∧ a.fmod m < m := by
  rw [Int.fmod_eq_emod_of_nonneg _ (Int.le_of_lt h)]
  exact ⟨Int.emod_nonneg _ (by omega), Int.emod_lt_of_pos _ h⟩
/-- a new list of small numbers -/
def spNumbers : Sp := fun vs H Q _ => ∃ (c m : Int), vs = [.int c, .int m] ∧ 0 ≤ m ∧ m ≤ 1000 ∧ ∀ (p : Addr) (ns : List Int) (H' : Hp), H p = none → Ex H H' → H' p = some (.lst (ns.map V.int)) → (ns.length : Int) = m → Small ns → Q (.ref p) H'
theorem append_int {H' : Hp} {p : Addr} {ns : List Int} {D : VK} {K : PySem.W.Frag} {i : Nat} {x : Int} (hp : H' p = some (.lst (ns.map V.int))) (hi : ns.length = i) (hl : i < 100000) (q : D .non (upd H' p (.lst ((ns ++ [x]).map V.int)))) :
    rAppend (.ref p) [.int x] H' D := ⟨p, ns.map V.int, .int x, rfl, rfl, hp, Nat.lt_of_lt_of_le (by rw [List.length_map, hi]; exact hl) (by decide), by rw [List.map_append] at q; exact q⟩
theorem ok_numbers (T : Txt K mg) : FnOk P w K mg base CX0 1 T.a_numbers T.d_numbers ["cell", "many"] spNumbers := by
  refine T.f_numbers.ok sc_numbers (fun vs H Q E h => ?_) (fun cdv A outer s H vs Q E hr h => ?_)
  · obtain ⟨_, _, rfl, _⟩ := h; rfl
  · obtain ⟨c, m, rfl, h0, h1, q⟩ := h
    refine ⟨_, (pss_cons (ps_set (i := 2) sc_numbers.nd rfl (by first | exact Or.inl rfl | exact Or.inr rfl) (pe_callB call_absP (by rfl) T.nb_abs (by decide +kernel) (pa_cons (pv 0) pa_nil)))
  (pss_cons (ps_set (i := 3) sc_numbers.nd rfl (by first | exact Or.inl rfl | exact Or.inr rfl) (pv 2))
  (pss_cons (ps_set (i := 4) sc_numbers.nd rfl (by first | exact Or.inl rfl | exact Or.inr rfl) (pe_lst pa_nil))
  (pss_cons (ps_for PassesOwn.never rfl (pi_range1 (by rfl) T.nb_range (pa_cons (pv 1) pa_nil)) (pg_name (i := 5) sc_numbers.nd rfl (by first | exact Or.inl rfl | exact Or.inr rfl))
    (pss_one (ps_if (PW.pt (pw_and (pt_cmpR op_geP (pv 3) (pe_op op_powP pe_int pe_int) (by first | rfl | exact nomark _)) (pw_and1 (pt_cmpR op_gtP (pv 2) pe_int (by first | rfl | exact nomark _)))))
    (pss_cons (ps_expr (kBm K rfl (pe_bm PySem.F.plainAttrs_list PySem.F.slot_list_append PySem.F.type_list_append mt_append (pv 4) (pa_cons (pe_op op_modP (pe_callTy call_intP (by rfl) T.nb_int (by decide +kernel) (pa_cons (pv 2) pa_nil)) pe_int) pa_nil))))
  (pss_one (ps_set (i := 2) sc_numbers.nd rfl (by first | exact Or.inl rfl | exact Or.inr rfl) (pe_op op_divP (pv 2) pe_int))))
    (pss_cons (ps_set (i := 6) sc_numbers.nd rfl (by first | exact Or.inl rfl | exact Or.inr rfl) (pe_op op_modP (pe_callTy call_intP (by rfl) T.nb_int (by decide +kernel) (pa_cons (pe_op (kAdd K) (pe_op (kAdd K) (pe_op op_mulPP (pv 3) pe_int) (pe_op op_mulPP (pv 5) pe_int)) pe_int) pa_nil)) pe_int))
  (pss_cons (ps_set (i := 6) sc_numbers.nd rfl (by first | exact Or.inl rfl | exact Or.inr rfl) (pe_op op_modP (pe_callTy call_intP (by rfl) T.nb_int (by decide +kernel) (pa_cons (pe_op (kAdd K) (pe_op (kAdd K) (pe_op op_mulPP (pv 6) (pv 6)) (pe_op op_mulPP pe_int (pv 5))) pe_int) pa_nil)) pe_int))
  (pss_one (ps_expr (kBm K rfl (pe_bm PySem.F.plainAttrs_list PySem.F.slot_list_append PySem.F.type_list_append mt_append (pv 4) (pa_cons (pe_op op_modP (pe_callTy call_intP (by rfl) T.nb_int (by decide +kernel) (pa_cons (pe_op op_divP (pv 6) pe_int) pa_nil)) pe_int) pa_nil))))))))))
  (pss_one (ps_ret (pv 4))))))), ?_⟩
    walk_at "rd"
    refine ⟨by decide, fun p hp => ?_⟩
    walk_at "rd"
    refine ⟨_, rfl, by omega, by omega, fo_range (n := m.toNat) (fun i σ H' => ∃ (r : Int) (ns : List Int) (kk mm : Option V), σ = [some (.int c), some (.int m), some (.int r), some (.int (if c < 0 then -c else c)), some (.ref p), kk, mm] ∧ Ex H H' ∧ H' p = some (.lst (ns.map V.int)) ∧ ns.length = i ∧ Small ns)
      ⟨_, [], none, none, rfl, Evl.Ex.new hp, upd_same, rfl, fun x hx => by cases hx⟩ ?_ ?_⟩
    · rintro i σ H' hi ⟨r, ns, kk, mm, rfl, e, hl, hn, sm⟩
      have tl : tyV K "list" (.ref p) H' := .inl ⟨rfl, _, SqL.of hl⟩
      walk_at "rd"
      refine rd_powI ⟨by decide, by decide, by decide⟩ ?_
      walk_at "rd"
      refine rd_ite (fun h2 => ?_) (fun h2 => ?_)
      · walk_at "rd"
        refine rd_ite (fun h3 => ?_) (fun h3 => ?_)
        · walk_at "rd"
          refine ⟨tl, ?_⟩
          walk_at "rd"
          refine rd_modI (by decide) ?_
          walk_at "rd"
          refine append_int (K := K) hl hn (by omega) ?_
          walk_at "rd"
          refine rd_divI ⟨by decide, by decide⟩ ?_
          walk_at "rd"
          have fm := fmod_small (a := r) (m := 1000) (by decide)
          exact ⟨_, ns ++ [_], _, _, rfl, Evl.Ex.mut e hp, upd_same, by rw [List.length_append, hn]; rfl, sm.more fm.1 fm.2⟩
        · walk_at "rd"
          refine rd_mulN (.inr ⟨by decide, by decide⟩) ?_
          walk_at "rd"
          refine rd_mulN (.inr ⟨by decide, by decide⟩) ?_
          walk_at "rd"
          refine rd_modI (by decide) ?_
          walk_at "rd"
          have fa := fmod_small (a := (if c < 0 then -c else c) * 48271 + (i : Int) * 69621 + 11) (m := 2147483647) (by decide)
          refine rd_mulN (.inl ⟨by omega, by omega⟩) ?_
          walk_at "rd"
          refine rd_mulN (.inl ⟨by decide, by decide⟩) ?_
          walk_at "rd"
          refine rd_modI (by decide) ?_
          walk_at "rd"
          refine ⟨tl, ?_⟩
          walk_at "rd"
          refine rd_divI ⟨by decide, by decide⟩ ?_
          walk_at "rd"
          refine rd_modI (by decide) ?_
          walk_at "rd"
          refine append_int (K := K) hl hn (by omega) ?_
          have fm := fun a : Int => fmod_small (a := a) (m := 1000) (by decide)
          exact ⟨_, ns ++ [_], _, _, rfl, Evl.Ex.mut e hp, upd_same, by rw [List.length_append, hn]; rfl, sm.more (fm _).1 (fm _).2⟩
      · walk_at "rd"
        refine rd_mulN (.inr ⟨by decide, by decide⟩) ?_
        walk_at "rd"
        refine rd_mulN (.inr ⟨by decide, by decide⟩) ?_
        walk_at "rd"
        refine rd_modI (by decide) ?_
        walk_at "rd"
        have fa := fmod_small (a := (if c < 0 then -c else c) * 48271 + (i : Int) * 69621 + 11) (m := 2147483647) (by decide)
        refine rd_mulN (.inl ⟨by omega, by omega⟩) ?_
        walk_at "rd"
        refine rd_mulN (.inl ⟨by decide, by decide⟩) ?_
        walk_at "rd"
        refine rd_modI (by decide) ?_
        walk_at "rd"
        refine ⟨tl, ?_⟩
        walk_at "rd"
        refine rd_divI ⟨by decide, by decide⟩ ?_
        walk_at "rd"
        refine rd_modI (by decide) ?_
        walk_at "rd"
        refine append_int (K := K) hl hn (by omega) ?_
        have fm := fun a : Int => fmod_small (a := a) (m := 1000) (by decide)
        exact ⟨_, ns ++ [_], _, _, rfl, Evl.Ex.mut e hp, upd_same, by rw [List.length_append, hn]; rfl, sm.more (fm _).1 (fm _).2⟩
    · rintro σ H' ⟨r, ns, kk, mm, rfl, e, hl, hn, sm⟩
      walk_at "rd"
      exact q p ns H' hp e hl (by omega) sm
/-- a state: the numbers, the place -/
def StAt (H : Hp) (p : Addr) : Prop := ∃ (l : Addr) (ns : List Int) (place : Int), H p = some (.lst [.ref l, .int place]) ∧ H l = some (.lst (ns.map V.int)) ∧ Small ns ∧ 0 < ns.length ∧ ns.length ≤ 100000 ∧ 0 ≤ place
theorem StAt.ex {H H' : Hp} {p : Addr} (h : StAt H p) (e : Ex H H') : StAt H' p := by
  obtain ⟨l, ns, pl, h1, h2, h3⟩ := h
  exact ⟨l, ns, pl, e _ _ h1, e _ _ h2, h3⟩
def spState (K : PySem.W.Frag) : Sp := fun vs H Q _ => ∃ (l : Addr) (ns : List Int) (st many : Int), vs = [.ref l, .int st, .int many] ∧ SqL K H l (ns.map V.int) ∧ 0 ≤ st ∧ st ≤ 1000 ∧ 0 < many ∧ many ≤ 1000 ∧
  ∀ (p : Addr) (H' : Hp), H p = none → Ex H H' → StAt H' p → Q (.ref p) H'
theorem ok_state (T : Txt K mg) : FnOk P w K mg base CX0 2 T.a_state T.d_state ["script", "start", "many"] (spState K) := by
  refine T.f_state.ok sc_state (fun vs H Q E h => ?_) (fun cdv A outer s H vs Q E hr h => ?_)
  · obtain ⟨_, _, _, _, rfl, _⟩ := h; rfl
  · obtain ⟨l, ns, st, many, rfl, hs, h0, h1, h2, h3, q⟩ := h
    refine ⟨_, (pss_cons (ps_set (i := 3) sc_state.nd rfl (by first | exact Or.inl rfl | exact Or.inr rfl) (pe_lst pa_nil))
  (pss_cons (ps_for PassesOwn.never rfl (pi_range2 (by rfl) T.nb_range (pa_cons (pv 1) (pa_cons (pe_op (kAdd K) (pv 1) (pv 2)) pa_nil))) (pg_name (i := 4) sc_state.nd rfl (by first | exact Or.inl rfl | exact Or.inr rfl))
    (pss_cons (ps_set (i := 5) sc_state.nd rfl (by first | exact Or.inl rfl | exact Or.inr rfl) (pe_callE (ok_cell T) (hr.mono (by decide)) T.o_cell (pa_cons (pv 0) (pa_cons (pv 4) pa_nil))))
  (pss_cons (ps_if (pt_cmpR op_ltP (pe_callB call_absP (by rfl) T.nb_abs (by decide +kernel) (pa_cons (pv 5) pa_nil)) (pe_op op_powP pe_int pe_int) (by first | rfl | exact nomark _))
    (pss_one (ps_set (i := 5) sc_state.nd rfl (by first | exact Or.inl rfl | exact Or.inr rfl) (pe_op (kAdd K) (pe_op op_mulPP (pv 5) pe_int) (pv 4))))
    pss_nil)
  (pss_one (ps_set (i := 3) sc_state.nd rfl (by first | exact Or.inl rfl | exact Or.inr rfl) (pe_op (kAdd K) (pv 3) (pe_callE (ok_numbers T) (hr.mono (by decide)) T.o_numbers (pa_cons (pv 5) (pa_cons pe_int pa_nil)))))))))
  (pss_one (ps_ret (pe_lst (pa_cons (pv 3) (pa_cons pe_int pa_nil))))))), ?_⟩
    walk_at "rd"
    refine ⟨by decide, fun p hp => ?_⟩
    walk_at "rd"
    refine ⟨_, _, rfl, ⟨by omega, by omega, by omega, by omega⟩, fo_range2 (lo := st) (n := (st + many - st).toNat) (fun i σ H' => ∃ (p2 : Addr) (ms : List Int) (kk cc : Option V), σ = [some (.ref l), some (.int st), some (.int many), some (.ref p2), kk, cc] ∧ Ex H H' ∧ H p2 = none ∧ H' p2 = some (.lst (ms.map V.int)) ∧ ms.length = i * 20 ∧ Small ms)
      ⟨p, [], none, none, rfl, Evl.Ex.new hp, hp, upd_same, rfl, fun x hx => by cases hx⟩ ?_ ?_⟩
    · rintro i σ H' hi ⟨p2, ms, kk, cc, rfl, e, hp2, hl, hn, sm⟩
      walk_at "rd"
      refine ⟨l, ns, _, rfl, Evl.ex_l e hs, by omega, fun z => ?_⟩
      walk_at "rd"
      refine rd_powI ⟨by decide, by decide, by decide⟩ ?_
      walk_at "rd"
      have hi2 : i < 1000 := by omega
      have fin : ∀ (z2 : Int) (cc : Option V), cc = some (.int z2) → tAsg (tOp (oAdd K) (tVar 3) (tCalled spNumbers (tCons (tVar 5) (tCons (tC (.int 20)) tNil)))) (gName 3)
          { nx := fun σ H' => ∃ (p2 : Addr) (ms : List Int) (kk cc : Option V), σ = [some (.ref l), some (.int st), some (.int many), some (.ref p2), kk, cc] ∧ Ex H H' ∧ H p2 = none ∧ H' p2 = some (.lst (ms.map V.int)) ∧ ms.length = (i + 1) * 20 ∧ Small ms, rt := Q } [some (.ref l), some (.int st), some (.int many), some (.ref p2), some (.int (st + (i : Int))), cc] H' := by
        rintro z2 cc rfl
        walk_at "rd"
        refine ⟨z2, 20, rfl, by decide, by decide, fun p3 ns3 H3 hp3 e3 hl3 hn3 sm3 => ?_⟩
        refine rd_cat (e3 _ _ hl) hl3 ?_ fun p4 hp4 => ?_
        · rw [List.length_map, List.length_map, hn]
          refine Nat.le_trans (show i * 20 + ns3.length ≤ 100000 by omega) (by decide)
        · walk_at "rd"
          refine ⟨p4, ms ++ ns3, _, _, rfl, ex_upd (e.trans e3) hp4, Evl.fresh_back (e.trans e3) hp4, ?_, ?_, sm.app sm3⟩
          · rw [upd_same, List.map_append]
          · rw [List.length_append, hn]; omega
      refine rd_ite (fun h4 => ?_) (fun h4 => ?_)
      · walk_at "rd"
        refine rd_mulN (.inr ⟨by decide, by decide⟩) ?_
        walk_at "rd1"
        walk_at "rd1"
        walk_at "rd1"
        walk_at "rd1"
        exact fin _ _ rfl
      · exact fin _ _ rfl
    · rintro σ H' ⟨p2, ms, kk, cc, rfl, e, hp2, hl, hn, sm⟩
      walk_at "rd"
      refine ⟨by show 2 ≤ sizeLine; decide, fun p3 hp3 => ?_⟩
      refine q p3 _ (Evl.fresh_back e hp3) (ex_upd e hp3) ⟨p2, ms, 0, upd_same, ?_, sm, by omega, by omega, by decide⟩
      rw [upd_ne (ne_of_none hl hp3)]
      exact hl
/-- the same list within -/
def SameIn (p : Addr) (H H' : Hp) : Prop := ∀ (l : Addr) (n : V), H p = some (.lst [.ref l, n]) → ∃ n', H' p = some (.lst [.ref l, n'])
theorem SameIn.trans {p : Addr} {H H1 H2 : Hp} (a : SameIn p H H1) (b : SameIn p H1 H2) : SameIn p H H2 := fun l n e => by
  obtain ⟨n1, e1⟩ := a l n e
  exact b l n1 e1
theorem SameIn.ex {p : Addr} {H H1 H2 : Hp} (a : SameIn p H H1) (b : Ex H1 H2) : SameIn p H H2 := fun l n e => by
  obtain ⟨n1, e1⟩ := a l n e
  exact ⟨n1, b _ _ e1⟩
/-- the next number below many: any -/
def spNext : Sp := fun vs H Q _ => ∃ (p : Addr) (many : Int), vs = [.ref p, .int many] ∧ 0 < many ∧ StAt H p ∧ ∀ (r : Int) (H' : Hp), 0 ≤ r → r < many → StAt H' p → (∀ b o, b ≠ p → H b = some o → H' b = some o) → ((∀ b, H b = none → H' b = none) ∧ SameIn p H H') → Q (.int r) H'
theorem ok_next (T : Txt K mg) : FnOk P w K mg base CX0 1 T.a_next T.d_next ["state", "many"] spNext := by
  refine T.f_next.ok sc_next (fun vs H Q E h => ?_) (fun cdv A outer s H vs Q E hr h => ?_)
  · obtain ⟨_, _, rfl, _⟩ := h; rfl
  · obtain ⟨p, many, rfl, hm, ⟨l, ns, place, h1, h2, sm, l0, l1, p0⟩, q⟩ := h
    have lp : l ≠ p := fun z => by
      rw [z, h1] at h2
      have y := HO.lst.inj (Option.some.inj h2)
      cases ns with
      | nil => cases l0
      | cons a r => cases y
    refine ⟨_, (pss_cons (ps_set (i := 2) sc_next.nd rfl (by first | exact Or.inl rfl | exact Or.inr rfl) (pe_ix (kIx K) (pv 0) pe_int (fun _ _ => rfl)))
  (pss_cons (ps_set (i := 3) sc_next.nd rfl (by first | exact Or.inl rfl | exact Or.inr rfl) (pe_ix (kIx K) (pv 0) pe_int (fun _ _ => rfl)))
  (pss_cons (ps_asg (pe_op (kAdd K) (pv 3) pe_int) (pg_sub (pv 0) pe_int set_list))
  (pss_one (ps_ret (pe_op op_modP (pe_callTy call_intP (by rfl) T.nb_int (by decide +kernel) (pa_cons (pe_op (kAdd K) (pe_ix (kIx K) (pv 2) (pe_op op_modP (pv 3) (pe_callB (kLen K) (by rfl) T.nb_len (by decide +kernel) (pa_cons (pv 2) pa_nil))) (fun _ _ => rfl)) (pe_op op_mulPP (pe_op op_divP (pv 3) (pe_callB (kLen K) (by rfl) T.nb_len (by decide +kernel) (pa_cons (pv 2) pa_nil))) pe_int)) pa_nil)) (pv 1))))))), ?_⟩
    walk_at "rd"
    refine rd_ixL (v := .ref l) (SqL.of h1) (atI_nat (j := 0) rfl) ?_
    walk_at "rd"
    refine rd_ixL (v := .int place) (SqL.of h1) (atI_nat (j := 1) rfl) ?_
    walk_at "rd"
    refine ⟨p, _, 1, 1, rfl, rfl, h1, rfl, ?_⟩
    have h2' : upd H p (.lst (([.ref l, .int place] : List V).set 1 (.int (place + 1)))) l = some (.lst (ns.map V.int)) := by rw [upd_ne lp]; exact h2
    have hq : SqL K (upd H p (.lst (([.ref l, .int place] : List V).set 1 (.int (place + 1))))) l (ns.map V.int) := SqL.of h2'
    walk_at "rd"
    have lz : ((ns.map V.int).length : Int) = ns.length := by rw [List.length_map]
    refine rd_modI (by rw [lz]; omega) ?_
    rw [lz]
    have fm := fmod_small (a := place) (m := (ns.length : Int)) (by omega)
    have e : place.fmod (ns.length : Int) = ((place.fmod (ns.length : Int)).toNat : Int) := (Int.toNat_of_nonneg fm.1).symm
    refine rd_ixL (v := .int (ns.getD (place.fmod (ns.length : Int)).toNat 0)) hq ?_ ?_
    · rw [e]
      refine atI_nat ?_
      rw [List.getElem?_map, Int.toNat_natCast, List.getD_eq_getElem?_getD, List.getElem?_eq_getElem (show (place.fmod (ns.length : Int)).toNat < ns.length by omega)]
      rfl
    · walk_at "rd"
      refine rd_divI ⟨by rw [lz]; omega, by rw [lz]; omega⟩ ?_
      walk_at "rd"
      refine rd_mulN (.inr ⟨by decide, by decide⟩) ?_
      walk_at "rd"
      refine rd_modI (by omega) ?_
      have fr := fun a : Int => fmod_small (a := a) (m := many) hm
      refine q _ _ (fr _).1 (fr _).2 ⟨l, ns, place + 1, upd_same, h2', sm, l0, l1, by omega⟩ (fun b o hb ho => ?_) ⟨fun b hb => ?_, fun l' n' e => ⟨.int (place + 1), ?_⟩⟩
      · rw [upd_ne hb]; exact ho
      · rw [upd_ne (fun z => by rw [z, h1] at hb; cases hb)]; exact hb
      · rw [h1] at e
        have e2 := HO.lst.inj (Option.some.inj e)
        rw [upd_same, ← (List.cons.inj e2).1]
        rfl
/-! ### letters and texts -/
theorem ok_init (T : Txt K mg) : FnOk P w K mg base CX0 1 T.a_init T.d_init ["self", "what"] (spInit K) := by
  refine T.f_init.ok sc_init (fun vs H Q E h => ?_) (fun cdv A outer s H vs Q E hr h => ?_)
  · obtain ⟨_, _, _, rfl, _⟩ := h; rfl
  · obtain ⟨a, C, v, rfl, T1, nw, ha, q⟩ := h
    refine ⟨_, pss_one (ps_ost (pv 0) (pv 1)), ?_⟩
    exact ⟨_, rfl, _, rfl, a, C, rfl, T1, nw, .inl ⟨ha, q⟩⟩
/-! ### drawn letters -/
/-- the state at p goes on; what stood stands -/
structure Dr (p : Addr) (H H' : Hp) : Prop where
  st : StAt H' p
  old : ∀ b o, b ≠ p → H b = some o → H' b = some o
  inn : SameIn p H H'
theorem Dr.trans {p : Addr} {H H1 H2 : Hp} (a : Dr p H H1) (b : Dr p H1 H2) : Dr p H H2 := ⟨b.st, fun c o hc q => b.old c o hc (a.old c o hc q), a.inn.trans b.inn⟩
theorem Dr.ex {p : Addr} {H H1 H2 : Hp} (a : Dr p H H1) (e : Ex H1 H2) : Dr p H H2 := ⟨a.st.ex e, fun c o hc q => e c o (a.old c o hc q), a.inn.ex e⟩
theorem Dr.refl {p : Addr} {H : Hp} (h : StAt H p) : Dr p H H := ⟨h, fun _ _ _ q => q, fun _ n e => ⟨n, e⟩⟩
theorem StAt.some {H : Hp} {p : Addr} (h : StAt H p) : ∃ o, H p = some o := by
  obtain ⟨l, ns, pl, h1, _⟩ := h
  exact ⟨_, h1⟩
/-- new since H0: all of H0 stands -/
theorem Dr.from {p : Addr} {H0 H H' : Hp} (e : Ex H0 H) (hp : H0 p = none) (d : Dr p H H') : Ex H0 H' := fun b o q => d.old b o (ne_of_none q hp) (e b o q)
abbrev PL : Str := "abcdefghijklmnopqrstuvwxyzABCDEFGHIJKLMNOPQRSTUVWXYZ0123456789<>=:_@#"
theorem okS_PL : okS PL := by unfold okS; decide +kernel
theorem pl_len : PL.length = 69 := by decide +kernel
theorem okS_nil : okS "" := by unfold okS; decide +kernel
theorem str_len (x y : Str) : (x ++ y).length = x.length + y.length := by
  rw [TL.len_tl, TL.len_tl, TL.len_tl, TL.tl_append, List.length_append]
theorem at_str {z : Str} {r : Int} (h0 : 0 ≤ r) (h : r < z.length) : ∃ c, atI z.cps.toList r = some c ∧ c ∈ z.cps.toList := by
  obtain ⟨n, rfl⟩ := Int.eq_ofNat_of_zero_le h0
  have hl : n < z.cps.toList.length := by
    have : z.cps.toList.length = z.length := rfl
    omega
  exact ⟨z.cps.toList[n], atI_nat (List.getElem?_eq_getElem hl), List.getElem_mem hl⟩
/-- an alphabet of at most so many letters -/
structure Alpha (z : Str) (most : Nat) : Prop where
  l0 : 0 < z.length
  l1 : z.length ≤ most
  ok : okS z
  nd : z.cps.toList.Nodup
  pl : ∀ c ∈ z.cps.toList, c ∈ PL.cps.toList
def spLetters : Sp := fun vs H Q _ => ∃ (p : Addr) (most : Nat), vs = [.ref p, .int (most : Int)] ∧ 0 < most ∧ most ≤ 100 ∧ StAt H p ∧ ∀ (z : Str) (H' : Hp), Alpha z most → Dr p H H' → Q (.str z) H'
theorem ok_letters (T : Txt K mg) : FnOk P w K mg base CX0 2 T.a_letters T.d_letters ["state", "most"] spLetters := by
  refine T.f_letters.ok sc_letters (fun vs H Q E h => ?_) (fun cdv A outer s H vs Q E hr h => ?_)
  · obtain ⟨_, _, rfl, _⟩ := h; rfl
  · obtain ⟨p, most, rfl, h0, h1, hS, q⟩ := h
    refine ⟨_, (pss_cons (ps_set (i := 2) sc_letters.nd rfl (by first | exact Or.inl rfl | exact Or.inr rfl) pe_str)
  (pss_cons (ps_set (i := 3) sc_letters.nd rfl (by first | exact Or.inl rfl | exact Or.inr rfl) pe_str)
  (pss_cons (ps_for PassesOwn.never rfl (pi_range1 (by rfl) T.nb_range (pa_cons (pe_op (kAdd K) pe_int (pe_callE (ok_next T) (hr.mono (by decide)) T.o_next (pa_cons (pv 0) (pa_cons (pv 1) pa_nil)))) pa_nil)) (pg_name (i := 4) sc_letters.nd rfl (by first | exact Or.inl rfl | exact Or.inr rfl))
    (pss_cons (ps_set (i := 5) sc_letters.nd rfl (by first | exact Or.inl rfl | exact Or.inr rfl) (pe_ix (kIx K) (pv 2) (pe_callE (ok_next T) (hr.mono (by decide)) T.o_next (pa_cons (pv 0) (pa_cons pe_int pa_nil))) (fun _ _ => rfl)))
  (pss_one (ps_if (pt_cmpR (kNotIn K) (pv 5) (pv 3) (by first | rfl | exact nomark _))
    (pss_one (ps_set (i := 3) sc_letters.nd rfl (by first | exact Or.inl rfl | exact Or.inr rfl) (pe_op (kAdd K) (pv 3) (pv 5))))
    pss_nil))))
  (pss_one (ps_ret (pv 3)))))), ?_⟩
    walk_at "rc"
    walk_at "rs"
    walk_at "rc"
    refine ⟨p, most, rfl, by omega, hS, fun r H1 r0 r1 S1 k1 i1 => ?_⟩
    walk_at "rc"
    refine ⟨1 + r, rfl, by omega, by omega, fo_range (n := (1 + r).toNat) (fun i σ H' => ∃ (z : Str) (kk ll : Option V), σ = [some (.ref p), some (.int (most : Int)), some (.str PL), some (.str z), kk, ll] ∧ (0 < i → 0 < z.length) ∧ z.length ≤ i ∧ okS z ∧ z.cps.toList.Nodup ∧ (∀ c ∈ z.cps.toList, c ∈ PL.cps.toList) ∧ Dr p H H')
      ⟨"", none, none, rfl, fun z => absurd z (Nat.lt_irrefl 0), Nat.le_refl 0, okS_nil, List.nodup_nil, (fun c hc => nomatch hc), ⟨S1, k1, i1.2⟩⟩ ?_ ?_⟩
    · rintro i σ H' hi ⟨z, kk, ll, rfl, g0, g1, g2, g3, g4, g5⟩
      walk_at "rc"
      refine ⟨p, 69, rfl, by decide, g5.st, fun r2 H2 r20 r21 S2 k2 i2 => ?_⟩
      obtain ⟨c, hc, cm⟩ := at_str (z := PL) r20 (by rw [pl_len]; exact r21)
      refine rd_ixS (by rw [pl_len]; decide) hc ?_
      walk_at "rc"
      have d2 : Dr p H H2 := g5.trans ⟨S2, k2, i2.2⟩
      refine rd_iteN (fun h3 => ?_) (fun h3 => ?_)
      · walk_at "rc"
        refine rd_addS (Nat.le_trans (show z.length + 1 ≤ 1000 by omega) (by decide)) ?_
        walk_at "rc"
        have e : (z ++ (⟨#[c]⟩ : Str)).cps.toList = z.cps.toList ++ [c] := TL.tl_append z ⟨#[c]⟩
        refine ⟨_, _, _, rfl, fun _ => by rw [str_len]; exact Nat.succ_pos _, by rw [str_len]; exact Nat.succ_le_succ g1, okS_app g2 (okS_one okS_PL cm), ?_, fun d hd => ?_, d2⟩
        · rw [e]
          exact List.nodup_append.mpr ⟨g3, List.nodup_cons.mpr ⟨List.not_mem_nil, List.nodup_nil⟩, fun a ha b hb q => by
            rw [List.mem_singleton.mp hb] at q
            rw [q] at ha
            exact h3 ha⟩
        · rw [e] at hd
          rcases List.mem_append.mp hd with y | y
          · exact g4 d y
          · rw [List.mem_singleton.mp y]; exact cm
      · walk_at "rc"
        refine ⟨_, _, _, rfl, fun _ => ?_, Nat.le_succ_of_le g1, g2, g3, g4, d2⟩
        cases e : z.cps.toList with
        | nil => rw [e] at h3; cases h3
        | cons a l =>
          have e2 : z.length = z.cps.toList.length := rfl
          rw [e2, e]
          exact Nat.succ_pos _
    · rintro σ H' ⟨z, kk, ll, rfl, g0, g1, g2, g3, g4, g5⟩
      walk_at "rc"
      exact q z H' ⟨g0 (by omega), by omega, g2, g3, g4⟩ g5
/-! ### drawing, with data -/
/-- a list that was not there may change -/
theorem Dr.put {p r : Addr} {H H' : Hp} {o : HO} (hS : StAt H p) (d : Dr p H H') (hr : H r = none) : Dr p H (upd H' r o) := by
  obtain ⟨l, ns, pl, h1, h2, _⟩ := hS
  have nS : ∀ b u, b ≠ r → H' b = some u → upd H' r o b = some u := fun b u hb z => by rw [upd_ne hb]; exact z
  have rp : p ≠ r := ne_of_none h1 hr
  obtain ⟨n1, e1⟩ := d.inn l _ h1
  refine ⟨?_, fun b u hb z => nS _ _ (ne_of_none z hr) (d.old b u hb z), fun l2 n2 e2 => ?_⟩
  · obtain ⟨l3, ns3, pl3, g1, g2, g3⟩ := d.st
    rw [e1] at g1
    have e4 := (List.cons.inj (HO.lst.inj (Option.some.inj g1))).1
    have e5 : l = l3 := by cases e4; rfl
    subst e5
    refine ⟨l, ns3, pl3, nS _ _ rp ?_, nS _ _ (ne_of_none h2 hr) g2, g3⟩
    rw [e1, g1]
  · obtain ⟨n3, e3⟩ := d.inn l2 n2 e2
    exact ⟨n3, nS _ _ rp e3⟩
theorem Dr.back {p r : Addr} {H H' : Hp} (hS : StAt H p) (d : Dr p H H') (h : H' r = none) : H r = none := by
  cases q : H r with
  | none => rfl
  | some o =>
    by_cases e : r = p
    · subst e
      obtain ⟨o2, h2⟩ := d.st.some
      rw [h] at h2; cases h2
    · rw [d.old r o e q] at h; cases h
theorem Dr.kp {p : Addr} {S : List Addr} {H H' : Hp} (d : Dr p H H') (hp : p ∈ S) : Kp S H H' := fun b o hb q => d.old b o (fun z => hb (z ▸ hp)) q
theorem Dr.st' {p c : Addr} {H H' : Hp} (d : Dr p H H') (h : ∃ o, H c = some o) : ∃ o, H' c = some o := by
  obtain ⟨o, h⟩ := h
  by_cases e : c = p
  · rw [e]; exact d.st.some
  · exact ⟨o, d.old c o e h⟩
theorem tr_dr {p : Addr} {S : List Addr} {H : Hp} (hS : StAt H p) (hp : p ∈ S) : Tr S H (Dr p) :=
  ⟨Dr.refl hS, fun d => Dr.refl d.st, fun d h => d.st' h, fun a b => a.trans b, fun h d => d.put hS h, fun d => d.kp hp⟩
theorem map_ofD {α : Type} {f : α → PyData} {S : α → Prop} : ∀ (vs : List PyData), (∀ (i : Nat) v, vs[i]? = some v → ∃ a, v = f a ∧ S a) → ∃ as : List α, vs = as.map f ∧ ∀ a ∈ as, S a
  | [], _ => ⟨[], rfl, fun a h => by cases h⟩
  | v :: vs, h => by
    obtain ⟨a, e, s⟩ := h 0 v rfl
    obtain ⟨as, e2, s2⟩ := map_ofD vs fun i v hv => h (i + 1) v (by simpa using hv)
    exact ⟨a :: as, by rw [e, e2]; rfl, fun b hb => by
      rcases List.mem_cons.mp hb with z | z
      · rw [z]; exact s
      · exact s2 b z⟩
theorem rng_Y {n : Nat} : ∀ (i : Nat) (H : Hp) (x : V) (H' : Hp), i < n → (H' = H ∧ x = V.int (i : Nat)) → H' = H ∧ (x = V.int (i : Nat)) := fun _ _ _ _ _ y => y
/-! ### machines -/
/-- a list or a tuple of these values stands there -/
def SqA (K : PySem.W.Frag) (H : Hp) (a : Addr) (xs : List V) : Prop := SqL K H a xs ∨ SqT K H a xs
theorem SqA.ex {H H' : Hp} {a : Addr} {xs : List V} (h : SqA K H a xs) (e : Ex H H') : SqA K H' a xs := h.elim (fun z => .inl (Evl.ex_l e z)) fun z => .inr (Evl.ex_t e z)
/-- rows of ints: where each stands -/
inductive RowsA (K : PySem.W.Frag) (H : Hp) : List Addr → List (List Int) → Prop
  | nil : RowsA K H [] []
  | cons {r : Addr} {rs : List Addr} {ns : List Int} {tab : List (List Int)} : SqA K H r (ns.map V.int) → RowsA K H rs tab → RowsA K H (r :: rs) (ns :: tab)
inductive RowsT (K : PySem.W.Frag) (H : Hp) : List Addr → List (List Int) → Prop
  | nil : RowsT K H [] []
  | cons {r : Addr} {rs : List Addr} {ns : List Int} {tab : List (List Int)} : SqT K H r (ns.map V.int) → RowsT K H rs tab → RowsT K H (r :: rs) (ns :: tab)
theorem RowsA.len {H : Hp} : ∀ {rs : List Addr} {tab : List (List Int)}, RowsA K H rs tab → rs.length = tab.length
  | _, _, .nil => rfl
  | _, _, .cons _ t => congrArg Nat.succ t.len
theorem RowsT.len {H : Hp} : ∀ {rs : List Addr} {tab : List (List Int)}, RowsT K H rs tab → rs.length = tab.length
  | _, _, .nil => rfl
  | _, _, .cons _ t => congrArg Nat.succ t.len
theorem RowsA.ex {H H' : Hp} (e : Ex H H') : ∀ {rs : List Addr} {tab : List (List Int)}, RowsA K H rs tab → RowsA K H' rs tab
  | _, _, .nil => .nil
  | _, _, .cons h t => .cons (h.ex e) (t.ex e)
theorem RowsT.ex {H H' : Hp} (e : Ex H H') : ∀ {rs : List Addr} {tab : List (List Int)}, RowsT K H rs tab → RowsT K H' rs tab
  | _, _, .nil => .nil
  | _, _, .cons h t => .cons (Evl.ex_t e h) (t.ex e)
theorem RowsA.get {H : Hp} : ∀ {rs : List Addr} {tab : List (List Int)} {i : Nat} {r : Addr}, RowsA K H rs tab → rs[i]? = some r → ∃ ns, tab[i]? = some ns ∧ SqA K H r (ns.map V.int)
  | _, _, _, _, .nil, e => by simp at e
  | _, _, 0, _, .cons h _, e => by simp at e; subst e; exact ⟨_, rfl, h⟩
  | _, _, i + 1, _, .cons _ t, e => by
    obtain ⟨ns, h1, h2⟩ := t.get (i := i) (by simpa using e)
    exact ⟨ns, by simpa using h1, h2⟩
theorem RowsT.get {H : Hp} : ∀ {rs : List Addr} {tab : List (List Int)} {i : Nat} {r : Addr}, RowsT K H rs tab → rs[i]? = some r → ∃ ns, tab[i]? = some ns ∧ SqT K H r (ns.map V.int)
  | _, _, _, _, .nil, e => by simp at e
  | _, _, 0, _, .cons h _, e => by simp at e; subst e; exact ⟨_, rfl, h⟩
  | _, _, i + 1, _, .cons _ t, e => by
    obtain ⟨ns, h1, h2⟩ := t.get (i := i) (by simpa using e)
    exact ⟨ns, by simpa using h1, h2⟩
theorem RowsT.get2 {H : Hp} : ∀ {rs : List Addr} {tab : List (List Int)} {i : Nat} {ns : List Int}, RowsT K H rs tab → tab[i]? = some ns → ∃ r, rs[i]? = some r ∧ SqT K H r (ns.map V.int)
  | _, _, _, _, .nil, e => by simp at e
  | _, _, 0, _, .cons h _, e => by simp at e; subst e; exact ⟨_, rfl, h⟩
  | _, _, i + 1, _, .cons _ t, e => by
    obtain ⟨r, h1, h2⟩ := t.get2 (i := i) (by simpa using e)
    exact ⟨r, by simpa using h1, h2⟩
/-- rows, one by one -/
theorem RowsT.of {H : Hp} : ∀ {tab : List (List Int)} {vs : List V}, vs.length = tab.length → (∀ (i : Nat) v, vs[i]? = some v → ∃ (r : Addr) (ns : List Int), v = V.ref r ∧ tab[i]? = some ns ∧ SqT K H r (ns.map V.int)) → ∃ rs, vs = rs.map V.ref ∧ RowsT K H rs tab
  | [], [], _, _ => ⟨[], rfl, .nil⟩
  | [], _ :: _, h, _ => by cases h
  | _ :: _, [], h, _ => by cases h
  | ns :: tab, v :: vs, h, g => by
    obtain ⟨r, ms, e1, e2, e3⟩ := g 0 v rfl
    have e2' : ns = ms := Option.some.inj e2
    subst e2'
    subst e1
    obtain ⟨rs, e4, e5⟩ := RowsT.of (tab := tab) (vs := vs) (Nat.succ.inj h) fun i v hv => g (i + 1) v (by simpa using hv)
    exact ⟨r :: rs, by rw [e4]; rfl, .cons e3 e5⟩
def mFields (ls : Str) (ta tt : Addr) : List (Str × V) := [("letters", .str ls), ("accepting", .ref ta), ("table", .ref tt)]
/-- a machine stands at m -/
def MachineAt (K : PySem.W.Frag) (C : Addr) (H : Hp) (m : Addr) (ls : Str) (acc : List Bool) (tab : List (List Int)) : Prop := ∃ (dx ta tt : Addr) (rs : List Addr), H m = some (.ins C dx (mFields ls ta tt)) ∧ SqT K H ta (acc.map V.bl) ∧ SqT K H tt (rs.map V.ref) ∧ RowsT K H rs tab
theorem MachineAt.ex {C : Addr} {H H' : Hp} {m : Addr} {ls : Str} {acc : List Bool} {tab : List (List Int)} (h : MachineAt K C H m ls acc tab) (e : Ex H H') : MachineAt K C H' m ls acc tab := by
  obtain ⟨dx, ta, tt, rs, h1, h2, h3, h4⟩ := h
  exact ⟨dx, ta, tt, rs, e _ _ h1, Evl.ex_t e h2, Evl.ex_t e h3, h4.ex e⟩
def goodM (ls : Str) (acc : List Bool) (tab : List (List Int)) : Prop := acc.length ≠ 0 ∧ tab.length = acc.length ∧ ∀ row ∈ tab, row.length = ls.length ∧ ∀ x ∈ row, 0 ≤ x ∧ x < (acc.length : Int)
/-- what stood is as it was, but at m -/
def But (m : Addr) (H H' : Hp) : Prop := ∀ b o, b ≠ m → H b = some o → H' b = some o
theorem But.ex {m : Addr} {H H' H2 : Hp} (h : But m H H') (e : Ex H' H2) : But m H H2 := fun b o hb q => e b o (h b o hb q)
theorem foldl_min_le (n : Int) : ∀ ns : List Int, (∀ x ∈ n :: ns, ns.foldl min n ≤ x) ∧ ns.foldl min n ∈ n :: ns
  | [] => ⟨fun x hx => by rw [List.mem_singleton.mp hx]; exact Int.le_refl _, List.mem_cons_self⟩
  | k :: ns => by
    have ih := foldl_min_le (min n k) ns
    rw [List.foldl_cons]
    have h0 := ih.1 _ List.mem_cons_self
    refine ⟨fun x hx => ?_, ?_⟩
    · rcases List.mem_cons.mp hx with e | hx
      · rw [e]; omega
      · rcases List.mem_cons.mp hx with e | hx
        · rw [e]; omega
        · exact ih.1 x (List.mem_cons_of_mem _ hx)
    · rcases List.mem_cons.mp ih.2 with e | e
      · rw [e]
        rcases Int.le_total n k with z | z
        · rw [Int.min_eq_left z]; exact List.mem_cons_self
        · rw [Int.min_eq_right z]; exact List.mem_cons_of_mem _ List.mem_cons_self
      · exact List.mem_cons_of_mem _ (List.mem_cons_of_mem _ e)
theorem foldl_max_ge (n : Int) : ∀ ns : List Int, (∀ x ∈ n :: ns, x ≤ ns.foldl max n) ∧ ns.foldl max n ∈ n :: ns
  | [] => ⟨fun x hx => by rw [List.mem_singleton.mp hx]; exact Int.le_refl _, List.mem_cons_self⟩
  | k :: ns => by
    have ih := foldl_max_ge (max n k) ns
    rw [List.foldl_cons]
    have h0 := ih.1 _ List.mem_cons_self
    refine ⟨fun x hx => ?_, ?_⟩
    · rcases List.mem_cons.mp hx with e | hx
      · rw [e]; omega
      · rcases List.mem_cons.mp hx with e | hx
        · rw [e]; omega
        · exact ih.1 x (List.mem_cons_of_mem _ hx)
    · rcases List.mem_cons.mp ih.2 with e | e
      · rw [e]
        rcases Int.le_total n k with z | z
        · rw [Int.max_eq_right z]; exact List.mem_cons_of_mem _ List.mem_cons_self
        · rw [Int.max_eq_left z]; exact List.mem_cons_self
      · exact List.mem_cons_of_mem _ (List.mem_cons_of_mem _ e)
section
variable (T : Txt K mg)
def spCheck : Sp := fun vs H Q E => ∃ (m : Addr) (ls : Str) (acc : List Bool) (tab : List (List Int)), vs = [.ref m] ∧ 0 < ls.length ∧ ls.length ≤ 1000000 ∧ MachineAt K T.C_Machine H m ls acc tab ∧ (goodM ls acc tab → Q .non H) ∧ (¬ goodM ls acc tab → ∀ d, H d = none → E (.ref T.C_BadMachine) (some d) (upd H d (.xd [("what", .non)])))
theorem ok_Machine_check : FnOk P w K mg base (L2.CX P w) 4 T.a_Machine_check T.d_Machine_check ["self"] (spCheck T) := by
  refine T.f_Machine_check.okX sc_Machine_check (fun vs H Q E h => ?_) (fun cdv A outer s H vs Q E hr h => ?_)
  · obtain ⟨_, _, _, _, rfl, _⟩ := h; rfl
  · obtain ⟨m, ls, acc, tab, rfl, l0, l1, ⟨dx, ta, tt, rs, hm, hA, hT, hR⟩, qy, qn⟩ := h
    have lz : ls.length ≤ sizeLine := Nat.le_trans l1 (by decide)
    have rl := hR.len
    refine ⟨_, (pss_cons (ps_set (i := 1) sc_Machine_check.nd rfl (by first | exact Or.inl rfl | exact Or.inr rfl) (pe_callB (kLen K) (by rfl) T.nb_len (by decide +kernel) (pa_cons (kFld K rfl (pe_fld (pv 0) rfl)) pa_nil)))
  (pss_cons (ps_if (PW.pt (pw_or (pt_cmpR (kEq K rfl hr.units) (pv 1) pe_int (by first | rfl | exact nomark _)) (pw_or1 (pt_cmpR (kNe K rfl hr.units) (pe_callB (kLen K) (by rfl) T.nb_len (by decide +kernel) (pa_cons (kFld K rfl (pe_fld (pv 0) rfl)) pa_nil)) (pv 1) (by first | rfl | exact nomark _)))))
    (pss_one (ps_raiseW rfl T.x_BadMachine (ok_init T) T.tI T.bI (hr.mono (by decide)) T.g_BadMachine (takes_of rfl rfl rfl rfl) (pa_cons pe_non pa_nil) (MonoA.one mono_c)))
    pss_nil)
  (pss_one (ps_for (passes_of rfl) rfl (kAny K rfl (kFld K rfl (pe_fld (pv 0) rfl))) (pg_name (i := 2) sc_Machine_check.nd rfl (by first | exact Or.inl rfl | exact Or.inr rfl))
    (pss_one (ps_if (PW.pt (pw_or (pt_cmpR (kNe K rfl hr.units) (pe_callB (kLen K) (by rfl) T.nb_len (by decide +kernel) (pa_cons (pv 2) pa_nil)) (pe_callB (kLen K) (by rfl) T.nb_len (by decide +kernel) (pa_cons (kFld K rfl (pe_fld (pv 0) rfl)) pa_nil)) (by first | rfl | exact nomark _)) (pw_or (pt_cmpR op_ltP (pe_callB (kMin K rfl hr.units) (by rfl) T.nb_min (by decide +kernel) (pa_cons (pv 2) pa_nil)) pe_int (by first | rfl | exact nomark _)) (pw_or1 (pt_cmpR op_geP (pe_callB (kMax K rfl hr.units) (by rfl) T.nb_max (by decide +kernel) (pa_cons (pv 2) pa_nil)) (pv 1) (by first | rfl | exact nomark _))))))
    (pss_one (ps_raiseW rfl T.x_BadMachine (ok_init T) T.tI T.bI (hr.mono (by decide)) T.g_BadMachine (takes_of rfl rfl rfl rfl) (pa_cons pe_non pa_nil) (MonoA.one mono_c)))
    pss_nil)))))), ?_⟩
    walk_at "rc"
    refine ⟨m, T.C_Machine, dx, _, _, rfl, hm, T.cl_Machine, T.na_Machine_accepting, rfl, ?_⟩
    walk_at "rc"
    walk_at "rs"
    walk_at "rc"
    refine rd_iteD (fun h1 => ?_) (fun h1 => ?_)
    · walk_at "rc"
      exact qn fun g => g.1 (by rw [List.length_map] at h1; omega)
    · walk_at "rc"
      refine ⟨m, T.C_Machine, dx, _, _, rfl, hm, T.cl_Machine, T.na_Machine_table, rfl, ?_⟩
      walk_at "rc"
      refine rd_iteN (fun h2 => ?_) (fun h2 => ?_)
      · walk_at "rc"
        exact qn fun g => h2 (by rw [List.length_map, List.length_map, rl, g.2.1])
      · rw [List.length_map, List.length_map, rl] at h2
        walk_at "rc"
        refine rd_anyT (a := tt) (xs := rs.map V.ref) (fun Q q => ?_) hT (fo_tup (fun i σ H' => (∃ v, σ = [some (.ref m), some (.int ((acc.map V.bl).length : Nat)), v]) ∧ H' = H ∧ ∀ row ∈ tab.take i, row.length = ls.length ∧ ∀ x ∈ row, 0 ≤ x ∧ x < (acc.length : Int)) ⟨⟨none, rfl⟩, rfl, fun row hrow => by rw [List.take_zero] at hrow; cases hrow⟩ (fun i σ H' _ p => by rw [p.2.1]; exact hT) ?_ ?_)
        · walk_at "rc"
          exact ⟨m, T.C_Machine, dx, _, _, rfl, hm, T.cl_Machine, T.na_Machine_table, rfl, q⟩
        · rintro i x σ H' hi ⟨⟨v, rfl⟩, rfl, hp⟩
          rw [List.getElem?_map] at hi
          cases hri : rs[i]? with
          | none => rw [hri] at hi; cases hi
          | some r =>
            rw [hri] at hi
            obtain rfl : V.ref r = x := Option.some.inj hi
            obtain ⟨ns, ht, hs⟩ := hR.get hri
            have hmem : ns ∈ tab := List.mem_of_getElem? ht
            walk_at "rc"
            refine ⟨m, T.C_Machine, dx, _, _, rfl, hm, T.cl_Machine, T.na_Machine_letters, rfl, ?_⟩
            walk_at "rc"
            refine rd_lenS lz ?_
            walk_at "rc"
            refine rd_iteN (fun h3 => ?_) (fun h3 => ?_)
            · walk_at "rc"
              exact qn fun g => h3 (by rw [List.length_map, (g.2.2 ns hmem).1])
            · rw [List.length_map] at h3
              walk_at "rc"
              cases ns with
              | nil => have z : (0 : Int) = ls.length := h3; omega
              | cons n0 ns =>
                have mn := foldl_min_le n0 ns
                have mx := foldl_max_ge n0 ns
                refine ⟨r, n0, ns, rfl, hs, ?_⟩
                walk_at "rc"
                refine rd_iteD (fun h4 => ?_) (fun h4 => ?_)
                · walk_at "rc"
                  exact qn fun g => by have := ((g.2.2 _ hmem).2 _ mn.2).1; omega
                · walk_at "rc"
                  refine ⟨r, n0, ns, rfl, hs, ?_⟩
                  walk_at "rc"
                  rw [List.length_map]
                  refine rd_iteD (fun h5 => ?_) (fun h5 => ?_)
                  · walk_at "rc"
                    exact qn fun g => by have := ((g.2.2 _ hmem).2 _ mx.2).2; omega
                  · walk_at "rc"
                    refine ⟨⟨_, rfl⟩, rfl, fun row hrow => ?_⟩
                    rw [List.take_succ, ht] at hrow
                    rcases List.mem_append.mp hrow with z | z
                    · exact hp row z
                    · have e : row = n0 :: ns := by simpa using z
                      rw [e]
                      exact ⟨by omega, fun x hx => ⟨by have := mn.1 x hx; omega, by have := mx.1 x hx; omega⟩⟩
        · rintro σ H' ⟨⟨v, rfl⟩, rfl, hp⟩
          rw [List.length_map, rl, List.take_length] at hp
          exact qy ⟨fun z => h1 (by rw [List.length_map, z]; rfl), by omega, hp⟩
/-- Machine(letters, accepting, table) -/
def spMInit : Sp := fun vs H Q E => ∃ (m dx pa pt : Addr) (ls : Str) (acc : List Bool) (rs : List Addr) (tab : List (List Int)), vs = [.ref m, .str ls, .ref pa, .ref pt] ∧ 0 < ls.length ∧ ls.length ≤ 1000000 ∧ H m = some (.ins T.C_Machine dx []) ∧
  SqA K H pa (acc.map V.bl) ∧ SqA K H pt (rs.map V.ref) ∧ RowsA K H rs tab ∧ tab.length < 100000 ∧
  (goodM ls acc tab → ∀ H', But m H H' → MachineAt K T.C_Machine H' m ls acc tab → (SqL K H pa (acc.map V.bl) → ∃ dx' ta tt, H' m = some (.ins T.C_Machine dx' (mFields ls ta tt)) ∧ TupF H' ta (acc.map V.bl)) → Q .non H') ∧ (¬ goodM ls acc tab → ∀ d H', But m H H' → H d = none → H' d = some (.xd [("what", .non)]) → E (.ref T.C_BadMachine) (some d) H')
theorem SqA.tup {pa : Addr} {xs : List V} {H : Hp} {Q : VK} (h : SqA K H pa xs) (q : ∀ ta H', Ex H H' → SqT K H' ta xs → (∀ b, H b = none ∧ H' b ≠ none → b = ta) → Q (.ref ta) H') : cTupOf K [.ref pa] H Q := by
  rcases h with h | h
  · refine rd_tupL h fun l hl => q l _ (Evl.Ex.new hl) (Evl.st_of upd_same) fun b hb => ?_
    by_cases e : b = l
    · exact e
    · rw [upd_ne e] at hb
      exact absurd hb.1 hb.2
  · exact rd_tupT h (q pa _ (Evl.Ex.refl H) h fun b hb => absurd hb.1 hb.2)
theorem SqA.tupF {pa : Addr} {xs : List V} {H : Hp} {Q : VK} (h : SqA K H pa xs) (q : ∀ ta H', Ex H H' → SqT K H' ta xs → (SqL K H pa xs → TupF H' ta xs) → Q (.ref ta) H') : cTupOf K [.ref pa] H Q ∨ cTupF K [.ref pa] H Q := by
  by_cases z : SqL K H pa xs
  · refine .inr ⟨pa, xs, rfl, z, fun l o hl hc hd => ?_⟩
    have tf : TupF (upd H l (.frz o (.tup xs))) l xs := ⟨o, upd_same, hc, hd⟩
    exact q l _ (Evl.Ex.new hl) tf.sq fun _ => tf
  · exact .inl (h.tup fun ta H' e ht _ => q ta H' e ht fun y => absurd y z)
theorem But.of_upd {m : Addr} {H : Hp} {o : HO} : But m H (upd H m o) := fun b u hb q => by rw [upd_ne hb]; exact q
theorem But.trans {m : Addr} {H H1 H2 : Hp} (a : But m H H1) (b : But m H1 H2) : But m H H2 := fun c o hc q => b c o hc (a c o hc q)
theorem Ex.but {m : Addr} {H H' : Hp} (e : Ex H H') : But m H H' := fun b o _ q => e b o q
theorem But.sqt {m a : Addr} {H H' : Hp} {xs : List V} {o : HO} (k : But m H H') (hm : H m = some o) (no : ∀ ys, o ≠ .tup ys) (nf : ∀ ob u, o ≠ .frz ob u) (h : SqT K H a xs) : SqT K H' a xs := by
  rcases h with (h | ⟨ob, h⟩) | h
  · exact .inl (.inl (k _ _ (fun z => by rw [z, hm] at h; exact no _ (Option.some.inj h)) h))
  · exact .inl (.inr ⟨ob, k _ _ (fun z => by rw [z, hm] at h; exact nf _ _ (Option.some.inj h)) h⟩)
  · exact .inr h
theorem But.sql {m a : Addr} {H H' : Hp} {xs : List V} {o : HO} (k : But m H H') (hm : H m = some o) (no : ∀ ys, o ≠ .lst ys) (nf : ∀ ob u, o ≠ .frz ob u) (h : SqL K H a xs) : SqL K H' a xs := by
  rcases h with (h | ⟨ob, h⟩) | h
  · exact .inl (.inl (k _ _ (fun z => by rw [z, hm] at h; exact no _ (Option.some.inj h)) h))
  · exact .inl (.inr ⟨ob, k _ _ (fun z => by rw [z, hm] at h; exact nf _ _ (Option.some.inj h)) h⟩)
  · exact .inr h
theorem But.sqa {m a C dx : Addr} {H H' : Hp} {xs : List V} {fs : List (Str × V)} (k : But m H H') (hm : H m = some (.ins C dx fs)) (h : SqA K H a xs) : SqA K H' a xs :=
  h.elim (fun z => .inl (k.sql hm (fun _ z => by cases z) (fun _ _ z => by cases z) z)) fun z => .inr (k.sqt hm (fun _ z => by cases z) (fun _ _ z => by cases z) z)
theorem But.rowsA {m C dx : Addr} {H H' : Hp} {fs : List (Str × V)} (k : But m H H') (hm : H m = some (.ins C dx fs)) : ∀ {rs : List Addr} {tab : List (List Int)}, RowsA K H rs tab → RowsA K H' rs tab
  | _, _, .nil => .nil
  | _, _, .cons h t => .cons (k.sqa hm h) (k.rowsA hm t)
theorem But.rowsT {m C dx : Addr} {H H' : Hp} {fs : List (Str × V)} (k : But m H H') (hm : H m = some (.ins C dx fs)) : ∀ {rs : List Addr} {tab : List (List Int)}, RowsT K H rs tab → RowsT K H' rs tab
  | _, _, .nil => .nil
  | _, _, .cons h t => .cons (k.sqt hm (fun _ z => by cases z) (fun _ _ z => by cases z) h) (k.rowsT hm t)
theorem sqt_hide {L r : Addr} {H : Hp} {xs vs : List V} (hL : H L = some (.lst vs)) (h : SqT K H r xs) : SqT K (hide L H) r xs := by
  rcases h with (h | ⟨ob, h⟩) | h
  · exact .inl (.inl (by rw [hide_ne (fun z => by rw [z, hL] at h; cases h)]; exact h))
  · exact .inl (.inr ⟨ob, by rw [hide_ne (fun z => by rw [z, hL] at h; cases h)]; exact h⟩)
  · exact .inr h
theorem RowsA.get2 {H : Hp} : ∀ {rs : List Addr} {tab : List (List Int)} {i : Nat}, RowsA K H rs tab → i < rs.length → ∃ r ns, rs[i]? = some r ∧ tab[i]? = some ns ∧ SqA K H r (ns.map V.int)
  | _, _, _, .nil, e => by cases e
  | _, _, 0, .cons h _, _ => ⟨_, _, rfl, rfl, h⟩
  | _, _, i + 1, .cons _ t, e => by
    obtain ⟨r, ns, h1, h2, h3⟩ := t.get2 (i := i) (Nat.lt_of_succ_lt_succ e)
    exact ⟨r, ns, by simpa using h1, by simpa using h2, h3⟩
/-- [tuple(row) for row in table] -/
theorem lc_rows {j : Nat} {σ : L2.St} {H : Hp} {Q : VK} {pt : Addr} {rs : List Addr} {tab : List (List Int)} {te : TE} (he : ∀ Q : VK, Q (.ref pt) H → te σ H Q) (hj : ∀ v : V, ((wipe σ [j]).set j (some v))[j]? = some (some v)) (hn : tab.length < 100000) (hT : SqA K H pt (rs.map V.ref)) (hR : RowsA K H rs tab)
    (h : ∀ L rs2 Hc, H L = none → Ex H Hc → Hc L = some (.lst (rs2.map V.ref)) → RowsT K (hide L Hc) rs2 tab → Q (.ref L) Hc) : iAny K te σ H (lcB (gName j) tYes (tCB (cTupOf K) (tCons (tVar j) tNil)) [j] σ Q) := by
  have rl := hR.len
  have xl : (rs.map V.ref).length = rs.length := List.length_map ..
  have el : ∀ L i Hc, i < (rs.map V.ref).length → H L = none → (∃ vs, Hc L = some (.lst vs)) → Ex H Hc → ∀ N : VK, (∀ v H2, Ex Hc H2 → (∃ (r : Addr) (ns : List Int), v = V.ref r ∧ tab[i]? = some ns ∧ SqT K (hide L H2) r (ns.map V.int)) → N v H2) →
      tCB (cTupOf K) (tCons (tVar j) tNil) ((wipe σ [j]).set j (some ((rs.map V.ref).getD i .non))) Hc N := by
    intro L i Hc hi hL ⟨vs, hv⟩ e N hN
    rw [xl] at hi
    obtain ⟨r, ns, h1, h2, h3⟩ := hR.get2 hi
    have ex : (rs.map V.ref).getD i .non = .ref r := by rw [List.getD_eq_getElem?_getD, List.getElem?_map, h1]; rfl
    rw [ex]
    refine ⟨_, hj _, ?_⟩
    rcases h3.ex e with h3 | h3
    · refine rd_tupL h3 fun l hl => hN _ _ (Evl.Ex.new hl) ⟨l, ns, rfl, h2, ?_⟩
      refine .inl (.inl ?_)
      rw [hide_ne (Ne.symm (ne_of_none hv hl)), upd_same]
    · exact rd_tupT h3 (hN _ _ (Evl.Ex.refl _) ⟨r, ns, rfl, h2, sqt_hide hv h3⟩)
  have fin : ∀ L vs Hc, H L = none → Ex H Hc → Hc L = some (.lst vs) → vs.length = (rs.map V.ref).length → (∀ (i : Nat) v, vs[i]? = some v → ∃ (r : Addr) (ns : List Int), v = V.ref r ∧ tab[i]? = some ns ∧ SqT K (hide L Hc) r (ns.map V.int)) → Q (.ref L) Hc := by
    intro L vs Hc hL e hv hl g
    obtain ⟨rs2, rfl, h2⟩ := RowsT.of (tab := tab) (by rw [hl, xl, rl]) g
    exact h L rs2 Hc hL e hv h2
  have yl : ∀ (i : Nat) (H : Hp) (x : V) (H' : Hp), i < (rs.map V.ref).length → YAt (rs.map V.ref) i H x H' → H' = H ∧ x = (rs.map V.ref).getD i .non := fun i H x H' _ y => ⟨y.1, by rw [List.getD_eq_getElem?_getD, y.2]; rfl⟩
  have mR : ∀ (i : Nat) (v : V) (H1 H2 : Hp), Ex H1 H2 → (∃ (r : Addr) (ns : List Int), v = V.ref r ∧ tab[i]? = some ns ∧ SqT K H1 r (ns.map V.int)) → ∃ (r : Addr) (ns : List Int), v = V.ref r ∧ tab[i]? = some ns ∧ SqT K H2 r (ns.map V.int) := fun i v H1 H2 e ⟨r, ns, a, b, c⟩ => ⟨r, ns, a, b, Evl.ex_t e c⟩
  rcases hT with hT | hT
  · exact rd_anyL he hT (lc_new (fun i v H => ∃ (r : Addr) (ns : List Int), v = V.ref r ∧ tab[i]? = some ns ∧ SqT K H r (ns.map V.int)) walk_list yl (by rw [xl, rl]; exact hn) (fun Hc e => Evl.ex_l e hT) mR el fin)
  · exact rd_anyT he hT (lc_new (fun i v H => ∃ (r : Addr) (ns : List Int), v = V.ref r ∧ tab[i]? = some ns ∧ SqT K H r (ns.map V.int)) walk_tup yl (by rw [xl, rl]; exact hn) (fun Hc e => Evl.ex_t e hT) mR el fin)
theorem ok_Machine_init : FnOk P w K mg base (L2.CX P w) 5 T.a_Machine_init T.d_Machine_init ["self", "letters", "accepting", "table"] (spMInit T) := by
  refine T.f_Machine_init.okX sc_Machine_init (fun vs H Q E h => ?_) (fun cdv A outer s H vs Q E hr h => ?_)
  · obtain ⟨_, _, _, _, _, _, _, _, rfl, _⟩ := h; rfl
  · obtain ⟨m, dx, pa, pt, ls, acc, rs, tab, rfl, l0, l1, hm, hA, hT, hR, hn, qy, qn⟩ := h
    refine ⟨_, (pss_cons (kSf K rfl (ps_fld (pv 0) (pv 1) rfl))
  (pss_cons (kSf K rfl (ps_fld (pv 0) (pe_callTy (CallR.or (kTupOf K) (kTupF K)) (by rfl) T.nb_tuple (by decide +kernel) (pa_cons (pv 2) pa_nil)) rfl))
  (pss_cons (kSf K rfl (ps_fld (pv 0) (pe_callTy (kTupOf K) (by rfl) T.nb_tuple (by decide +kernel) (pa_cons (pe_lc (own := [("row", 4)]) (g := gName 4) (tt := tYes) (by rfl) sc_Machine_init.nd (kAny K rfl (pv 3)) (blkOk_by (own := [("row", 4)]) (N := ["self", "letters", "accepting", "table", "row"]) (sc := defScope s_Machine_init) (by decide +kernel)) (fun _ _ _ _ _ => (pg_name (i := 4) sc_Machine_init.nd rfl (by first | exact Or.inl rfl | exact Or.inr rfl))) (fun _ _ _ _ _ => pts_nil) (fun _ _ _ _ _ => (pe_callTy (kTupOf K) (by rfl) T.nb_tuple (by decide +kernel) (pa_cons (pv 4) pa_nil)))) pa_nil)) rfl))
  (pss_one (ps_expr (pe_methR0 T.m_Machine_check T.cl_Machine (pv 0) (ok_Machine_check T) (hr.mono (by decide)) T.b_Machine_check (takes_of rfl rfl rfl rfl))))))), ?_⟩
    walk_at "rs"
    walk_at "rc"
    refine ⟨m, T.C_Machine, dx, [], rfl, hm, T.cl_Machine, T.na_Machine_letters, by show 0 < 1000; decide, ?_⟩
    have k1 : But m H (upd H m (.ins T.C_Machine dx (putF "letters" (.str ls) []))) := But.of_upd
    generalize hH1 : upd H m (.ins T.C_Machine dx (putF "letters" (.str ls) [])) = H1 at k1
    have m1 : H1 m = some (.ins T.C_Machine dx [("letters", .str ls)]) := by rw [← hH1]; exact upd_same
    walk_at "rs"
    walk_at "rc"
    refine (k1.sqa hm hA).tupF fun ta H2 e2 hta htf => ?_
    have m2 := e2 _ _ m1
    walk_at "rc"
    refine ⟨m, T.C_Machine, dx, _, rfl, m2, T.cl_Machine, T.na_Machine_accepting, by show 1 < 1000; decide, ?_⟩
    have k3 : But m H2 (upd H2 m (.ins T.C_Machine dx (putF "accepting" (.ref ta) [("letters", .str ls)]))) := But.of_upd
    generalize hH3 : upd H2 m (.ins T.C_Machine dx (putF "accepting" (.ref ta) [("letters", .str ls)])) = H3 at k3
    have m3 : H3 m = some (.ins T.C_Machine dx [("letters", .str ls), ("accepting", .ref ta)]) := by rw [← hH3]; exact upd_same
    have ka : But m H H3 := (k1.ex e2).trans k3
    have hta3 : SqT K H3 ta (acc.map V.bl) := k3.sqt m2 (fun _ z => by cases z) (fun _ _ z => by cases z) hta
    walk_at "rs"
    walk_at "rc"
    refine lc_rows (fun Q q => ⟨_, rfl, q⟩) (fun v => rfl) hn (ka.sqa hm hT) (ka.rowsA hm hR) fun L rs2 Hc hL ec hLc hRc => ?_
    walk_at "rc"
    refine rd_tupL (SqL.of hLc) fun tt htt => ?_
    have e5 : Ex Hc (upd Hc tt (.tup (rs2.map V.ref))) := Evl.Ex.new htt
    have hRT := (hRc.ex hide_ex).ex e5
    generalize hH5 : upd Hc tt (.tup (rs2.map V.ref)) = H5 at e5 hRT
    have htt5 : SqT K H5 tt (rs2.map V.ref) := by rw [← hH5]; exact Evl.st_of upd_same
    have m5 := e5 _ _ (ec _ _ m3)
    walk_at "rc"
    refine ⟨m, T.C_Machine, dx, _, rfl, m5, T.cl_Machine, T.na_Machine_table, by show 2 < 1000; decide, ?_⟩
    have k6 : But m H5 (upd H5 m (.ins T.C_Machine dx (putF "table" (.ref tt) [("letters", .str ls), ("accepting", .ref ta)]))) := But.of_upd
    generalize hH6 : upd H5 m (.ins T.C_Machine dx (putF "table" (.ref tt) [("letters", .str ls), ("accepting", .ref ta)])) = H6 at k6
    have m6 : H6 m = some (.ins T.C_Machine dx (mFields ls ta tt)) := by rw [← hH6]; exact upd_same
    have kz : But m H H6 := ((ka.ex ec).ex e5).trans k6
    have ma : MachineAt K T.C_Machine H6 m ls acc tab := ⟨dx, ta, tt, rs2, m6, k6.sqt m5 (fun _ z => by cases z) (fun _ _ z => by cases z) (Evl.ex_t (ec.trans e5) hta3), k6.sqt m5 (fun _ z => by cases z) (fun _ _ z => by cases z) htt5, k6.rowsT m5 hRT⟩
    walk_at "rc"
    refine ⟨m, dx, _, rfl, m6, rfl, ?_⟩
    walk_at "rc"
    refine ⟨m, ls, acc, tab, rfl, l0, l1, ma, fun g => ?_, fun g d hd => ?_⟩
    · refine qy g H6 kz ma fun z => ⟨dx, ta, tt, m6, ?_⟩
      obtain ⟨o, z1, z2⟩ := htf (k1.sql hm (fun _ z => by cases z) (fun _ _ z => by cases z) z)
      have nm : ta ≠ m := fun y => by rw [y, m2] at z1; cases z1
      exact ⟨o, k6 ta _ nm ((ec.trans e5) _ _ (k3 ta _ nm z1)), z2⟩
    · refine qn g d _ (kz.ex (Evl.Ex.new hd)) ?_ upd_same
      cases q0 : H d with
      | none => rfl
      | some o =>
        by_cases hdm : d = m
        · rw [hdm, m6] at hd; cases hd
        · rw [kz d o hdm q0] at hd; cases hd
end
/-! ### states that are led to -/
def nI (n : Nat) : PyData := .int (n : Int)
/-- rows of numbers, in lists or in tuples -/
def RowsN (ds : List PyData) (tab : List (List Nat)) : Prop := ds.length = tab.length ∧ ∀ (i : Nat) d row, ds[i]? = some d → tab[i]? = some row → d = .list (row.map nI) ∨ d = .tuple (row.map nI)
structure Grf (tab : List (List Nat)) : Prop where
  n : tab.length ≤ 1000
  b : ∀ row ∈ tab, ∀ x ∈ row, x < tab.length
inductive Rch (tab : List (List Nat)) (st : List Nat) : Nat → Prop
  | st {s : Nat} : s ∈ st → Rch tab st s
  | go {s t : Nat} : Rch tab st s → t ∈ tab.getD s [] → Rch tab st t
theorem RowsN.get {K : PySem.W.Frag} {H : Hp} {ds : List PyData} {tab : List (List Nat)} {i : Nat} {d : PyData} {v : V} (h : RowsN ds tab) (hd : ds[i]? = some d) (q : Dp K H v d) : ∃ row, tab[i]? = some row ∧ tab.getD i [] = row ∧ SqD K H v (row.map nI) := by
  have hl : i < tab.length := by rw [← h.1]; exact (List.getElem?_eq_some_iff.mp hd).1
  have e : tab[i]? = some tab[i] := List.getElem?_eq_getElem hl
  refine ⟨_, e, by rw [List.getD_eq_getElem?_getD, e]; rfl, ?_⟩
  rcases h.2 i d _ hd e with z | z <;> subst z
  · exact .inl q
  · exact .inr q
theorem rd_ixSq {K : PySem.W.Frag} {H0 H : Hp} {x : V} {ds : List PyData} {i : Nat} {d : PyData} {Q : VK} (e : Ex H0 H) (h : SqD K H0 x ds) (hi : ds[i]? = some d) (q : ∀ v, Dp K H0 v d → Q v H) : rIx K x (.int (i : Int)) H Q := by
  rcases h with h | h
  · exact rd_ixDL e h hi q
  · exact rd_ixDT e h hi q
theorem sq_at {K : PySem.W.Frag} {H0 : Hp} {x : V} {ds : List PyData} {i : Nat} {d : PyData} (h : SqD K H0 x ds) (hi : ds[i]? = some d) : ∃ v, Dp K H0 v d ∧ ∀ H, Ex H0 H → ∀ Q : VK, Q v H → rIx K x (.int (i : Int)) H Q := by
  rcases h with h | h
  · obtain ⟨a, vs, rfl, h1, h2⟩ := Dp.lstv h
    obtain ⟨v, g1, g2⟩ := h2.get hi
    exact ⟨v, g2, fun H e Q q => rd_ixL (Evl.ex_l e h1) (atI_nat g1) q⟩
  · obtain ⟨a, vs, rfl, h1, h2⟩ := Dp.tupv h
    obtain ⟨v, g1, g2⟩ := h2.get hi
    exact ⟨v, g2, fun H e Q q => rd_ixT (Evl.ex_t e h1) (atI_nat g1) q⟩
theorem rd_lenSq {K : PySem.W.Frag} {H0 H : Hp} {x : V} {ds : List PyData} {Q : VK} (e : Ex H0 H) (h : SqD K H0 x ds) (q : Q (.int (ds.length : Int)) H) : cLen K [x] H Q := by
  rcases h with h | h
  · exact rd_lenDL e h q
  · exact rd_lenDT e h q
def vI (n : Nat) : V := .int (n : Int)
theorem dp_nats {K : PySem.W.Frag} {H : Hp} : ∀ {vs : List V} {ss : List Nat}, DpAll K H vs (ss.map nI) → vs = ss.map vI
  | _, [], .nil => rfl
  | _, s :: ss, .cons h t => by
    cases Dp.int_iff h
    rw [dp_nats t]
    rfl
theorem rep_bl (n : Nat) : (List.replicate n [V.bl false]).flatten = (List.replicate n false).map V.bl := by
  induction n with
  | zero => rfl
  | succ n ih =>
    rw [List.replicate_succ, List.flatten_cons, ih, List.replicate_succ]
    rfl
theorem rd_bm0 {K : PySem.W.Frag} {T : String} {r : V → List V → Hp → VK → Prop} {to : TE} {σ : L2.St} {H : Hp} {Q : VK} (h : to σ H fun x H1 => tyV K T x H1 ∧ r x [] H1 Q) : tBM0 K T r to σ H Q := h
/-- what is found, what waits -/
def nT (tab : List (List Nat)) : PyData := .tuple (tab.map fun row => .tuple (row.map nI))
def nL (tab : List (List Nat)) : PyData := .list (tab.map fun row => .list (row.map nI))
theorem rowsN_T (tab : List (List Nat)) : RowsN (tab.map fun row => .tuple (row.map nI)) tab := ⟨List.length_map .., fun i d row h1 h2 => by
  rw [List.getElem?_map, h2] at h1
  exact .inr (Option.some.inj h1).symm⟩
theorem rowsN_L (tab : List (List Nat)) : RowsN (tab.map fun row => .list (row.map nI)) tab := ⟨List.length_map .., fun i d row h1 h2 => by
  rw [List.getElem?_map, h2] at h1
  exact .inl (Option.some.inj h1).symm⟩
theorem getD_set {bk : List (List Nat)} {t : Nat} {r : List Nat} (h : t < bk.length) (u : Nat) : (bk.set t r).getD u [] = if u = t then r else bk.getD u [] := by
  rw [List.getD_eq_getElem?_getD, List.getD_eq_getElem?_getD]
  by_cases e : u = t
  · rw [if_pos e, e, List.getElem?_set_self h]; rfl
  · rw [if_neg e, List.getElem?_set_ne (Ne.symm e)]
/-! ### useful states -/
def MachD (K : PySem.W.Frag) (C : Addr) (H : Hp) (m : Addr) (ls : Str) (acc : List Bool) (tab : List (List Nat)) : Prop := ∃ dx ta tt, H m = some (.ins C dx (mFields ls ta tt)) ∧ Dp K H (.ref ta) (.tuple (acc.map PyData.bool)) ∧ Dp K H (.ref tt) (nT tab)
theorem MachD.ex {C : Addr} {H H' : Hp} {m : Addr} {ls : Str} {acc : List Bool} {tab : List (List Nat)} (h : MachD K C H m ls acc tab) (e : Ex H H') : MachD K C H' m ls acc tab := by
  obtain ⟨dx, ta, tt, h1, h2, h3⟩ := h
  exact ⟨dx, ta, tt, e _ _ h1, h2.ex e, h3.ex e⟩
inductive Lv (acc : List Bool) (tab : List (List Nat)) : Nat → Prop
  | st {s : Nat} : acc[s]? = some true → Lv acc tab s
  | go {s t : Nat} : t ∈ tab.getD s [] → Lv acc tab t → Lv acc tab s
structure GM (acc : List Bool) (tab : List (List Nat)) : Prop where
  p : 0 < acc.length
  e : tab.length = acc.length
  g : Grf tab
  w : ∀ row ∈ tab, row.length ≤ 100
def Usf (acc : List Bool) (tab : List (List Nat)) (s : Nat) : Prop := Rch tab [0] s ∧ Lv acc tab s
theorem Grf.at' {tab : List (List Nat)} (g : Grf tab) {s t : Nat} (h : t ∈ tab.getD s []) : s < tab.length ∧ t < tab.length := by
  rcases Nat.lt_or_ge s tab.length with hs | hs
  · have e : tab.getD s [] = tab[s] := by rw [List.getD_eq_getElem?_getD, List.getElem?_eq_getElem hs]; rfl
    rw [e] at h
    exact ⟨hs, g.b _ (List.getElem_mem hs) t h⟩
  · rw [List.getD_eq_getElem?_getD, List.getElem?_eq_none hs] at h
    cases h
theorem Rch.lt {tab : List (List Nat)} {st : List Nat} (g : Grf tab) (hst : ∀ s ∈ st, s < tab.length) {s : Nat} (h : Rch tab st s) : s < tab.length := by
  cases h with
  | st h => exact hst _ h
  | go _ h => exact (g.at' h).2
theorem Lv.lt {acc : List Bool} {tab : List (List Nat)} (m : GM acc tab) {s : Nat} (h : Lv acc tab s) : s < acc.length := by
  cases h with
  | st h => exact (List.getElem?_eq_some_iff.mp h).1
  | go h _ => rw [← m.e]; exact (m.g.at' h).1
def tabF (n w : Nat) (f : Nat → Nat → Nat) : List (List Nat) := (List.range n).map fun s => (List.range w).map (f s)
theorem tabF_mem {n w : Nat} {f : Nat → Nat → Nat} {s t : Nat} : t ∈ (tabF n w f).getD s [] ↔ s < n ∧ ∃ j, j < w ∧ f s j = t := by
  unfold tabF
  rw [List.getD_eq_getElem?_getD, List.getElem?_map]
  rcases Nat.lt_or_ge s n with h | h
  · rw [List.getElem?_range h]
    show t ∈ (List.range w).map (f s) ↔ _
    rw [List.mem_map]
    exact ⟨fun ⟨j, hj, e⟩ => ⟨h, j, List.mem_range.mp hj, e⟩, fun ⟨_, j, hj, e⟩ => ⟨j, List.mem_range.mpr hj, e⟩⟩
  · rw [List.getElem?_eq_none (by rw [List.length_range]; exact h)]
    exact ⟨fun z => (nomatch z), fun z => absurd z.1 (by omega)⟩
theorem tabF_gm {n w : Nat} {f : Nat → Nat → Nat} {acc : List Bool} (n0 : 0 < n) (n1 : n ≤ 1000) (w1 : w ≤ 100) (h : ∀ s j, s < n → j < w → f s j < n) (ha : acc.length = n) : GM acc (tabF n w f) ∧ ∀ row ∈ tabF n w f, row.length = w := by
  have hl : (tabF n w f).length = n := by unfold tabF; rw [List.length_map, List.length_range]
  have hw : ∀ row ∈ tabF n w f, row.length = w := fun row hr => by
    obtain ⟨s, _, rfl⟩ := List.mem_map.mp hr
    rw [List.length_map, List.length_range]
  refine ⟨⟨by omega, by omega, ⟨by omega, fun row hr x hx => ?_⟩, fun row hr => by rw [hw row hr]; exact w1⟩, hw⟩
  obtain ⟨s, hs, rfl⟩ := List.mem_map.mp hr
  obtain ⟨j, hj, rfl⟩ := List.mem_map.mp hx
  rw [hl]
  exact h s j (List.mem_range.mp hs) (List.mem_range.mp hj)
/-! ### machines out of data -/
def iN (row : List Nat) : List Int := row.map Int.ofNat
theorem dp_iN {H : Hp} {vs : List V} {row : List Nat} (h : DpAll K H vs (row.map nI)) : vs = (iN row).map V.int := by
  rw [dp_nats h]
  unfold iN
  rw [List.map_map]
  rfl
theorem rowsA_D {H : Hp} : ∀ {vs : List V} {tab : List (List Nat)}, DpAll K H vs (tab.map fun row => .list (row.map nI)) → ∃ rs, vs = rs.map V.ref ∧ RowsA K H rs (tab.map iN)
  | _, [], .nil => ⟨[], rfl, .nil⟩
  | _, row :: tab, .cons h t => by
    obtain ⟨rs, rfl, hr⟩ := rowsA_D t
    obtain ⟨a, vs, rfl, h1, h2⟩ := Dp.lstv h
    obtain rfl := dp_iN h2
    exact ⟨a :: rs, rfl, .cons (.inl h1) hr⟩
theorem dp_ofN {H : Hp} : ∀ (row : List Nat), DpAll K H ((iN row).map V.int) (row.map nI)
  | [] => .nil
  | _ :: row => .cons (.int _) (dp_ofN row)
theorem rowsT_D {H : Hp} : ∀ {rs : List Addr} {tab : List (List Nat)}, RowsT K H rs (tab.map iN) → DpAll K H (rs.map V.ref) (tab.map fun row => .tuple (row.map nI))
  | _, [], .nil => .nil
  | _, row :: tab, .cons h t => .cons (.tup h (dp_ofN row)) (rowsT_D t)
theorem MachineAt.D {C : Addr} {H : Hp} {m : Addr} {ls : Str} {acc : List Bool} {tab : List (List Nat)} (h : MachineAt K C H m ls acc (tab.map iN)) : MachD K C H m ls acc tab := by
  obtain ⟨dx, ta, tt, rs, h1, h2, h3, h4⟩ := h
  exact ⟨dx, ta, tt, h1, .tup h2 (dps_bl acc), .tup h3 (rowsT_D h4)⟩
theorem good_N {ls : Str} {acc : List Bool} {tab : List (List Nat)} (g : GM acc tab) (hw : ∀ row ∈ tab, row.length = ls.length) : goodM ls acc (tab.map iN) := by
  have gp := g.p
  refine ⟨by omega, by rw [List.length_map]; exact g.e, fun row hr => ?_⟩
  obtain ⟨r, hr2, rfl⟩ := List.mem_map.mp hr
  refine ⟨by unfold iN; rw [List.length_map]; exact hw r hr2, fun x hx => ?_⟩
  obtain ⟨n, hn, rfl⟩ := List.mem_map.mp hx
  have := g.g.b r hr2 n hn
  have := g.e
  have e : (Int.ofNat n) = (n : Int) := rfl
  rw [e]
  omega
theorem sqa_made {C x dx a : Addr} {H : Hp} (hx : H x = none) (hd : H dx = none) {xs : List V} (h : SqA K H a xs) : SqA K (upd (upd H dx (.own x)) x (.ins C dx [])) a xs :=
  h.ex fun b o q => by rw [upd_ne (ne_of_none q hx), upd_ne (ne_of_none q hd)]; exact q
section
variable (T : Txt K mg)
/-- its accepting, as it was made of a list -/
def MachF (C : Addr) (H : Hp) (m : Addr) (ls : Str) (acc : List Bool) : Prop := ∃ dx ta tt, H m = some (.ins C dx (mFields ls ta tt)) ∧ TupF H ta (acc.map V.bl)
theorem MachF.ex {C : Addr} {H H' : Hp} {m : Addr} {ls : Str} {acc : List Bool} (h : MachF C H m ls acc) (e : Ex H H') : MachF C H' m ls acc := by
  obtain ⟨dx, ta, tt, h1, h2⟩ := h
  exact ⟨dx, ta, tt, e _ _ h1, h2.ex e⟩
theorem made_F {x dx : Addr} {va vt : V} {ls : Str} {acc : List Bool} {tab : List (List Nat)} {H : Hp} {Q : VK} {E : XK} (hx : H x = none) (hdx : H dx = none) (ne : dx ≠ x) (l0 : 0 < ls.length) (l1 : ls.length ≤ 1000) (hA : Dp K H va (.list (acc.map PyData.bool))) (hT : Dp K H vt (nL tab)) (g : GM acc tab) (hw : ∀ row ∈ tab, row.length = ls.length)
    (q : ∀ H', Ex H H' → MachD K T.C_Machine H' x ls acc tab → MachF T.C_Machine H' x ls acc → Q .non H') : spMInit T [.ref x, .str ls, va, vt] (upd (upd H dx (.own x)) x (.ins T.C_Machine dx [])) Q E := by
  obtain ⟨pa, vs, rfl, a1, a2⟩ := Dp.lstv hA
  obtain rfl := dp_bls a2
  obtain ⟨pt, ws, rfl, t1, t2⟩ := Dp.lstv hT
  obtain ⟨rs, rfl, hR⟩ := rowsA_D t2
  have e : Ex H (upd (upd H dx (.own x)) x (.ins T.C_Machine dx [])) := fun b o q => by rw [upd_ne (ne_of_none q hx), upd_ne (ne_of_none q hdx)]; exact q
  have gn := g.g.n
  refine ⟨x, dx, pa, pt, ls, acc, rs, tab.map iN, rfl, l0, by omega, upd_same, SqA.ex (.inl a1) e, SqA.ex (.inl t1) e, hR.ex e, by rw [List.length_map]; omega, fun _ H' k hm hf => ?_, fun z => absurd (good_N g hw) z⟩
  exact q H' (fun b o z => k b o (ne_of_none z hx) (e b o z)) hm.D (hf (Evl.ex_l e a1))
theorem made_D {x dx : Addr} {va vt : V} {ls : Str} {acc : List Bool} {tab : List (List Nat)} {H : Hp} {Q : VK} {E : XK} (hx : H x = none) (hdx : H dx = none) (ne : dx ≠ x) (l0 : 0 < ls.length) (l1 : ls.length ≤ 1000) (hA : Dp K H va (.list (acc.map PyData.bool))) (hT : Dp K H vt (nL tab)) (g : GM acc tab) (hw : ∀ row ∈ tab, row.length = ls.length)
    (q : ∀ H', Ex H H' → MachD K T.C_Machine H' x ls acc tab → Q .non H') : spMInit T [.ref x, .str ls, va, vt] (upd (upd H dx (.own x)) x (.ins T.C_Machine dx [])) Q E :=
  made_F T hx hdx ne l0 l1 hA hT g hw fun H' e m _ => q H' e m
end
section
/-! ### words and their order: the code of a word is its place among all words -/
def cd (w : Nat) (u : List Nat) : Nat := u.foldl (fun a j => w * a + j + 1) 0
theorem cd_nil {w : Nat} : cd w [] = 0 := rfl
theorem cd_snoc (w : Nat) (u : List Nat) (j : Nat) : cd w (u ++ [j]) = w * cd w u + j + 1 := by unfold cd; rw [List.foldl_append]; rfl
def Lw (w : Nat) (u : List Nat) : Prop := ∀ j ∈ u, j < w
theorem Lw.nil {w : Nat} : Lw w [] := fun _ h => nomatch h
theorem Lw.snoc {w : Nat} {u : List Nat} {j : Nat} (h : Lw w u) (hj : j < w) : Lw w (u ++ [j]) := fun x hx => by
  rcases List.mem_append.mp hx with z | z
  · exact h x z
  · rw [List.mem_singleton.mp z]; exact hj
theorem Lw.init {w : Nat} {u : List Nat} {j : Nat} (h : Lw w (u ++ [j])) : Lw w u ∧ j < w := ⟨fun x hx => h x (List.mem_append.mpr (.inl hx)), h j (List.mem_append.mpr (.inr List.mem_cons_self))⟩
theorem mul_lt_of {w a b i : Nat} (h : w * a + i + 1 ≤ w * b) : a < b := by
  rcases Nat.lt_or_ge a b with z | z
  · exact z
  · exact absurd (Nat.mul_le_mul_left w z) (by omega)
/-- words of the same letters by their last letters -/
theorem cd_cmp {w a b i j : Nat} (hi : i < w) (hj : j < w) (h : w * a + i + 1 ≤ w * b + j + 1) : a < b ∨ (a = b ∧ i ≤ j) := by
  rcases Nat.lt_trichotomy a b with z | z | z
  · exact .inl z
  · subst z; exact .inr ⟨rfl, by omega⟩
  · have := Nat.mul_le_mul_left w (show b + 1 ≤ a from z)
    rw [Nat.mul_succ] at this
    omega
theorem snoc_ind {P : List Nat → Prop} (h0 : P []) (hs : ∀ u j, P u → P (u ++ [j])) : ∀ u, P u := by
  intro u
  rw [← List.reverse_reverse u]
  induction u.reverse with
  | nil => exact h0
  | cons x l ih => rw [List.reverse_cons]; exact hs _ x ih
theorem cd_inj {w : Nat} : ∀ {u v : List Nat}, Lw w u → Lw w v → cd w u = cd w v → u = v := by
  intro u
  refine snoc_ind (P := fun u => ∀ {v : List Nat}, Lw w u → Lw w v → cd w u = cd w v → u = v) ?_ ?_ u
  · intro v _ _ e
    rcases List.eq_nil_or_concat v with z | ⟨y, j, z⟩
    · rw [z]
    · rw [z, List.concat_eq_append, cd_snoc] at e
      cases (show (0 : Nat) = _ from e)
  · intro x i ih v hu hv e
    rcases List.eq_nil_or_concat v with z | ⟨y, j, z⟩
    · rw [z, cd_snoc] at e
      cases (show _ = (0 : Nat) from e)
    · rw [List.concat_eq_append] at z
      subst z
      rw [cd_snoc, cd_snoc] at e
      rcases cd_cmp hu.init.2 hv.init.2 (Nat.le_of_eq e) with a | ⟨a, _⟩
      · rcases cd_cmp hv.init.2 hu.init.2 (Nat.le_of_eq e.symm) with b | ⟨b, _⟩ <;> omega
      · rw [a] at e
        rw [ih hu.init.1 hv.init.1 a, show i = j by omega]
/-- a shorter word has a smaller code -/
theorem cd_len {w : Nat} : ∀ {u v : List Nat}, Lw w u → Lw w v → u.length < v.length → cd w u < cd w v := by
  intro u
  refine snoc_ind (P := fun u => ∀ {v : List Nat}, Lw w u → Lw w v → u.length < v.length → cd w u < cd w v) ?_ ?_ u
  · intro v _ _ e
    rcases List.eq_nil_or_concat v with z | ⟨y, j, z⟩
    · rw [z] at e; cases e
    · rw [z, List.concat_eq_append, cd_snoc]; exact Nat.succ_pos _
  · intro x i ih v hu hv e
    rcases List.eq_nil_or_concat v with z | ⟨y, j, z⟩
    · rw [z] at e; cases e
    · rw [List.concat_eq_append] at z
      subst z
      rw [List.length_append, List.length_append] at e
      have h := ih hu.init.1 hv.init.1 (by simpa using e)
      rw [cd_snoc, cd_snoc]
      have := Nat.mul_le_mul_left w (show cd w x + 1 ≤ cd w y from h)
      rw [Nat.mul_succ] at this
      have := hu.init.2
      omega
/-! ### going through all keys in the order of their least words -/
section
variable {κ : Type} {w : Nat} {nx : κ → Nat → κ} {st : κ} {ks : List κ} {ws : List (List Nat)}
structure Bf (w : Nat) (nx : κ → Nat → κ) (st : κ) (ks : List κ) (ws : List (List Nat)) : Prop where
  len : ws.length = ks.length
  hw : ws[0]? = some []
  nd : ks.Nodup
  run : ∀ (i : Nat) u k, ws[i]? = some u → ks[i]? = some k → u.foldl nx st = k
  lw : ∀ (i : Nat) u, ws[i]? = some u → Lw w u
  inc : ∀ (i j : Nat) u v, i < j → ws[i]? = some u → ws[j]? = some v → cd w u < cd w v
  ln : ∀ (i : Nat) u, ws[i]? = some u → u.length ≤ i
/-- every word below B leads to a known key, whose word is not larger -/
def Sn (w : Nat) (nx : κ → Nat → κ) (st : κ) (ks : List κ) (ws : List (List Nat)) (B : Nat) : Prop := ∀ u, Lw w u → cd w u < B → ∃ (i : Nat) (v : List Nat) (k : κ), ws[i]? = some v ∧ ks[i]? = some k ∧ u.foldl nx st = k ∧ cd w v ≤ cd w u
/-- the n-th key is at work, j of its letters are done -/
structure Pg (w : Nat) (nx : κ → Nat → κ) (st : κ) (ks : List κ) (ws : List (List Nat)) (n j : Nat) (u0 : List Nat) (k0 : κ) : Prop where
  b : Bf w nx st ks ws
  hu : ws[n]? = some u0
  hk : ks[n]? = some k0
  top : ∀ (i : Nat) v, ws[i]? = some v → cd w v < w * cd w u0 + j + 1
  sn : Sn w nx st ks ws (w * cd w u0 + j + 1)
theorem getQ {α : Type} {l : List α} {i : Nat} (h : i < l.length) : ∃ a, l[i]? = some a := ⟨l[i], List.getElem?_eq_getElem h⟩
theorem ltQ {α : Type} {l : List α} {i : Nat} {a : α} (h : l[i]? = some a) : i < l.length := (List.getElem?_eq_some_iff.mp h).1
theorem Bf.word (h : Bf w nx st ks ws) {i : Nat} {k : κ} (e : ks[i]? = some k) : ∃ u, ws[i]? = some u := getQ (by rw [h.len]; exact ltQ e)
theorem Bf.init : Bf w nx st [st] [[]] := by
  refine ⟨rfl, rfl, List.nodup_cons.mpr ⟨(fun h => nomatch h), List.nodup_nil⟩, fun i u k h1 h2 => ?_, fun i u h => ?_, fun i j u v hij h1 h2 => ?_, fun i u h => ?_⟩
  · have := ltQ h1
    obtain rfl : i = 0 := by simpa using this
    cases h1; cases h2; rfl
  · have := ltQ h
    obtain rfl : i = 0 := by simpa using this
    cases h; exact Lw.nil
  · have := ltQ h2
    have : j < 1 := this
    omega
  · have := ltQ h
    obtain rfl : i = 0 := by simpa using this
    cases h; exact Nat.le_refl 0
theorem Pg.init : Pg w nx st [st] [[]] 0 0 [] st := by
  refine ⟨Bf.init, rfl, rfl, fun i v h => ?_, fun u hu hc => ?_⟩
  · have := ltQ h
    obtain rfl : i = 0 := by simpa using this
    cases h; exact Nat.succ_pos _
  · have e : cd w u = cd w [] := by rw [cd_nil] at hc ⊢; omega
    have := cd_inj hu Lw.nil e
    subst this
    exact ⟨0, [], st, rfl, rfl, rfl, Nat.le_refl _⟩
theorem run_snoc (u : List Nat) (j : Nat) : (u ++ [j]).foldl nx st = nx (u.foldl nx st) j := by rw [List.foldl_append]; rfl
/-- the key behind the letter is known -/
theorem Pg.old {n j i : Nat} {u0 : List Nat} {k0 : κ} (h : Pg w nx st ks ws n j u0 k0) (hj : j < w) (hi : ks[i]? = some (nx k0 j)) : Pg w nx st ks ws n (j + 1) u0 k0 := by
  refine ⟨h.b, h.hu, h.hk, fun i v e => Nat.lt_succ_of_lt (h.top i v e), fun u hu hc => ?_⟩
  rcases Nat.lt_or_ge (cd w u) (w * cd w u0 + j + 1) with z | z
  · exact h.sn u hu z
  · have e : cd w u = cd w (u0 ++ [j]) := by rw [cd_snoc]; omega
    have eu := cd_inj hu ((h.b.lw n u0 h.hu).snoc hj) e
    subst eu
    obtain ⟨v, hv⟩ := h.b.word hi
    refine ⟨i, v, _, hv, hi, ?_, ?_⟩
    · rw [run_snoc, h.b.run n u0 k0 h.hu h.hk]
    · have := h.top i v hv
      rw [cd_snoc]; omega
theorem app_at {α : Type} {l : List α} {a b : α} {i : Nat} (h : (l ++ [a])[i]? = some b) : l[i]? = some b ∨ (i = l.length ∧ a = b) := by
  rcases Nat.lt_or_ge i l.length with z | z
  · rw [List.getElem?_append_left z] at h; exact .inl h
  · have := ltQ h
    rw [List.length_append, List.length_singleton] at this
    have e : i = l.length := by omega
    subst e
    rw [List.getElem?_append_right (Nat.le_refl _), Nat.sub_self] at h
    exact .inr ⟨rfl, Option.some.inj h⟩
theorem app_l {α : Type} {l : List α} {a b : α} {i : Nat} (h : l[i]? = some b) : (l ++ [a])[i]? = some b := by rw [List.getElem?_append_left (ltQ h)]; exact h
theorem app_r {α : Type} {l : List α} {a : α} : (l ++ [a])[l.length]? = some a := by rw [List.getElem?_append_right (Nat.le_refl _), Nat.sub_self]; rfl
/-- it is new -/
theorem Pg.new {n j : Nat} {u0 : List Nat} {k0 : κ} (h : Pg w nx st ks ws n j u0 k0) (hj : j < w) (hi : nx k0 j ∉ ks) : Pg w nx st (ks ++ [nx k0 j]) (ws ++ [u0 ++ [j]]) n (j + 1) u0 k0 := by
  have hc := cd_snoc w u0 j
  have l0 := (h.b.lw n u0 h.hu).snoc hj
  have r0 : (u0 ++ [j]).foldl nx st = nx k0 j := by rw [run_snoc, h.b.run n u0 k0 h.hu h.hk]
  have b : Bf w nx st (ks ++ [nx k0 j]) (ws ++ [u0 ++ [j]]) := by
    refine ⟨by simp [h.b.len], app_l h.b.hw, List.nodup_append.mpr ⟨h.b.nd, List.nodup_cons.mpr ⟨(fun h => nomatch h), List.nodup_nil⟩, fun a ha b hb e => hi (by rw [← List.mem_singleton.mp hb, ← e]; exact ha)⟩, fun i u k h1 h2 => ?_, fun i u h1 => ?_, fun i i' u v hii h1 h2 => ?_, fun i u h1 => ?_⟩
    · rcases app_at h1 with a | ⟨a, a'⟩
      · rcases app_at h2 with c | ⟨c, _⟩
        · exact h.b.run i u k a c
        · have := ltQ a; rw [h.b.len] at this; omega
      · rcases app_at h2 with c | ⟨_, c⟩
        · have := ltQ c; rw [← h.b.len] at this; omega
        · rw [← a', ← c]; exact r0
    · rcases app_at h1 with a | ⟨_, a⟩
      · exact h.b.lw i u a
      · rw [← a]; exact l0
    · rcases app_at h2 with c | ⟨c, c'⟩
      · rcases app_at h1 with a | ⟨a, _⟩
        · exact h.b.inc i i' u v hii a c
        · have := ltQ c; omega
      · rcases app_at h1 with a | ⟨a, _⟩
        · have := h.top i u a
          rw [← c', hc]; exact this
        · omega
    · rcases app_at h1 with a | ⟨a, a'⟩
      · exact h.b.ln i u a
      · have := h.b.ln n u0 h.hu
        have := ltQ h.hu
        rw [← a', List.length_append, List.length_singleton]; omega
  refine ⟨b, app_l h.hu, app_l h.hk, fun i v e => ?_, fun u hu hcu => ?_⟩
  · rcases app_at e with a | ⟨_, a⟩
    · exact Nat.lt_succ_of_lt (h.top i v a)
    · rw [← a, hc]; omega
  · rcases Nat.lt_or_ge (cd w u) (w * cd w u0 + j + 1) with z | z
    · obtain ⟨i, v, k, h1, h2, h3, h4⟩ := h.sn u hu z
      exact ⟨i, v, k, app_l h1, app_l h2, h3, h4⟩
    · have eu := cd_inj hu l0 (by rw [hc]; omega)
      subst eu
      exact ⟨ws.length, _, _, app_r, by rw [h.b.len]; exact app_r, r0, Nat.le_refl _⟩
/-- what is known once all letters of the n-th key are done: all words below the next key's -/
theorem Pg.all {n : Nat} {u0 : List Nat} {k0 : κ} (h : Pg w nx st ks ws n w u0 k0) (w0 : 0 < w) {c : Nat} (hc : ∀ (i : Nat) v, n < i → ws[i]? = some v → c ≤ cd w v) : Sn w nx st ks ws (w * c + 1) := by
  intro u
  refine snoc_ind (P := fun u => Lw w u → cd w u < w * c + 1 → ∃ (i : Nat) (v : List Nat) (k : κ), ws[i]? = some v ∧ ks[i]? = some k ∧ u.foldl nx st = k ∧ cd w v ≤ cd w u) ?_ ?_ u
  · intro hl _
    obtain ⟨k, hk⟩ := getQ (l := ks) (i := 0) (by rw [← h.b.len]; exact ltQ h.b.hw)
    exact ⟨0, [], k, h.b.hw, hk, h.b.run 0 [] k h.b.hw hk, Nat.le_refl _⟩
  · intro x j ih hl hcu
    obtain ⟨hx, hj⟩ := hl.init
    rw [cd_snoc] at hcu ⊢
    have xc : cd w x < c := mul_lt_of (i := j) (w := w) (by omega)
    have xw : c ≤ w * c := Nat.le_mul_of_pos_left c w0
    obtain ⟨i, v, k, h1, h2, h3, h4⟩ := ih hx (by omega)
    have hin : i ≤ n := by
      rcases Nat.lt_or_ge n i with z | z
      · have := hc i v z h1; omega
      · exact z
    have hv0 : cd w v ≤ cd w u0 := by
      rcases Nat.lt_or_ge i n with z | z
      · exact Nat.le_of_lt (h.b.inc i n v u0 z h1 h.hu)
      · have e : i = n := by omega
        subst e
        rw [h.hu] at h1; cases h1; exact Nat.le_refl _
    have m1 := Nat.mul_le_mul_left w hv0
    have m2 := Nat.mul_le_mul_left w h4
    obtain ⟨i', v', k', g1, g2, g3, g4⟩ := h.sn (v ++ [j]) ((h.b.lw i v h1).snoc hj) (by rw [cd_snoc]; omega)
    refine ⟨i', v', k', g1, g2, ?_, ?_⟩
    · rw [run_snoc, h3, ← g3, run_snoc, h.b.run i v k h1 h2]
    · rw [cd_snoc] at g4; omega
theorem Pg.next {n : Nat} {u0 : List Nat} {k0 : κ} (h : Pg w nx st ks ws n w u0 k0) (w0 : 0 < w) {k1 : κ} (hk : ks[n + 1]? = some k1) : ∃ u1, Pg w nx st ks ws (n + 1) 0 u1 k1 := by
  obtain ⟨u1, hu⟩ := h.b.word hk
  have i01 := h.b.inc n (n + 1) u0 u1 (Nat.lt_succ_self n) h.hu hu
  refine ⟨u1, h.b, hu, hk, fun i v e => ?_, ?_⟩
  · have := h.top i v e
    have := Nat.mul_le_mul_left w (show cd w u0 + 1 ≤ cd w u1 from i01)
    rw [Nat.mul_succ] at this
    omega
  · refine h.all w0 fun i v hi hv => ?_
    rcases Nat.lt_or_ge (n + 1) i with z | z
    · exact Nat.le_of_lt (h.b.inc (n + 1) i u1 v z hu hv)
    · have e : i = n + 1 := by omega
      subst e
      rw [hu] at hv; cases hv; exact Nat.le_refl _
/-- the least word that leads to an accepting key, below a bound of its length -/
def Lst (w : Nat) (nx : κ → Nat → κ) (st : κ) (acc : κ → Bool) (m : Nat) : Option (List Nat) → Prop
  | none => ∀ u, Lw w u → acc (u.foldl nx st) = false
  | some u => Lw w u ∧ acc (u.foldl nx st) = true ∧ u.length < m ∧ ∀ v, Lw w v → cd w v < cd w u → acc (v.foldl nx st) = false
theorem Pg.found {n m : Nat} {u0 : List Nat} {k0 : κ} {acc : κ → Bool} (h : Pg w nx st ks ws n 0 u0 k0) (w0 : 0 < w) (hm : ks.length ≤ m) (no : ∀ (i : Nat) k, i < n → ks[i]? = some k → acc k = false) (yes : acc k0 = true) : Lst w nx st acc m (some u0) := by
  refine ⟨h.b.lw n u0 h.hu, by rw [h.b.run n u0 k0 h.hu h.hk]; exact yes, ?_, fun v hv hc => ?_⟩
  · have := h.b.ln n u0 h.hu
    have := ltQ h.hk
    omega
  · have : cd w u0 ≤ w * cd w u0 := Nat.le_mul_of_pos_left _ w0
    obtain ⟨i, x, k, h1, h2, h3, h4⟩ := h.sn v hv (by omega)
    rw [h3]
    refine no i k ?_ h2
    rcases Nat.lt_or_ge i n with z | z
    · exact z
    · rcases Nat.lt_or_ge n i with y | y
      · have := h.b.inc n i u0 x y h.hu h1; omega
      · have e : i = n := by omega
        subst e
        rw [h.hu] at h1; cases h1; omega
theorem Pg.none {n m : Nat} {u0 : List Nat} {k0 : κ} {acc : κ → Bool} (h : Pg w nx st ks ws n w u0 k0) (w0 : 0 < w) (hn : n + 1 = ks.length) (no : ∀ (i : Nat) k, i < n + 1 → ks[i]? = some k → acc k = false) : Lst w nx st acc m none := by
  intro u hu
  have hs := h.all w0 (c := cd w u + 1) fun i v hi hv => by
    have := ltQ hv
    rw [h.b.len] at this; omega
  have : cd w u + 1 ≤ w * (cd w u + 1) := Nat.le_mul_of_pos_left _ w0
  obtain ⟨i, v, k, h1, h2, h3, _⟩ := hs u hu (by omega)
  rw [h3]
  exact no i k (by rw [hn]; exact ltQ h2) h2
/-- the keys lie in a finite set -/
theorem nodup_leK {α : Type} [BEq α] [LawfulBEq α] : ∀ (l m : List α), l.Nodup → (∀ c ∈ l, c ∈ m) → l.length ≤ m.length
  | [], _, _, _ => Nat.zero_le _
  | x :: l, m, nd, h => by
    have hx := h x List.mem_cons_self
    have nd' := List.nodup_cons.mp nd
    have := nodup_leK l (m.erase x) nd'.2 fun c hc => (List.mem_erase_of_ne fun (e : c = x) => nd'.1 (by rw [← e]; exact hc)).mpr (h c (List.mem_cons_of_mem _ hc))
    rw [List.length_erase_of_mem hx] at this
    have := List.length_pos_of_mem hx
    rw [List.length_cons]; omega
end
/-! ### all words of few letters, in order -/
def lvW (w : Nat) : Nat → List (List Nat)
  | 0 => [[]]
  | n + 1 => (lvW w n).flatMap fun u => (List.range w).map fun j => u ++ [j]
def rowsW (w : Nat) : Nat → List (List Nat)
  | 0 => [[]]
  | n + 1 => rowsW w n ++ lvW w (n + 1)
theorem mem_lvW {w : Nat} : ∀ {n : Nat} {u : List Nat}, u ∈ lvW w n ↔ Lw w u ∧ u.length = n
  | 0, u => by
    show u ∈ [[]] ↔ _
    rw [List.mem_singleton]
    exact ⟨fun e => by subst e; exact ⟨Lw.nil, rfl⟩, fun h => List.eq_nil_of_length_eq_zero h.2⟩
  | n + 1, u => by
    show u ∈ (lvW w n).flatMap _ ↔ _
    rw [List.mem_flatMap]
    constructor
    · rintro ⟨x, hx, hu⟩
      obtain ⟨j, hj, rfl⟩ := List.mem_map.mp hu
      obtain ⟨h1, h2⟩ := mem_lvW.mp hx
      exact ⟨h1.snoc (List.mem_range.mp hj), by rw [List.length_append, h2]; rfl⟩
    · rintro ⟨h1, h2⟩
      rcases List.eq_nil_or_concat u with z | ⟨y, j, z⟩
      · rw [z] at h2; cases h2
      · rw [List.concat_eq_append] at z
        subst z
        rw [List.length_append] at h2
        exact ⟨y, mem_lvW.mpr ⟨h1.init.1, by simpa using h2⟩, List.mem_map.mpr ⟨j, List.mem_range.mpr h1.init.2, rfl⟩⟩
theorem mem_rowsW {w : Nat} : ∀ {n : Nat} {u : List Nat}, u ∈ rowsW w n ↔ Lw w u ∧ u.length ≤ n
  | 0, u => by
    show u ∈ lvW w 0 ↔ _
    rw [mem_lvW]
    exact ⟨fun h => ⟨h.1, Nat.le_of_eq h.2⟩, fun h => ⟨h.1, Nat.le_zero.mp h.2⟩⟩
  | n + 1, u => by
    show u ∈ rowsW w n ++ lvW w (n + 1) ↔ _
    rw [List.mem_append, mem_rowsW, mem_lvW]
    constructor
    · rintro (h | h)
      · exact ⟨h.1, Nat.le_succ_of_le h.2⟩
      · exact ⟨h.1, Nat.le_of_eq h.2⟩
    · rintro ⟨h1, h2⟩
      rcases Nat.lt_or_ge u.length (n + 1) with z | z
      · exact .inl ⟨h1, Nat.le_of_lt_succ z⟩
      · exact .inr ⟨h1, Nat.le_antisymm h2 z⟩
theorem pw_flat {α : Type} {R : List Nat → List Nat → Prop} {f : α → List (List Nat)} : ∀ {l : List α}, (∀ a ∈ l, (f a).Pairwise R) → l.Pairwise (fun a b => ∀ x ∈ f a, ∀ y ∈ f b, R x y) → (l.flatMap f).Pairwise R
  | [], _, _ => List.Pairwise.nil
  | a :: l, h1, h2 => by
    rw [List.flatMap_cons]
    obtain ⟨p1, p2⟩ := List.pairwise_cons.mp h2
    refine List.pairwise_append.mpr ⟨h1 a List.mem_cons_self, pw_flat (fun b hb => h1 b (List.mem_cons_of_mem _ hb)) p2, fun x hx y hy => ?_⟩
    obtain ⟨b, hb, hyb⟩ := List.mem_flatMap.mp hy
    exact p1 b hb x hx y hyb
theorem pw_lvW {w : Nat} : ∀ n : Nat, (lvW w n).Pairwise fun u v => cd w u < cd w v
  | 0 => List.pairwise_singleton _ _
  | n + 1 => by
    refine pw_flat (fun a ha => ?_) ?_
    · rw [List.pairwise_map]
      refine List.Pairwise.imp (fun {i j} h => ?_) List.pairwise_lt_range
      rw [cd_snoc, cd_snoc]; omega
    · refine List.Pairwise.imp (fun {a b} h x hx y hy => ?_) (pw_lvW n)
      obtain ⟨i, hi, rfl⟩ := List.mem_map.mp hx
      obtain ⟨j, hj, rfl⟩ := List.mem_map.mp hy
      rw [cd_snoc, cd_snoc]
      have := Nat.mul_le_mul_left w (show cd w a + 1 ≤ cd w b from h)
      rw [Nat.mul_succ] at this
      have := List.mem_range.mp hi
      omega
theorem pw_rowsW {w : Nat} : ∀ n : Nat, (rowsW w n).Pairwise fun u v => cd w u < cd w v
  | 0 => List.pairwise_singleton _ _
  | n + 1 => List.pairwise_append.mpr ⟨pw_rowsW n, pw_lvW (n + 1), fun u hu v hv => by
    obtain ⟨h1, h2⟩ := mem_rowsW.mp hu
    obtain ⟨h3, h4⟩ := mem_lvW.mp hv
    exact cd_len h1 h3 (by omega)⟩
/-- the first one of an ordered list that has a property -/
theorem find_least {α : Type} {R : α → α → Prop} {p : α → Bool} {a : α} : ∀ {l : List α}, l.Pairwise R → a ∈ l → p a = true → (∀ b, R b a → p b = false) → l.find? p = some a
  | b :: l, h, ha, hp, hn => by
    obtain ⟨h1, h2⟩ := List.pairwise_cons.mp h
    rcases List.mem_cons.mp ha with e | hm
    · subst e
      exact List.find?_cons_of_pos hp
    · rw [List.find?_cons_of_neg (by rw [hn b (h1 a hm)]; exact Bool.false_ne_true)]
      exact find_least h2 hm hp hn
theorem Lst.find {κ : Type} {w : Nat} {nx : κ → Nat → κ} {st : κ} {acc : κ → Bool} {m n : Nat} {r : Option (List Nat)} (h : Lst w nx st acc m r) (hm : m ≤ n + 1) : (rowsW w n).find? (fun u => acc (u.foldl nx st)) = r := by
  cases r with
  | none => exact List.find?_eq_none.mpr fun u hu => by rw [h u (mem_rowsW.mp hu).1]; exact Bool.false_ne_true
  | some u =>
    obtain ⟨h1, h2, h3, h4⟩ := h
    refine find_least_w h1 h2 h3 h4 hm
where
  find_least_w {κ : Type} {w : Nat} {nx : κ → Nat → κ} {st : κ} {acc : κ → Bool} {m n : Nat} {u : List Nat} (h1 : Lw w u) (h2 : acc (u.foldl nx st) = true) (h3 : u.length < m) (h4 : ∀ v, Lw w v → cd w v < cd w u → acc (v.foldl nx st) = false) (hm : m ≤ n + 1) : (rowsW w n).find? (fun u => acc (u.foldl nx st)) = some u := by
    refine find_least (R := fun a b => cd w a < cd w b ∧ Lw w a) ?_ (mem_rowsW.mpr ⟨h1, by omega⟩) h2 fun b hb => h4 b hb.2 hb.1
    have := pw_rowsW (w := w) n
    refine List.Pairwise.imp_of_mem (fun {a b} ha hb h => ⟨h, (mem_rowsW.mp ha).1⟩) this
end
section
/-! ### keys: a number, or a tuple of numbers -/
inductive KE where
  | i (n : Nat) | t (l : List Nat)
  deriving DecidableEq
def isI : KE → Bool
  | .i _ => true
  | .t _ => false
def KeyV (H : Hp) (v : V) : KE → Prop
  | .i n => v = .int (n : Int)
  | .t l => ∃ b, v = .ref b ∧ H b = some (.tup (l.map vI))
theorem KeyV.ex {H H' : Hp} {v : V} {k : KE} (h : KeyV H v k) (e : ∀ b xs, H b = some (.tup xs) → H' b = some (.tup xs)) : KeyV H' v k := by
  cases k with
  | i n => exact h
  | t l =>
    obtain ⟨b, rfl, hb⟩ := h
    exact ⟨b, rfl, e b _ hb⟩
abbrev kT (l : List Nat) : List L2.Key := l.map fun n : Nat => (Sum.inl (n : Int) : L2.Key)
theorem kT_kV (l : List Nat) : (kT l).map kV = l.map vI := by rw [List.map_map]; rfl
theorem kT_inj : ∀ {l m : List Nat}, kT l = kT m → l = m
  | [], [], _ => rfl
  | [], _ :: _, h => nomatch h
  | _ :: _, [], h => nomatch h
  | a :: l, b :: m, h => by
    have h : (.inl (a : Int) : L2.Key) :: kT l = .inl (b : Int) :: kT m := h
    injection h with h1 h2
    injection h1 with h1
    rw [Int.ofNat.inj h1, kT_inj h2]
/-- a dict of keys, each with what its place says -/
inductive DM (H : Hp) (d : Addr) (ks : List KE) (val : Nat → V) : Prop
  | i (kvs : List (L2.Key × V)) (h : H d = some (.dK kvs)) (l : kvs.length ≤ ks.length) (v : ∀ n : Nat, valV kvs (.inl (n : Int)) = if KE.i n ∈ ks then some (val (ks.idxOf (KE.i n))) else none) (o : ∀ k ∈ ks, isI k = true)
  | t (kvs : List (List L2.Key × V)) (h : H d = some (.dT kvs)) (l : kvs.length ≤ ks.length) (v : ∀ l : List Nat, valV kvs (kT l) = if KE.t l ∈ ks then some (val (ks.idxOf (KE.t l))) else none) (o : ∀ k ∈ ks, isI k = false)
section
variable {H H' : Hp} {d : Addr} {ks : List KE} {val : Nat → V} {k : KE} {v x : V}
theorem DM.obj (h : DM H d ks val) : ∃ o, H d = some o ∧ ((∃ a, o = .dK a) ∨ ∃ a, o = .dT a) := by
  cases h with
  | i kvs h => exact ⟨_, h, .inl ⟨_, rfl⟩⟩
  | t kvs h => exact ⟨_, h, .inr ⟨_, rfl⟩⟩
theorem DM.ex (h : DM H d ks val) (e : H' d = H d) : DM H' d ks val := by
  cases h with
  | i kvs h l v o => exact .i kvs (e.trans h) l v o
  | t kvs h l v o => exact .t kvs (e.trans h) l v o
theorem DM.get (h : DM H d ks val) (hv : KeyV H x k) (hk : ∀ k' ∈ ks, isI k' = isI k) (ne : ks ≠ []) : DGet H d x (if k ∈ ks then some (val (ks.idxOf k)) else none) := by
  obtain ⟨k0, hk0⟩ := List.exists_mem_of_ne_nil ks ne
  cases h with
  | i kvs h l w o =>
    cases k with
    | i n =>
      obtain rfl : x = .int (n : Int) := hv
      rw [← w n]
      exact DGet.k (k := .inl (n : Int)) h
    | t m =>
      have := hk k0 hk0
      rw [o k0 hk0] at this
      cases this
  | t kvs h l w o =>
    cases k with
    | i n =>
      have := hk k0 hk0
      rw [o k0 hk0] at this
      cases this
    | t m =>
      obtain ⟨b, rfl, hb⟩ := hv
      rw [← w m]
      exact DGet.t (k := kT m) h (by rw [kT_kV]; exact hb)
theorem idx_app_old {α : Type} [BEq α] [LawfulBEq α] {l : List α} {a b : α} (h : a ∈ l) : (l ++ [b]).idxOf a = l.idxOf a := by rw [List.idxOf_append, if_pos h]
theorem idx_app_new {α : Type} [BEq α] [LawfulBEq α] {l : List α} {a : α} (h : a ∉ l) : (l ++ [a]).idxOf a = l.length := by
  rw [List.idxOf_append, if_neg h]; simp
theorem DM.put (h : DM H d ks val) (hv : KeyV H x k) (hk : ∀ k' ∈ ks, isI k' = isI k) (ne : ks ≠ []) (no : k ∉ ks) (hl : ks.length < 1000000) : ∃ o, DPut H d x (val ks.length) (upd H d o) ∧ DM (upd H d o) d (ks ++ [k]) val ∧ ((∃ a, o = .dK a) ∨ ∃ a, o = .dT a) := by
  obtain ⟨k0, hk0⟩ := List.exists_mem_of_ne_nil ks ne
  have sl : 1000000 ≤ sizeLine := by decide
  cases h with
  | i kvs h l w o =>
    cases k with
    | i n =>
      obtain rfl : x = .int (n : Int) := hv
      refine ⟨_, DPut.k (k := .inl (n : Int)) h (by omega), .i _ upd_same ?_ (fun m => ?_) fun k' hk' => ?_, .inl ⟨_, rfl⟩⟩
      · have := length_putK kvs (.inl (n : Int) : L2.Key) (val ks.length)
        rw [List.length_append, List.length_singleton]; omega
      · rw [valV_put]
        by_cases e : m = n
        · subst e
          rw [if_pos rfl, if_pos (List.mem_append.mpr (.inr List.mem_cons_self)), idx_app_new no]
        · have e2 : (.inl (m : Int) : L2.Key) ≠ .inl (n : Int) := fun z => e (Int.ofNat.inj (Sum.inl.inj z))
          have e3 : (KE.i m ∈ ks ++ [KE.i n]) ↔ KE.i m ∈ ks := by
            rw [List.mem_append, List.mem_singleton]
            exact ⟨fun z => z.resolve_right fun y => e (KE.i.inj y), .inl⟩
          rw [if_neg e2, w m]
          by_cases hm : KE.i m ∈ ks
          · rw [if_pos hm, if_pos (e3.mpr hm), idx_app_old hm]
          · rw [if_neg hm, if_neg fun z => hm (e3.mp z)]
      · rcases List.mem_append.mp hk' with z | z
        · exact o k' z
        · rw [List.mem_singleton.mp z]; rfl
    | t m =>
      have := hk k0 hk0
      rw [o k0 hk0] at this
      cases this
  | t kvs h l w o =>
    cases k with
    | i n =>
      have := hk k0 hk0
      rw [o k0 hk0] at this
      cases this
    | t n =>
      obtain ⟨b, rfl, hb⟩ := hv
      refine ⟨_, DPut.t (k := kT n) h (by rw [kT_kV]; exact hb) (by omega), .t _ upd_same ?_ (fun m => ?_) fun k' hk' => ?_, .inr ⟨_, rfl⟩⟩
      · have := length_putK kvs (kT n) (val ks.length)
        rw [List.length_append, List.length_singleton]; omega
      · rw [valV_put]
        by_cases e : m = n
        · subst e
          rw [if_pos rfl, if_pos (List.mem_append.mpr (.inr List.mem_cons_self)), idx_app_new no]
        · have e2 : kT m ≠ kT n := fun z => e (kT_inj z)
          have e3 : (KE.t m ∈ ks ++ [KE.t n]) ↔ KE.t m ∈ ks := by
            rw [List.mem_append, List.mem_singleton]
            exact ⟨fun z => z.resolve_right fun y => e (KE.t.inj y), .inl⟩
          rw [if_neg e2, w m]
          by_cases hm : KE.t m ∈ ks
          · rw [if_pos hm, if_pos (e3.mpr hm), idx_app_old hm]
          · rw [if_neg hm, if_neg fun z => hm (e3.mp z)]
      · rcases List.mem_append.mp hk' with z | z
        · exact o k' z
        · rw [List.mem_singleton.mp z]; rfl
end
/-- {start: x} -/
theorem dm_start {tk tv : TE} {σ : L2.St} {H : Hp} {Q : VK} {kv x : V} {k : KE} (hk : ∀ H' Q, Q kv H' → tk σ H' Q) (hv : ∀ H' Q, Q x H' → tv σ H' Q) (hkv : KeyV H kv k) (q : ∀ d o, H d = none → DM (upd H d o) d [k] (fun _ => x) → ((∃ a, o = .dK a) ∨ ∃ a, o = .dT a) → Q (.ref d) (upd H d o)) :
    tDisp [(tk, tv)] σ H Q ∨ tDisp1T tk tv σ H Q := by
  cases k with
  | i n =>
    obtain rfl : kv = .int (n : Int) := hkv
    refine .inl fun p hp => hk _ _ (hv _ _ ⟨upd_same, [(.inl (n : Int), x)], rfl, by show 1 ≤ 15; decide, ?_⟩)
    rw [upd_upd]
    refine q p _ hp (.i _ upd_same (Nat.le_refl _) (fun m => ?_) fun k' hk' => by rw [List.mem_singleton.mp hk']; rfl) (.inl ⟨_, rfl⟩)
    by_cases e : m = n
    · subst e; simp [valV, mergeK, putK]
    · have e2 : ¬ ((n : Int) = (m : Int)) := fun z => e (Int.ofNat.inj z).symm
      simp [valV, mergeK, putK, e, e2]
  | t l =>
    obtain ⟨b, rfl, hb⟩ := hkv
    refine .inr fun p hp => hk _ _ (hv _ _ ⟨upd_same, b, kT l, rfl, by rw [upd_ne (ne_of_none hb hp), kT_kV]; exact hb, ?_⟩)
    rw [upd_upd]
    refine q p _ hp (.t _ upd_same (Nat.le_refl _) (fun m => ?_) fun k' hk' => by rw [List.mem_singleton.mp hk']; rfl) (.inr ⟨_, rfl⟩)
    by_cases e : m = l
    · subst e; simp [valV]
    · have e2 : ¬ (kT l = kT m) := fun z => e (kT_inj z).symm
      have e3 : ¬ KE.t m ∈ [KE.t l] := fun z => e (KE.t.inj (List.mem_singleton.mp z))
      rw [if_neg e3]
      unfold valV
      rw [List.find?_cons_of_neg (by simpa using e2)]
      rfl
end
section
/-- what the two functions tell: the key behind a letter, whether a key accepts -/
structure Ky (P : Program) (w : World) (K : PySem.W.Frag) (mg : Str → Option Value) (base : Heap) (k : Nat) (H : Hp) (n : Nat) (f g : Addr) (nx : KE → Nat → KE) (acc : KE → Bool) (U : List KE) : Prop where
  f : ∃ (G : Hp → Prop) (sp : List V → Hp → VK → Prop), FV P w K mg base k f G sp ∧ G H ∧ ∀ H1 v kk (j : Nat) (Q : VK), Ex H H1 → KeyV H1 v kk → kk ∈ U → j < n → (∀ v' H2, Ex H1 H2 → KeyV H2 v' (nx kk j) → Q v' H2) → sp [v, .int (j : Int)] H1 Q
  g : ∃ (G : Hp → Prop) (sp : List V → Hp → VK → Prop), FV P w K mg base k g G sp ∧ G H ∧ ∀ H1 v kk (Q : VK), Ex H H1 → KeyV H1 v kk → kk ∈ U → (∀ H2, Ex H1 H2 → Q (.bl (acc kk)) H2) → sp [v] H1 Q
  nx : ∀ kk ∈ U, ∀ j, j < n → nx kk j ∈ U
  kd : ∀ a ∈ U, ∀ b ∈ U, isI a = isI b
end
section
/-! ### the least text of a machine -/
theorem MachD.hidF {C : Addr} {S : List Addr} {H : Hp} {m : Addr} {ls : Str} {acc : List Bool} {tab : List (List Nat)} (h : MachD K C H m ls acc tab) (n : NoD S H) (ni : ∀ b ∈ S, ∀ C dx fs, H b ≠ some (.ins C dx fs)) : MachD K C (hid S H) m ls acc tab := by
  obtain ⟨dx, ta, tt, h1, h2, h3⟩ := h
  exact ⟨dx, ta, tt, by rw [hid_at fun z => ni m z _ _ _ h1]; exact h1, Dp.hidF n _ h2, Dp.hidF n _ h3⟩
theorem MachD.fr {C : Addr} {S : List Addr} {H : Hp} {m : Addr} {ls : Str} {acc : List Bool} {tab : List (List Nat)} (h : MachD K C H m ls acc tab) (W : ∀ b ∈ S, ∃ o, H b = some (frC b o)) : MachD K C (hid S H) m ls acc tab :=
  h.hidF (.of_fr W) fun b hb C dx fs z => by
    obtain ⟨o, e⟩ := W b hb
    rw [z] at e; cases e
theorem MachD.tbl {nm : Nat → Nat → Str} {Pl : List Addr} {R C : Addr} {H H' : Hp} {m : Addr} {ls : Str} {acc : List Bool} {tab : List (List Nat)} (h : MachD K C H m ls acc tab) (t : Tbs nm Pl H) (hR : R ∈ Pl) (k : Kp [R] H H') : MachD K C H' m ls acc tab := by
  obtain ⟨ps, z⟩ := TabN.isT (t R hR)
  have n1 : NoD [R] H := fun b hb o e => t.noD b (by rw [List.mem_singleton.mp hb]; exact hR) o e
  have h2 : MachD K C (hid [R] H) m ls acc tab := h.hidF n1 fun b hb C dx fs e => by
    rw [List.mem_singleton.mp hb, z] at e; cases e
  exact h2.ex (k.ex.trans hid_ex)
/-- one machine's states as keys -/
def nxM (tab : List (List Nat)) : KE → Nat → KE
  | .i s, j => .i ((tab.getD s []).getD j 0)
  | k, _ => k
def acM (acc : List Bool) : KE → Bool
  | .i s => acc.getD s false
  | _ => false
structure GMw (ls : Str) (acc : List Bool) (tab : List (List Nat)) : Prop where
  m : GM acc tab
  w : ∀ row ∈ tab, row.length = ls.length
theorem GMw.at' {ls : Str} {acc : List Bool} {tab : List (List Nat)} (g : GMw ls acc tab) {s j : Nat} (hs : s < acc.length) (hj : j < ls.length) : ∃ row x, tab[s]? = some row ∧ row[j]? = some x ∧ tab.getD s [] = row ∧ (tab.getD s []).getD j 0 = x ∧ x < acc.length := by
  have hst : s < tab.length := by rw [g.m.e]; exact hs
  obtain ⟨row, hr⟩ := getQ hst
  have hrl := g.w row (List.mem_of_getElem? hr)
  obtain ⟨x, hx⟩ := getQ (l := row) (i := j) (by omega)
  have e1 : tab.getD s [] = row := by rw [List.getD_eq_getElem?_getD, hr]; rfl
  refine ⟨row, x, hr, hx, e1, by rw [e1, List.getD_eq_getElem?_getD, hx]; rfl, ?_⟩
  have := (g.m.g.at' (s := s) (t := x) (by rw [e1]; exact List.mem_of_getElem? hx)).2
  rw [← g.m.e]; exact this
/-- reading a place of a machine's table -/
theorem rd_cell {H0 H : Hp} {tt : Addr} {ls : Str} {acc : List Bool} {tab : List (List Nat)} {s j : Nat} {Q : VK} (e : Ex H0 H) (h : Dp K H0 (.ref tt) (nT tab)) (g : GMw ls acc tab) (hs : s < acc.length) (hj : j < ls.length) {Q1 : VK} (q1 : ∀ v, rIx K v (.int (j : Int)) H Q → Q1 v H) (q : Q (.int (((tab.getD s []).getD j 0 : Nat) : Int)) H) :
    rIx K (.ref tt) (.int (s : Int)) H Q1 := by
  obtain ⟨row, x, hr, hx, e1, e2, _⟩ := g.at' hs hj
  refine rd_ixDT e h (d := .tuple (row.map nI)) (by rw [List.getElem?_map, hr]; rfl) fun v hv => ?_
  refine q1 v (rd_ixDT e hv (d := nI x) (by rw [List.getElem?_map, hx]; rfl) fun v2 hv2 => ?_)
  cases Dp.int_iff hv2
  rw [e2] at q
  exact q
theorem rd_flag {H0 H : Hp} {ta : Addr} {acc : List Bool} {s : Nat} {Q : VK} (e : Ex H0 H) (h : Dp K H0 (.ref ta) (.tuple (acc.map PyData.bool))) (hs : s < acc.length) (q : Q (.bl (acc.getD s false)) H) : rIx K (.ref ta) (.int (s : Int)) H Q := by
  obtain ⟨b, hb⟩ := getQ hs
  refine rd_ixDT e h (d := .bool b) (by rw [List.getElem?_map, hb]; rfl) fun v hv => ?_
  cases Dp.bl_iff hv
  rw [List.getD_eq_getElem?_getD, hb] at q
  exact q
end
section
/-! ### least machines -/
def rn (tab : List (List Nat)) (s : Nat) (u : List Nat) : Nat := u.foldl (fun s j => (tab.getD s []).getD j 0) s
theorem rn_snoc (tab : List (List Nat)) (s : Nat) (u : List Nat) (j : Nat) : rn tab s (u ++ [j]) = (tab.getD (rn tab s u) []).getD j 0 := by unfold rn; rw [List.foldl_append]; rfl
theorem rn_app (tab : List (List Nat)) (s : Nat) (u v : List Nat) : rn tab s (u ++ v) = rn tab (rn tab s u) v := by unfold rn; rw [List.foldl_append]
theorem rn_M (tab : List (List Nat)) : ∀ (u : List Nat) (s : Nat), u.foldl (nxM tab) (.i s) = .i (rn tab s u)
  | [], _ => rfl
  | j :: u, s => rn_M tab u ((tab.getD s []).getD j 0)
/-- a table of n rows of w numbers below n -/
structure Tb (n w : Nat) (tab : List (List Nat)) : Prop where
  p : 0 < n
  l : tab.length = n
  b : ∀ s j, s < n → j < w → (tab.getD s []).getD j 0 < n
  w : ∀ row ∈ tab, row.length = w
theorem Tb.rn {n w : Nat} {tab : List (List Nat)} (h : Tb n w tab) : ∀ {u : List Nat} {s : Nat}, Lw w u → s < n → rn tab s u < n
  | [], _, _, hs => hs
  | j :: u, s, hu, hs => Tb.rn h (u := u) (s := (tab.getD s []).getD j 0) (fun x hx => hu x (List.mem_cons_of_mem _ hx)) (h.b s j hs (hu j List.mem_cons_self))
/-- the same texts from there on -/
def Eqv (w : Nat) (acc : List Bool) (tab : List (List Nat)) (s t : Nat) : Prop := ∀ u, Lw w u → acc.getD (rn tab s u) false = acc.getD (rn tab t u) false
structure Cano (w : Nat) (acc : List Bool) (tab : List (List Nat)) : Prop where
  t : Tb acc.length w tab
  far : ∀ s t, s < acc.length → t < acc.length → Eqv w acc tab s t → s = t
  ws : ∃ W : List (List Nat), W.length = acc.length ∧ W.Pairwise (fun u v => cd w u < cd w v) ∧ ∀ i u, W[i]? = some u → Lw w u ∧ rn tab 0 u = i ∧ ∀ v, Lw w v → rn tab 0 v = i → cd w u ≤ cd w v
theorem Lw.app {w : Nat} {u v : List Nat} (hu : Lw w u) (hv : Lw w v) : Lw w (u ++ v) := fun x hx => (List.mem_append.mp hx).elim (hu x) (hv x)
theorem Cano.cls {w : Nat} {acc : List Bool} {tab : List (List Nat)} (h : Cano w acc tab) {u v : List Nat} (hu : Lw w u) (hv : Lw w v) : rn tab 0 u = rn tab 0 v ↔ ∀ x, Lw w x → acc.getD (rn tab 0 (u ++ x)) false = acc.getD (rn tab 0 (v ++ x)) false := by
  constructor
  · intro e x hx
    rw [rn_app, rn_app, e]
  · intro e
    refine h.far _ _ (h.t.rn hu h.t.p) (h.t.rn hv h.t.p) fun x hx => ?_
    rw [← rn_app, ← rn_app]
    exact e x hx
theorem sorted_eq {w : Nat} : ∀ {A B : List (List Nat)}, A.Pairwise (fun u v => cd w u < cd w v) → B.Pairwise (fun u v => cd w u < cd w v) → (∀ u, u ∈ A ↔ u ∈ B) → A = B
  | [], [], _, _, _ => rfl
  | [], b :: B, _, _, h => nomatch (h b).mpr List.mem_cons_self
  | a :: A, [], _, _, h => nomatch (h a).mp List.mem_cons_self
  | a :: A, b :: B, hA, hB, h => by
    obtain ⟨a1, a2⟩ := List.pairwise_cons.mp hA
    obtain ⟨b1, b2⟩ := List.pairwise_cons.mp hB
    have e : a = b := by
      rcases List.mem_cons.mp ((h a).mp List.mem_cons_self) with z | z
      · exact z
      · rcases List.mem_cons.mp ((h b).mpr List.mem_cons_self) with y | y
        · exact y.symm
        · have := a1 b y
          have := b1 a z
          omega
    subst e
    have ne : ∀ {C : List (List Nat)}, (∀ x ∈ C, cd w a < cd w x) → a ∉ C := fun hc z => by have := hc a z; omega
    rw [sorted_eq a2 b2 fun u => ⟨fun z => ?_, fun z => ?_⟩]
    · rcases List.mem_cons.mp ((h u).mp (List.mem_cons_of_mem _ z)) with y | y
      · subst y; exact absurd z (ne a1)
      · exact y
    · rcases List.mem_cons.mp ((h u).mpr (List.mem_cons_of_mem _ z)) with y | y
      · subst y; exact absurd z (ne b1)
      · exact y
/-- the least machine of a language is one -/
theorem Cano.uniq {w : Nat} {a1 a2 : List Bool} {t1 t2 : List (List Nat)} (h1 : Cano w a1 t1) (h2 : Cano w a2 t2) (e : ∀ u, Lw w u → a1.getD (rn t1 0 u) false = a2.getD (rn t2 0 u) false) : a1 = a2 ∧ t1 = t2 := by
  have cls : ∀ {u v : List Nat}, Lw w u → Lw w v → (rn t1 0 u = rn t1 0 v ↔ rn t2 0 u = rn t2 0 v) := fun hu hv => by
    rw [h1.cls hu hv, h2.cls hu hv]
    exact ⟨fun z x hx => by rw [← e _ (hu.app hx), ← e _ (hv.app hx)]; exact z x hx, fun z x hx => by rw [e _ (hu.app hx), e _ (hv.app hx)]; exact z x hx⟩
  obtain ⟨W1, l1, s1, p1⟩ := h1.ws
  obtain ⟨W2, l2, s2, p2⟩ := h2.ws
  have mem : ∀ {a : List Bool} {t : List (List Nat)} {W : List (List Nat)}, Cano w a t → W.length = a.length → (∀ i u, W[i]? = some u → Lw w u ∧ rn t 0 u = i ∧ ∀ v, Lw w v → rn t 0 v = i → cd w u ≤ cd w v) → ∀ u, u ∈ W ↔ Lw w u ∧ ∀ v, Lw w v → rn t 0 v = rn t 0 u → cd w u ≤ cd w v := by
    intro a t W h l p u
    constructor
    · intro hu
      obtain ⟨i, hi⟩ := List.getElem?_of_mem hu
      obtain ⟨q1, q2, q3⟩ := p i u hi
      exact ⟨q1, fun v hv z => q3 v hv (z.trans q2)⟩
    · rintro ⟨q1, q2⟩
      have hl : rn t 0 u < W.length := by rw [l]; exact h.t.rn q1 h.t.p
      obtain ⟨x, hx⟩ := getQ hl
      obtain ⟨y1, y2, y3⟩ := p _ x hx
      have c1 := q2 x y1 y2
      have c2 := y3 u q1 rfl
      rw [cd_inj q1 y1 (Nat.le_antisymm c1 c2)]
      exact List.mem_of_getElem? hx
  have eW : W1 = W2 := sorted_eq s1 s2 fun u => by
    rw [mem h1 l1 p1 u, mem h2 l2 p2 u]
    exact ⟨fun ⟨q1, q2⟩ => ⟨q1, fun v hv z => q2 v hv ((cls hv q1).mpr z)⟩, fun ⟨q1, q2⟩ => ⟨q1, fun v hv z => q2 v hv ((cls hv q1).mp z)⟩⟩
  subst eW
  have ln : a1.length = a2.length := l1.symm.trans l2
  have rows : ∀ {a : List Bool} {t : List (List Nat)}, Tb a.length w t → ∀ i, i < a.length → ∃ row, t[i]? = some row ∧ row.length = w ∧ t.getD i [] = row := fun {a t} h i hi => by
    obtain ⟨row, hr⟩ := getQ (l := t) (i := i) (by rw [h.l]; exact hi)
    exact ⟨row, hr, h.w row (List.mem_of_getElem? hr), by rw [List.getD_eq_getElem?_getD, hr]; rfl⟩
  refine ⟨?_, ?_⟩
  · refine List.ext_getElem? fun i => ?_
    rcases Nat.lt_or_ge i a1.length with hi | hi
    · obtain ⟨u, hu⟩ := getQ (l := W1) (i := i) (by rw [l1]; exact hi)
      obtain ⟨q1, q2, _⟩ := p1 i u hu
      obtain ⟨_, y2, _⟩ := p2 i u hu
      have := e u q1
      rw [q2, y2] at this
      obtain ⟨b1, g1⟩ := getQ hi
      obtain ⟨b2, g2⟩ := getQ (l := a2) (i := i) (by rw [← ln]; exact hi)
      rw [List.getD_eq_getElem?_getD, List.getD_eq_getElem?_getD, g1, g2] at this
      rw [g1, g2]
      exact congrArg some this
    · rw [List.getElem?_eq_none hi, List.getElem?_eq_none (by rw [← ln]; exact hi)]
  · refine List.ext_getElem? fun i => ?_
    rcases Nat.lt_or_ge i a1.length with hi | hi
    · obtain ⟨r1, g1, w1, d1⟩ := rows h1.t i hi
      obtain ⟨r2, g2, w2, d2⟩ := rows h2.t i (by rw [← ln]; exact hi)
      rw [g1, g2]
      congr 1
      refine List.ext_getElem? fun j => ?_
      rcases Nat.lt_or_ge j w with hj | hj
      · obtain ⟨u, hu⟩ := getQ (l := W1) (i := i) (by rw [l1]; exact hi)
        obtain ⟨q1, q2, _⟩ := p1 i u hu
        obtain ⟨_, y2, _⟩ := p2 i u hu
        have k1 : rn t1 0 (u ++ [j]) = r1.getD j 0 := by rw [rn_snoc, q2, d1]
        have k2 : rn t2 0 (u ++ [j]) = r2.getD j 0 := by rw [rn_snoc, y2, d2]
        have hk : r1.getD j 0 < W1.length := by rw [l1, ← k1]; exact h1.t.rn (q1.snoc hj) h1.t.p
        obtain ⟨v, hv⟩ := getQ hk
        obtain ⟨v1, v2, _⟩ := p1 _ v hv
        obtain ⟨_, v4, _⟩ := p2 _ v hv
        have := (cls (q1.snoc hj) v1).mp (by rw [k1, v2])
        rw [k2, v4] at this
        obtain ⟨x1, z1⟩ := getQ (l := r1) (i := j) (by omega)
        obtain ⟨x2, z2⟩ := getQ (l := r2) (i := j) (by omega)
        rw [List.getD_eq_getElem?_getD, List.getD_eq_getElem?_getD, z1, z2] at this
        rw [z1, z2]
        exact congrArg some this.symm
      · rw [List.getElem?_eq_none (by omega), List.getElem?_eq_none (by omega)]
    · rw [List.getElem?_eq_none (by rw [h1.t.l]; exact hi), List.getElem?_eq_none (by rw [h2.t.l, ← ln]; exact hi)]
end
section
/-! ### finer and finer partitions -/
def dl (tab : List (List Nat)) (s j : Nat) : Nat := (tab.getD s []).getD j 0
theorem Eqv.step {w : Nat} {acc : List Bool} {tab : List (List Nat)} {s t j : Nat} (h : Eqv w acc tab s t) (hj : j < w) : Eqv w acc tab (dl tab s j) (dl tab t j) := fun u hu => h (j :: u) fun x hx => (List.mem_cons.mp hx).elim (fun e => e ▸ hj) (hu x)
theorem Eqv.nil {w : Nat} {acc : List Bool} {tab : List (List Nat)} {s t : Nat} (h : Eqv w acc tab s t) : acc.getD s false = acc.getD t false := h [] Lw.nil
theorem cong_eqv {n w : Nat} {acc : List Bool} {tab : List (List Nat)} (T : Tb n w tab) {R : Nat → Nat → Prop} (h0 : ∀ s t, s < n → t < n → R s t → acc.getD s false = acc.getD t false) (h1 : ∀ s t j, s < n → t < n → j < w → R s t → R (dl tab s j) (dl tab t j)) :
    ∀ (u : List Nat) (s t : Nat), Lw w u → s < n → t < n → R s t → acc.getD (rn tab s u) false = acc.getD (rn tab t u) false
  | [], s, t, _, hs, ht, r => h0 s t hs ht r
  | j :: u, s, t, hu, hs, ht, r => cong_eqv T h0 h1 u (dl tab s j) (dl tab t j) (fun x hx => hu x (List.mem_cons_of_mem _ hx)) (T.b s j hs (hu j List.mem_cons_self)) (T.b t j ht (hu j List.mem_cons_self)) (h1 s t j hs ht (hu j List.mem_cons_self) r)
/-- between two blocks that wait -/
structure HI (n w : Nat) (acc : List Bool) (tab : List (List Nat)) (blo : Nat → Nat) (W : List Nat) : Prop where
  co : ∀ s t, s < n → t < n → Eqv w acc tab s t → blo s = blo t
  kn : ∀ s t, s < n → t < n → blo s = blo t → acc.getD s false = acc.getD t false
  iv : ∀ s t, s < n → t < n → blo s = blo t → ∀ j, j < w → blo (dl tab s j) = blo (dl tab t j) ∨ blo (dl tab s j) ∈ W ∨ blo (dl tab t j) ∈ W
/-- between two letters: a of them are done with the states of G -/
structure HP (n w : Nat) (acc : List Bool) (tab : List (List Nat)) (G : Nat → Prop) (a : Nat) (blo : Nat → Nat) (W : List Nat) : Prop where
  co : ∀ s t, s < n → t < n → Eqv w acc tab s t → blo s = blo t
  kn : ∀ s t, s < n → t < n → blo s = blo t → acc.getD s false = acc.getD t false
  gc : ∀ s t, s < n → t < n → blo s = blo t → (G s ↔ G t)
  dn : ∀ s t, s < n → t < n → blo s = blo t → ∀ j, j < a → j < w → (G (dl tab s j) ↔ G (dl tab t j))
  iv : ∀ s t, s < n → t < n → blo s = blo t → ∀ j, j < w → blo (dl tab s j) = blo (dl tab t j) ∨ blo (dl tab s j) ∈ W ∨ blo (dl tab t j) ∈ W ∨ (a ≤ j ∧ ¬ (G (dl tab s j) ↔ G (dl tab t j)))
/-- what a cut does: the marked states of each block and its others are parted; one of the two parts is among the new blocks -/
structure Cut (n : Nat) (M : Nat → Prop) (blo blo' : Nat → Nat) (made : List Nat) : Prop where
  eq : ∀ s t, s < n → t < n → (blo' s = blo' t ↔ blo s = blo t ∧ (M s ↔ M t))
  nw : ∀ s, s < n → blo' s = blo s ∨ blo' s ∈ made
theorem HI.pop {n w b : Nat} {acc : List Bool} {tab : List (List Nat)} {blo : Nat → Nat} {W : List Nat} (h : HI n w acc tab blo (W ++ [b])) : HP n w acc tab (fun s => blo s = b) 0 blo W := by
  refine ⟨h.co, h.kn, fun s t _ _ e => by rw [e], fun s t _ _ _ j hj => absurd hj (Nat.not_lt_zero j), fun s t hs ht e j hj => ?_⟩
  by_cases g : blo (dl tab s j) = blo (dl tab t j)
  · exact .inl g
  · have : ∀ x, x ∈ W ++ [b] → x ∈ W ∨ x = b := fun x hx => (List.mem_append.mp hx).imp id List.mem_singleton.mp
    rcases h.iv s t hs ht e j hj with z | z | z
    · exact .inl z
    · rcases this _ z with z | z
      · exact .inr (.inl z)
      · exact .inr (.inr (.inr ⟨Nat.zero_le _, fun y => g (z.trans (y.mp z).symm)⟩))
    · rcases this _ z with z | z
      · exact .inr (.inr (.inl z))
      · exact .inr (.inr (.inr ⟨Nat.zero_le _, fun y => g ((y.mpr z).trans z.symm)⟩))
theorem HP.next {n w a : Nat} {acc : List Bool} {tab : List (List Nat)} {G : Nat → Prop} {blo blo' : Nat → Nat} {W made : List Nat} (T : Tb n w tab) (h : HP n w acc tab G a blo W) (ha : a < w) (c : Cut n (fun s => G (dl tab s a)) blo blo' made) : HP n w acc tab G (a + 1) blo' (W ++ made) := by
  have cl : ∀ {s j}, s < n → j < w → dl tab s j < n := fun hs hj => T.b _ _ hs hj
  refine ⟨fun s t hs ht e => ?_, fun s t hs ht e => ?_, fun s t hs ht e => ?_, fun s t hs ht e j hj hw => ?_, fun s t hs ht e j hj => ?_⟩
  · exact (c.eq s t hs ht).mpr ⟨h.co s t hs ht e, h.gc _ _ (cl hs ha) (cl ht ha) (h.co _ _ (cl hs ha) (cl ht ha) (e.step ha))⟩
  · exact h.kn s t hs ht ((c.eq s t hs ht).mp e).1
  · exact h.gc s t hs ht ((c.eq s t hs ht).mp e).1
  · obtain ⟨e1, e2⟩ := (c.eq s t hs ht).mp e
    rcases Nat.lt_or_ge j a with z | z
    · exact h.dn s t hs ht e1 j z hw
    · obtain rfl : j = a := by omega
      exact e2
  · obtain ⟨e1, e2⟩ := (c.eq s t hs ht).mp e
    have inW : ∀ {x}, x < n → blo x ∈ W → blo' x ∈ W ++ made := fun hx z => by
      rcases c.nw _ hx with y | y
      · rw [y]; exact List.mem_append.mpr (.inl z)
      · exact List.mem_append.mpr (.inr y)
    rcases h.iv s t hs ht e1 j hj with z | z | z | ⟨z1, z2⟩
    · rcases c.nw _ (cl hs hj) with y | y
      · rcases c.nw _ (cl ht hj) with x | x
        · exact .inl (y.trans (z.trans x.symm))
        · exact .inr (.inr (.inl (List.mem_append.mpr (.inr x))))
      · exact .inr (.inl (List.mem_append.mpr (.inr y)))
    · exact .inr (.inl (inW (cl hs hj) z))
    · exact .inr (.inr (.inl (inW (cl ht hj) z)))
    · refine .inr (.inr (.inr ⟨?_, z2⟩))
      rcases Nat.lt_or_ge a j with y | y
      · exact y
      · obtain rfl : j = a := by omega
        exact absurd e2 z2
theorem HP.last {n w : Nat} {acc : List Bool} {tab : List (List Nat)} {G : Nat → Prop} {blo : Nat → Nat} {W : List Nat} (h : HP n w acc tab G w blo W) : HI n w acc tab blo W :=
  ⟨h.co, h.kn, fun s t hs ht e j hj => by
    rcases h.iv s t hs ht e j hj with z | z | z | ⟨z, _⟩
    · exact .inl z
    · exact .inr (.inl z)
    · exact .inr (.inr z)
    · omega⟩
theorem HI.done {n w : Nat} {acc : List Bool} {tab : List (List Nat)} {blo : Nat → Nat} (T : Tb n w tab) (h : HI n w acc tab blo []) {s t : Nat} (hs : s < n) (ht : t < n) : blo s = blo t ↔ Eqv w acc tab s t := by
  refine ⟨fun e u hu => cong_eqv T (R := fun s t => blo s = blo t) h.kn (fun s t j hs ht hj r => ?_) u s t hu hs ht e, h.co s t hs ht⟩
  rcases h.iv s t hs ht r j hj with z | z | z
  · exact z
  · cases z
  · cases z
theorem HI.start {n w : Nat} {acc : List Bool} {tab : List (List Nat)} {blo : Nat → Nat} {W : List Nat} (hk : ∀ s t, s < n → t < n → (blo s = blo t ↔ acc.getD s false = acc.getD t false)) (hW : ∀ s, s < n → blo s ∈ W) (T : Tb n w tab) : HI n w acc tab blo W :=
  ⟨fun s t hs ht e => (hk s t hs ht).mpr e.nil, fun s t hs ht e => (hk s t hs ht).mp e, fun s t hs ht e j hj => .inr (.inl (hW _ (T.b s j hs hj)))⟩
/-! ### numbers in the order of the first states -/
structure Num (n : Nat) (E : Nat → Nat → Prop) (num : List Nat) : Prop where
  l : num.length = n
  nw : ∀ i, i < n → ∀ c, c < num.getD i 0 → ∃ s, s < i ∧ num.getD s 0 = c
  eq : ∀ s t, s < n → t < n → (num.getD s 0 = num.getD t 0 ↔ E s t)
structure Fst (n : Nat) (num f : List Nat) : Prop where
  lt : ∀ k, k < f.length → f.getD k 0 < n ∧ num.getD (f.getD k 0) 0 = k
  le : ∀ s, s < n → num.getD s 0 < f.length ∧ f.getD (num.getD s 0) 0 ≤ s
  up : f.Pairwise (· < ·)
theorem getD_app_l {l : List Nat} {a k d : Nat} (h : k < l.length) : (l ++ [a]).getD k d = l.getD k d := by
  rw [List.getD_eq_getElem?_getD, List.getD_eq_getElem?_getD, List.getElem?_append_left h]
theorem getD_app_r {l : List Nat} {a d : Nat} : (l ++ [a]).getD l.length d = a := by
  rw [List.getD_eq_getElem?_getD, app_r]; rfl
theorem Fst.none {num : List Nat} : Fst 0 num [] := ⟨fun k hk => absurd hk (Nat.not_lt_zero k), fun s hs => absurd hs (Nat.not_lt_zero s), List.Pairwise.nil⟩
theorem Fst.old {i : Nat} {num f : List Nat} (h : Fst i num f) (hn : num.getD i 0 ≠ f.length) (nw : ∀ c, c < num.getD i 0 → ∃ s, s < i ∧ num.getD s 0 = c) : Fst (i + 1) num f := by
  refine ⟨fun k hk => ⟨Nat.lt_succ_of_lt (h.lt k hk).1, (h.lt k hk).2⟩, fun s hs => ?_, h.up⟩
  rcases Nat.lt_or_ge s i with z | z
  · exact h.le s z
  · obtain rfl : s = i := by omega
    have hlt : num.getD s 0 < f.length := by
      rcases Nat.lt_or_ge f.length (num.getD s 0) with y | y
      · obtain ⟨t, ht, e⟩ := nw _ y
        have := (h.le t ht).1
        omega
      · omega
    exact ⟨hlt, Nat.le_of_lt (h.lt _ hlt).1⟩
theorem Fst.new {i : Nat} {num f : List Nat} (h : Fst i num f) (hn : num.getD i 0 = f.length) : Fst (i + 1) num (f ++ [i]) := by
  refine ⟨fun k hk => ?_, fun s hs => ?_, List.pairwise_append.mpr ⟨h.up, List.pairwise_singleton _ _, fun a ha b hb => ?_⟩⟩
  · rw [List.length_append, List.length_singleton] at hk
    rcases Nat.lt_or_ge k f.length with z | z
    · rw [getD_app_l z]
      exact ⟨Nat.lt_succ_of_lt (h.lt k z).1, (h.lt k z).2⟩
    · obtain rfl : k = f.length := by omega
      rw [getD_app_r]
      exact ⟨Nat.lt_succ_self _, hn⟩
  · rw [List.length_append, List.length_singleton]
    rcases Nat.lt_or_ge s i with z | z
    · have := h.le s z
      rw [getD_app_l this.1]
      exact ⟨Nat.lt_succ_of_lt this.1, this.2⟩
    · obtain rfl : s = i := by omega
      rw [hn, getD_app_r]
      exact ⟨Nat.lt_succ_self _, Nat.le_refl _⟩
  · rw [List.mem_singleton.mp hb]
    obtain ⟨k, hk⟩ := List.getElem?_of_mem ha
    have := (h.lt k (ltQ hk)).1
    rw [List.getD_eq_getElem?_getD, hk] at this
    exact this
/-- the machine of the blocks -/
def mgA (acc : List Bool) (f : List Nat) : List Bool := f.map fun s => acc.getD s false
def mgT (tab : List (List Nat)) (num f : List Nat) : List (List Nat) := f.map fun s => (tab.getD s []).map fun t => num.getD t 0
theorem map_at {α : Type} {f : List Nat} {g : Nat → α} {k : Nat} (d : α) (h : k < f.length) : (f.map g).getD k d = g (f.getD k 0) := by
  obtain ⟨x, hx⟩ := getQ h
  rw [List.getD_eq_getElem?_getD, List.getElem?_map, hx, List.getD_eq_getElem?_getD, hx]
  rfl
theorem merged {n w : Nat} {acc : List Bool} {tab : List (List Nat)} {num f : List Nat} {W : List (List Nat)} (hn : acc.length = n) (T : Tb n w tab) (N : Num n (Eqv w acc tab) num) (F : Fst n num f) (hW : W.length = n) (sW : W.Pairwise (fun u v => cd w u < cd w v))
    (pW : ∀ i u, W[i]? = some u → Lw w u ∧ rn tab 0 u = i ∧ ∀ v, Lw w v → rn tab 0 v = i → cd w u ≤ cd w v) : Cano w (mgA acc f) (mgT tab num f) ∧ ∀ u, Lw w u → (mgA acc f).getD (rn (mgT tab num f) 0 u) false = acc.getD (rn tab 0 u) false := by
  have row : ∀ s, s < n → (tab.getD s []).length = w := fun s hs => by
    obtain ⟨r, hr⟩ := getQ (l := tab) (i := s) (by rw [T.l]; exact hs)
    rw [List.getD_eq_getElem?_getD, hr]
    exact T.w r (List.mem_of_getElem? hr)
  have stp : ∀ s j, s < n → j < w → dl (mgT tab num f) (num.getD s 0) j = num.getD (dl tab s j) 0 := fun s j hs hj => by
    obtain ⟨h1, h2⟩ := F.le s hs
    obtain ⟨h3, h4⟩ := F.lt _ h1
    unfold dl mgT
    rw [map_at [] h1, map_at 0 (by rw [row _ h3]; exact hj)]
    refine (N.eq _ _ (T.b _ _ h3 hj) (T.b _ _ hs hj)).mpr ?_
    exact ((N.eq _ _ h3 hs).mp h4).step hj
  have run : ∀ (u : List Nat) (s : Nat), s < n → Lw w u → rn (mgT tab num f) (num.getD s 0) u = num.getD (rn tab s u) 0 := by
    intro u
    induction u with
    | nil => exact fun s _ _ => rfl
    | cons j u ih =>
      intro s hs hu
      have hj := hu j List.mem_cons_self
      show rn _ (dl (mgT tab num f) (num.getD s 0) j) u = num.getD (rn tab (dl tab s j) u) 0
      rw [stp s j hs hj]
      exact ih _ (T.b s j hs hj) fun x hx => hu x (List.mem_cons_of_mem _ hx)
  have n0 : num.getD 0 0 = 0 := by
    have h := F.le 0 T.p
    rcases Nat.eq_zero_or_pos (num.getD 0 0) with z | z
    · exact z
    · obtain ⟨s, hs, _⟩ := N.nw 0 T.p 0 z
      omega
  have acc' : ∀ s, s < n → (mgA acc f).getD (num.getD s 0) false = acc.getD s false := fun s hs => by
    obtain ⟨h1, h2⟩ := F.le s hs
    obtain ⟨h3, h4⟩ := F.lt _ h1
    unfold mgA
    rw [map_at false h1]
    exact ((N.eq _ _ h3 hs).mp h4).nil
  have fl : 0 < f.length := Nat.lt_of_le_of_lt (Nat.zero_le _) (F.le 0 T.p).1
  have la : (mgA acc f).length = f.length := List.length_map _
  refine ⟨⟨⟨by rw [la]; exact fl, by rw [la]; exact List.length_map _, fun s j hs hj => ?_, fun r hr => ?_⟩, fun s t hs ht e => ?_, ?_⟩, fun u hu => ?_⟩
  · rw [la] at hs ⊢
    obtain ⟨h3, h4⟩ := F.lt s hs
    have := stp _ j h3 hj
    rw [h4] at this
    show dl _ s j < _
    rw [this]
    exact (F.le _ (T.b _ _ h3 hj)).1
  · obtain ⟨s, hs, rfl⟩ := List.mem_map.mp hr
    obtain ⟨k, hk⟩ := List.getElem?_of_mem hs
    have := (F.lt k (ltQ hk)).1
    rw [List.getD_eq_getElem?_getD, hk] at this
    rw [List.length_map]
    exact row s this
  · rw [la] at hs ht
    obtain ⟨a1, a2⟩ := F.lt s hs
    obtain ⟨b1, b2⟩ := F.lt t ht
    have : num.getD (f.getD s 0) 0 = num.getD (f.getD t 0) 0 := (N.eq _ _ a1 b1).mpr fun u hu => by
      have := e u hu
      rw [← a2, ← b2, run u _ a1 hu, run u _ b1 hu, acc' _ (T.rn hu a1), acc' _ (T.rn hu b1)] at this
      exact this
    rw [a2, b2] at this
    exact this
  · refine ⟨f.map fun s => W.getD s [], by rw [List.length_map, la], List.pairwise_map.mpr (List.Pairwise.imp_of_mem (fun {a b} ha hb hab => ?_) F.up), fun k u hk => ?_⟩
    · have lt : ∀ x ∈ f, x < W.length := fun x hx => by
        obtain ⟨k, hk⟩ := List.getElem?_of_mem hx
        have := (F.lt k (ltQ hk)).1
        rw [List.getD_eq_getElem?_getD, hk] at this
        rw [hW]; exact this
      rw [List.getD_eq_getElem?_getD, List.getD_eq_getElem?_getD, List.getElem?_eq_getElem (lt a ha), List.getElem?_eq_getElem (lt b hb)]
      exact List.pairwise_iff_getElem.mp sW a b (lt a ha) (lt b hb) hab
    · rw [List.getElem?_map] at hk
      obtain ⟨s, hs, e⟩ := Option.map_eq_some_iff.mp hk
      obtain ⟨h1, h2⟩ := F.lt k (ltQ hs)
      have fk : f.getD k 0 = s := by rw [List.getD_eq_getElem?_getD, hs]; rfl
      rw [fk] at h1 h2
      obtain ⟨x, hx⟩ := getQ (l := W) (i := s) (by rw [hW]; exact h1)
      rw [List.getD_eq_getElem?_getD, hx] at e
      obtain rfl : x = u := e
      obtain ⟨q1, q2, q3⟩ := pW s x hx
      refine ⟨q1, by rw [← n0, run x 0 T.p q1, q2, h2], fun v hv z => ?_⟩
      rw [← n0, run v 0 T.p hv] at z
      have lt := T.rn hv T.p
      obtain ⟨y, hy⟩ := getQ (l := W) (i := rn tab 0 v) (by rw [hW]; exact lt)
      obtain ⟨y1, y2, y3⟩ := pW _ y hy
      have c2 := y3 v hv rfl
      have hle := (F.le _ lt).2
      rw [z, fk] at hle
      rcases Nat.lt_or_eq_of_le hle with g | g
      · obtain ⟨i1, i2⟩ := List.getElem?_eq_some_iff.mp hx
        obtain ⟨j1, j2⟩ := List.getElem?_eq_some_iff.mp hy
        have := List.pairwise_iff_getElem.mp sW s _ i1 j1 g
        rw [i2, j2] at this
        omega
      · rw [← g, hx] at hy
        cases hy
        exact c2
  · have := run u 0 T.p hu
    rw [n0] at this
    rw [this, acc' _ (T.rn hu T.p)]
end
section
/-- rows in lists of their own, in the hidden part -/
structure RowsM (K : PySem.W.Frag) (S : List Addr) (H : Hp) (rs : List Addr) (ts : List (List PyData)) : Prop where
  nd : rs.Nodup
  len : rs.length = ts.length
  sub : ∀ r ∈ rs, r ∈ S
  at' : ∀ (i : Nat) (r : Addr) (es : List PyData), rs[i]? = some r → ts[i]? = some es → ∃ ws, H r = some (.lst ws) ∧ DpAll K (hid S H) ws es
theorem RowsM.mono {S : List Addr} {H H' : Hp} {rs : List Addr} {ts : List (List PyData)} (h : RowsM K S H rs ts) (k : Kp S H H') (kr : ∀ r ∈ rs, ∀ o, H r = some o → H' r = some o) : RowsM K S H' rs ts :=
  ⟨h.nd, h.len, h.sub, fun i r es h1 h2 => by
    obtain ⟨ws, a, b⟩ := h.at' i r es h1 h2
    exact ⟨ws, kr r (List.mem_of_getElem? h1) _ a, b.ex k.ex⟩⟩
theorem RowsM.set {S : List Addr} {H : Hp} {rs : List Addr} {ts : List (List PyData)} {i : Nat} {r : Addr} {ws : List V} {es : List PyData} (h : RowsM K S H rs ts) (hr : rs[i]? = some r) (hd : DpAll K (hid S H) ws es) : RowsM K S (upd H r (.lst ws)) rs (ts.set i es) := by
  have rm : r ∈ S := h.sub r (List.mem_of_getElem? hr)
  have k : Kp S H (upd H r (.lst ws)) := Kp.put rm
  refine ⟨h.nd, by rw [List.length_set]; exact h.len, h.sub, fun i' q es' h1 h2 => ?_⟩
  have hl : i < rs.length := (List.getElem?_eq_some_iff.mp hr).1
  by_cases e : i' = i
  · subst e
    rw [hr] at h1
    obtain rfl := Option.some.inj h1
    rw [List.getElem?_set_self (by rw [← h.len]; exact hl)] at h2
    obtain rfl := Option.some.inj h2
    exact ⟨ws, upd_same, hd.ex k.ex⟩
  · rw [List.getElem?_set_ne (fun z => e z.symm)] at h2
    have hne : q ≠ r := fun z => by
      subst z
      have hil : i' < rs.length := (List.getElem?_eq_some_iff.mp h1).1
      exact e ((List.getElem?_inj hil h.nd).mp (h1.trans hr.symm))
    obtain ⟨ws', a, b⟩ := h.at' i' q es' h1 h2
    exact ⟨ws', by rw [upd_ne hne]; exact a, b.ex k.ex⟩
theorem RowsM.dp {S : List Addr} {H : Hp} {rs : List Addr} {ts : List (List PyData)} (h : RowsM K S H rs ts) : DpAll K H (rs.map V.ref) (ts.map PyData.list) :=
  DpAll.of (by rw [List.length_map, List.length_map, h.len]) fun i v d h1 h2 => by
    rw [List.getElem?_map] at h1 h2
    obtain ⟨r, hr, rfl⟩ := Option.map_eq_some_iff.mp h1
    obtain ⟨es, he, rfl⟩ := Option.map_eq_some_iff.mp h2
    obtain ⟨ws, a, b⟩ := h.at' i r es hr he
    exact .lst (SqL.of a) (b.ex hid_ex)

/-- [[] for row in rows] -/
theorem lc_newM {S : List Addr} {j : Nat} {σ : L2.St} {H H0 : Hp} {Q : VK} {J : It} {ds : List PyData} (hS : ∀ b ∈ S, ∃ o, H b = some o) (w : Wd K J ds H0) (e0 : Ex H0 (hid S H)) (hn : ds.length < 100000) (hw : ∀ v : V, wipe ((wipe σ [j]).set j (some v)) [j] = wipe σ [j])
    (h : ∀ L rs Hc, Ex H Hc → H L = none → L ∉ S → Hc L = some (.lst (rs.map V.ref)) → (∀ r ∈ rs, H r = none) → L ∉ rs → RowsM K (rs ++ L :: S) Hc rs (List.replicate ds.length []) → Q (.ref L) Hc) : lcB (gName j) tYes (tLst tNil) [j] σ Q J H := by
  generalize hts : List.replicate ds.length ([] : List PyData) = ts at h
  have hl : ds.length = ts.length := by rw [← hts, List.length_replicate]
  have htn : ∀ (i : Nat) es, ts[i]? = some es → es = [] := fun i es q => by
    rw [← hts, List.getElem?_replicate] at q
    split at q
    · exact (Option.some.inj q).symm
    · cases q
  intro L hL
  have nL : L ∉ S := notin_of hS hL
  refine lc_it w (fun i Hc => Ex H Hc ∧ ∃ rs : List Addr, Hc L = some (.lst (rs.map V.ref)) ∧ rs.length = i ∧ rs.Nodup ∧ (∀ r ∈ rs, H r = none) ∧ L ∉ rs ∧ ∀ (i' : Nat) (r : Addr) (es : List PyData), rs[i']? = some r → ts[i']? = some es → ∃ ws, Hc r = some (.lst ws) ∧ DpAll K (hid S H) ws es)
    ⟨Evl.Ex.new hL, [], upd_same, rfl, List.nodup_nil, (fun r hr => nomatch hr), List.not_mem_nil, fun i' r es z => by simp at z⟩ (fun i Hc _ q => e0.trans ((Ex.hid q.1).trans hid_ex)) (fun i x Hc H' hi q y => ?_) fun Hc q => ?_
  · obtain ⟨e1, rs, h1, h2, h3, h4, h5, h6⟩ := q
    obtain ⟨rfl, d, hd1, hd2⟩ := y
    refine ⟨hw x, rd_yes ?_⟩
    refine rd_iteT ?_
    have hti : i < ts.length := by rw [← hl]; exact hi
    refine rd_lst ?_
    refine rd_nil ?_
    refine ⟨by decide, fun l hl' => ?_⟩
    have nlL : l ≠ L := fun z => by rw [z, h1] at hl'; cases hl'
    have nlr : l ∉ rs := fun z => by
      obtain ⟨i', hi'⟩ := List.getElem?_of_mem z
      have hlt := (List.getElem?_eq_some_iff.mp hi').1
      obtain ⟨ws, a, _⟩ := h6 i' l _ hi' (List.getElem?_eq_getElem (show i' < ts.length by omega))
      rw [hl'] at a; cases a
    have fl : H l = none := Evl.fresh_back e1 hl'
    refine ⟨rs.map V.ref, by rw [upd_ne (Ne.symm nlL)]; exact h1, ?_, Evl.Ex.mut (ex_upd e1 hl') hL, rs ++ [l], by rw [upd_same, List.map_append]; rfl, by rw [List.length_append, h2]; rfl, ?_, fun r hr => ?_, fun z => ?_, fun i' r es g1 g2 => ?_⟩
    · rw [List.length_map, h2]
      exact Nat.lt_of_lt_of_le (Nat.lt_trans hi hn) (by decide)
    · exact List.nodup_append.mpr ⟨h3, List.nodup_cons.mpr ⟨List.not_mem_nil, List.nodup_nil⟩, fun a ha b hb q => by
        rw [List.mem_singleton.mp hb] at q
        rw [q] at ha
        exact nlr ha⟩
    · rcases List.mem_append.mp hr with y | y
      · exact h4 r y
      · rw [List.mem_singleton.mp y]; exact fl
    · rcases List.mem_append.mp z with y | y
      · exact h5 y
      · exact nlL (List.mem_singleton.mp y).symm
    · by_cases hlt : i' < rs.length
      · rw [List.getElem?_append_left hlt] at g1
        obtain ⟨ws, a, b⟩ := h6 i' r es g1 g2
        have rm := List.mem_of_getElem? g1
        refine ⟨ws, ?_, b⟩
        rw [upd_ne (show r ≠ L from fun z => h5 (by rw [← z]; exact rm)), upd_ne (show r ≠ l from fun z => nlr (by rw [← z]; exact rm))]
        exact a
      · rw [List.getElem?_append_right (by omega)] at g1
        have e0' : i' - rs.length = 0 := by
          rcases Nat.eq_zero_or_pos (i' - rs.length) with z | z
          · exact z
          · rw [List.getElem?_eq_none (by simp; omega)] at g1
            cases g1
        rw [e0'] at g1
        obtain rfl : l = r := Option.some.inj g1
        have e3 : i' = i := by omega
        subst e3
        rw [List.getElem?_eq_getElem hti] at g2
        obtain rfl := Option.some.inj g2
        have ee := htn _ _ (List.getElem?_eq_getElem hti)
        rw [ee]
        exact ⟨[], by rw [upd_ne nlL, upd_same], .nil⟩
  · obtain ⟨e1, rs, h1, h2, h3, h4, h5, h6⟩ := q
    refine h L rs Hc e1 hL nL h1 h4 h5 ⟨h3, by omega, fun r hr => List.mem_append.mpr (.inl hr), fun i' r es g1 g2 => ?_⟩
    obtain ⟨ws, a, b⟩ := h6 i' r es g1 g2
    refine ⟨ws, a, b.ex ((Kp.of_ex (S := S) e1).up fun b hb hn => ?_)⟩
    rcases List.mem_append.mp hb with z | z
    · exact h4 b z
    · rcases List.mem_cons.mp z with z | z
      · rw [z]; exact hL
      · exact absurd z hn

/-- the ways back, up to the j-th of the i-th row -/
structure BkL (tab : List (List Nat)) (i j : Nat) (bk : List (List Nat)) : Prop where
  n : bk.length = tab.length
  l : ∀ row ∈ bk, row.length ≤ i * 100 + j
  m : ∀ t s : Nat, s ∈ bk.getD t [] ↔ (s < i ∧ t ∈ tab.getD s []) ∨ (s = i ∧ t ∈ (tab.getD i []).take j)
  nd : (∀ row ∈ tab, row.length ≤ 1) → ∀ t, (bk.getD t []).Nodup
theorem BkL.put {tab : List (List Nat)} {i j t : Nat} {bk : List (List Nat)} (h : BkL tab i j bk) (ht : (tab.getD i [])[j]? = some t) (tl : t < tab.length) : BkL tab i (j + 1) (bk.set t (bk.getD t [] ++ [i])) := by
  have tl' : t < bk.length := by rw [h.n]; exact tl
  refine ⟨by rw [List.length_set]; exact h.n, fun row hr => ?_, fun u s => ?_, fun h1 u => ?_⟩
  · rcases List.mem_or_eq_of_mem_set hr with z | z
    · have := h.l row z; omega
    · rw [z, List.length_append, List.length_singleton]
      have : bk.getD t [] ∈ bk := by
        rw [List.getD_eq_getElem?_getD, List.getElem?_eq_getElem tl']
        exact List.getElem_mem tl'
      have := h.l _ this
      omega
  · rw [getD_set tl', List.take_succ, ht]
    by_cases e : u = t
    · rw [if_pos e, e, List.mem_append, h.m]
      simp only [List.mem_singleton, List.mem_append, Option.toList_some]
      constructor
      · rintro (z | z)
        · exact z.imp id fun z => ⟨z.1, .inl z.2⟩
        · exact .inr ⟨z, .inr True.intro⟩
      · rintro (z | ⟨z, y | _⟩)
        · exact .inl (.inl z)
        · exact .inl (.inr ⟨z, y⟩)
        · exact .inr z
    · rw [if_neg e, h.m]
      simp only [List.mem_append, Option.toList_some, List.mem_singleton]
      constructor
      · exact fun z => z.imp id fun z => ⟨z.1, .inl z.2⟩
      · exact fun z => z.imp id fun z => ⟨z.1, z.2.resolve_right e⟩
  · rw [getD_set tl']
    by_cases e : u = t
    · rw [if_pos e]
      have j0 : j = 0 := by
        rcases Nat.lt_or_ge i tab.length with z | z
        · have er : tab.getD i [] = tab[i] := by rw [List.getD_eq_getElem?_getD, List.getElem?_eq_getElem z]; rfl
          have := h1 tab[i] (List.getElem_mem z)
          rw [er] at ht
          have := ltQ ht
          omega
        · rw [List.getD_eq_getElem?_getD, List.getElem?_eq_none z] at ht
          cases ht
      refine List.nodup_append.mpr ⟨h.nd h1 t, List.nodup_cons.mpr ⟨(fun z => nomatch z), List.nodup_nil⟩, fun x hx y hy e => ?_⟩
      rw [List.mem_singleton.mp hy] at e
      rw [e, h.m, j0, List.take_zero] at hx
      rcases hx with z | z
      · omega
      · cases z.2
    · rw [if_neg e]
      exact h.nd h1 u
theorem BkL.next {tab : List (List Nat)} {i : Nat} {bk : List (List Nat)} (h : BkL tab i (tab.getD i []).length bk) (hw : (tab.getD i []).length ≤ 100) : BkL tab (i + 1) 0 bk := by
  refine ⟨h.n, fun row hr => ?_, fun t s => ?_, h.nd⟩
  · have := h.l row hr; omega
  · rw [h.m, List.take_length]
    simp only [List.take_zero, List.not_mem_nil, and_false, or_false]
    constructor
    · rintro (⟨a, b⟩ | ⟨a, b⟩)
      · exact ⟨by omega, b⟩
      · rw [a]; exact ⟨by omega, b⟩
    · rintro ⟨a, b⟩
      by_cases e : s = i
      · rw [e] at b; exact .inr ⟨e, b⟩
      · exact .inl ⟨by omega, b⟩
/-- new data: nothing of it stood before -/
def Nw (K : PySem.W.Frag) (H H' : Hp) (v : V) (d : PyData) : Prop := ∀ S : List Addr, (∀ b ∈ S, ∃ o, H b = some o) → Dp K (hid S H') v d
theorem Nw.dp {H H' : Hp} {v : V} {d : PyData} (h : Nw K H H' v d) : Dp K H' v d := by
  have := h [] (fun b hb => nomatch hb)
  rw [hid_nil] at this
  exact this
theorem Nw.up {H H1 H' : Hp} {v : V} {d : PyData} (h : Nw K H1 H' v d) (e : Ex H H1) : Nw K H H' v d := fun S hS => h S fun b hb => by
  obtain ⟨o, z⟩ := hS b hb
  exact ⟨o, e b o z⟩
theorem Nw.ex {H H1 H' : Hp} {v : V} {d : PyData} (h : Nw K H H1 v d) (e : Ex H1 H') : Nw K H H' v d := fun S hS => (h S hS).ex (Ex.hid e)
theorem rd_enTv {K : PySem.W.Frag} {ta : TA} {σ : L2.St} {H : Hp} {R : It → Hp → Prop} (h : ta σ H fun vs H1 => ∃ q xs, vs = [.ref q] ∧ SqT K H1 q xs ∧ R (ItEt K q) H1) : iEnumA K ta σ H R := .inr h
def spWaysL : Sp := fun vs H Q _ => ∃ (y : V) (tab : List (List Nat)), vs = [y] ∧ Dp K H y (nL tab) ∧ Grf tab ∧ (∀ row ∈ tab, row.length ≤ 100) ∧
  ∀ (f : Addr) (bk : List (List Nat)) (H' : Hp), Ex H H' → Nw K H H' (.ref f) (nL bk) → bk.length = tab.length → (∀ t s : Nat, s ∈ bk.getD t [] ↔ t ∈ tab.getD s []) → ((∀ row ∈ tab, row.length ≤ 1) → ∀ t, (bk.getD t []).Nodup) → Q (.ref f) H'
theorem ok_ways_backL (T : Txt K mg) : FnOk P w K mg base CX0 1 T.a_ways_back T.d_ways_back ["nexts"] (spWaysL (K := K)) := by
  refine T.f_ways_back.ok sc_ways_back (fun vs H Q E h => ?_) (fun cdv A outer s H vs Q E hr h => ?_)
  · obtain ⟨_, _, rfl, _⟩ := h; rfl
  · obtain ⟨y, tab, rfl, hy, g, hw, q⟩ := h
    have gn := g.n
    have hsl : 1000000 ≤ sizeLine := by decide
    refine ⟨_, (pss_cons (ps_setLc (i := 1) (own := [("_", 2)]) (g := gName 2) (tt := tYes) (by rfl) sc_ways_back.nd rfl rfl (sw_true rfl rfl rfl (by decide +kernel)) (kAny K rfl (pv 0)) (blkOk_by (own := [("_", 2)]) (N := ["nexts", "found", "_", "state", "afters", "after"]) (sc := defScope s_ways_back) (by decide +kernel)) (fun _ _ _ _ _ => (pg_name (i := 2) sc_ways_back.nd rfl (by first | exact Or.inl rfl | exact Or.inr rfl))) (fun _ _ _ _ _ => pts_nil) (fun _ _ _ _ _ => (pe_lst pa_nil)))
  (pss_cons (ps_for PassesOwn.never rfl (kEn K rfl (pi_enumA (by rfl) T.nb_enumerate (pa_cons (pv 0) pa_nil))) (kGt K rfl (pg_tup (n := 2) (by rfl) (pgs_cons (pg_name (i := 3) sc_ways_back.nd rfl (by first | exact Or.inl rfl | exact Or.inr rfl)) (pgs_cons (pg_name (i := 4) sc_ways_back.nd rfl (by first | exact Or.inl rfl | exact Or.inr rfl)) pgs_nil))))
    (pss_one (ps_for PassesOwn.never rfl (kAny K rfl (pv 4)) (pg_name (i := 5) sc_ways_back.nd rfl (by first | exact Or.inl rfl | exact Or.inr rfl))
    (pss_one (ps_expr (kBm K rfl (pe_bm PySem.F.plainAttrs_list PySem.F.slot_list_append PySem.F.type_list_append mt_append (pe_ix (kIx K) (pv 1) (pv 5) (fun _ _ => rfl)) (pa_cons (pv 3) pa_nil))))))))
  (pss_one (ps_ret (pv 1))))), ?_⟩
    walk_at "rc"
    refine rd_anySq (fun Q q => ⟨_, rfl, q⟩) (Evl.Ex.refl H) (.inl hy) fun J wJ => ?_
    refine lc_newM (K := K) (S := []) (fun b hb => nomatch hb) wJ (by rw [hid_nil]; exact Evl.Ex.refl H) (by rw [List.length_map]; omega) (fun v => rfl) fun L rs H1 e1 hL _ hL1 frs nLr rm => ?_
    rw [List.length_map] at rm
    have rm0 : RowsM K (rs ++ [L]) H1 rs ((List.replicate tab.length ([] : List Nat)).map fun row => row.map nI) := by
      have e : (List.replicate tab.length ([] : List Nat)).map (fun row => row.map nI) = List.replicate tab.length [] := by rw [List.map_replicate]; rfl
      rw [e]; exact rm
    walk_at "rc"
    walk_at "rs"
    walk_at "rc"
    obtain ⟨qa, ys, rfl, hq, hys⟩ := Dp.lstv hy
    refine .inl ⟨_, rfl, qa, ys, rfl, Evl.ex_l e1 hq, ?_⟩
    have yl : ys.length = tab.length := by rw [hys.len, List.length_map]
    refine fo_it walk_enum (fun i σ H' => ∃ (bk : List (List Nat)) (k2 k3 k4 k5 : Option V), σ = [some (.ref qa), some (.ref L), k2, k3, k4, k5] ∧ Ex H H' ∧ H' L = some (.lst (rs.map V.ref)) ∧ RowsM K (rs ++ [L]) H' rs (bk.map fun row => row.map nI) ∧ BkL tab i 0 bk)
      ⟨_, _, _, _, _, rfl, e1, hL1, rm0, ⟨List.length_replicate, fun row hr => ?_, fun t s => ?_, fun _ t => ?_⟩⟩ (fun i σ H' _ p => p.elim fun _ p => p.elim fun _ p => p.elim fun _ p => p.elim fun _ p => p.elim fun _ p => Evl.ex_l p.2.1 hq) ?_ ?_
    · rw [(List.mem_replicate.mp hr).2]; exact Nat.zero_le _
    · have e : (List.replicate tab.length ([] : List Nat)).getD t [] = [] := by
        rw [List.getD_eq_getElem?_getD, List.getElem?_replicate]
        split <;> rfl
      rw [e, List.take_zero]
      simp
    · have e : (List.replicate tab.length ([] : List Nat)).getD t [] = [] := by
        rw [List.getD_eq_getElem?_getD, List.getElem?_replicate]
        split <;> rfl
      rw [e]
      exact List.nodup_nil
    · rintro i x σ H2 H3 hi ⟨bk, k2, k3, k4, k5, rfl, e2, hL2, rm2, hb⟩ ⟨A, u, v, rfl, hA, rfl, hu, hv⟩
      cases hu
      rw [yl] at hi
      obtain ⟨d, hd, hvd⟩ := hys.got hv
      rw [List.getElem?_map] at hd
      obtain ⟨row, hrow, rfl⟩ := Option.map_eq_some_iff.mp hd
      have hrm := List.mem_of_getElem? hrow
      have rb := g.b row hrm
      have rw' := hw row hrm
      have erow : tab.getD i [] = row := by rw [List.getD_eq_getElem?_getD, hrow]; rfl
      have e3 : Ex H (upd H2 A (.tup [.int (i : Nat), v])) := ex_upd e2 hA
      have nAL : L ≠ A := fun z => by rw [← z, hL2] at hA; cases hA
      have hL3 : upd H2 A (.tup [.int (i : Nat), v]) L = some (.lst (rs.map V.ref)) := by rw [upd_ne nAL]; exact hL2
      have rm3 : RowsM K (rs ++ [L]) (upd H2 A (.tup [.int (i : Nat), v])) rs (bk.map fun row => row.map nI) := rm2.mono (Kp.new hA) fun r _ o z => Evl.Ex.new hA r o z
      have hA3 : SqT K (upd H2 A (.tup [.int (i : Nat), v])) A [.int (i : Nat), v] := Evl.st_of upd_same
      generalize upd H2 A (.tup [.int (i : Nat), v]) = H3 at e3 hL3 rm3 hA3
      refine ⟨A, _, rfl, hA3, rfl, ?_⟩
      walk_at "rc"
      refine rd_anySq (fun Q q => ⟨_, rfl, q⟩) e3 (.inl hvd) fun J2 wJ2 => ?_
      refine fo_D wJ2 (fun j σ H' => ∃ (bk : List (List Nat)) (k5 : Option V), σ = [some (.ref qa), some (.ref L), k2, some (.int (i : Nat)), some v, k5] ∧ Ex H H' ∧ H' L = some (.lst (rs.map V.ref)) ∧ RowsM K (rs ++ [L]) H' rs (bk.map fun row => row.map nI) ∧ BkL tab i j bk)
        ⟨bk, _, rfl, e3, hL3, rm3, hb⟩ (fun i σ H' _ p => p.elim fun _ p => p.elim fun _ p => p.2.1) ?_ ?_
      · rintro j d w σ H4 hd hv4 ⟨bk, k5, rfl, e4, hL4, rm4, hb4⟩
        rw [List.getElem?_map] at hd
        obtain ⟨t, ht, rfl⟩ := Option.map_eq_some_iff.mp hd
        cases Dp.int_iff hv4
        have htm := List.mem_of_getElem? ht
        have htl : t < tab.length := rb t htm
        have rsl : rs.length = tab.length := by rw [rm4.len, List.length_map, hb4.n]
        have hrs : rs[t]? = some rs[t] := List.getElem?_eq_getElem (by omega)
        have hbt : bk[t]? = some (bk.getD t []) := by
          rw [List.getD_eq_getElem?_getD, List.getElem?_eq_getElem (by rw [hb4.n]; exact htl)]; rfl
        obtain ⟨ws, hws, hwd⟩ := rm4.at' t _ ((bk.getD t []).map nI) hrs (by rw [List.getElem?_map, hbt]; rfl)
        have bl := hb4.l _ (List.mem_of_getElem? hbt)
        have wl := hwd.len
        rw [List.length_map] at wl
        have jl := (List.getElem?_eq_some_iff.mp ht).1
        walk_at "rc"
        refine rd_ixL (v := V.ref rs[t]) (SqL.of hL4) (atI_nat (j := t) (by rw [List.getElem?_map, hrs]; rfl)) ?_
        walk_at "rc"
        refine ⟨.inl ⟨rfl, _, SqL.of hws⟩, ?_⟩
        walk_at "rc"
        have hrm4 : rs[t] ∈ rs := List.mem_of_getElem? hrs
        refine ⟨rs[t], ws, _, rfl, rfl, hws, by omega, ?_⟩
        have nLt : L ≠ rs[t] := fun z => nLr (by rw [z]; exact hrm4)
        have st := rm4.set (ws := ws ++ [.int (i : Nat)]) hrs (hwd.snoc (d := nI i) (.int _))
        refine ⟨bk.set t (bk.getD t [] ++ [i]), _, rfl, Evl.Ex.mut e4 (frs _ hrm4), by rw [upd_ne nLt]; exact hL4, ?_, hb4.put (by rw [erow]; exact ht) htl⟩
        rw [List.map_set, List.map_append]
        exact st
      · rintro σ H4 ⟨bk, k5, rfl, e4, hL4, rm4, hb4⟩
        rw [List.length_map, ← erow] at hb4
        exact ⟨bk, _, _, _, _, rfl, e4, hL4, rm4, hb4.next (by rw [erow]; exact rw')⟩
    · rintro σ H2 ⟨bk, k2, k3, k4, k5, rfl, e2, hL2, rm2, hb⟩
      rw [yl] at hb
      walk_at "rc"
      refine q L bk H2 e2 (fun S hS => ?_) hb.n (fun t s => ?_) hb.nd
      · have nS : ∀ x, H x = none → x ∉ S := fun x hx z => by
          obtain ⟨o, y⟩ := hS x z
          rw [hx] at y; cases y
        refine .lst (SqL.of (by rw [hid_at (nS L hL)]; exact hL2)) (DpAll.of (by rw [List.length_map, List.length_map, rm2.len, List.length_map]) fun i v d h1 h2 => ?_)
        rw [List.getElem?_map] at h1 h2
        obtain ⟨r, hr, rfl⟩ := Option.map_eq_some_iff.mp h1
        obtain ⟨row, hrow, rfl⟩ := Option.map_eq_some_iff.mp h2
        obtain ⟨ws, w1, w2⟩ := rm2.at' i r (row.map nI) hr (by rw [List.getElem?_map, hrow]; rfl)
        have w3 : ws = row.map vI := by
          have w4 : DpAll K (hid (rs ++ [L]) H2) ws ((row.map Int.ofNat).map PyData.int) := by rw [List.map_map]; exact w2
          rw [dp_ints' w4, List.map_map]; rfl
        have frr := frs r (List.mem_of_getElem? hr)
        refine .lst (SqL.of (by rw [hid_at (nS r frr)]; exact w1)) ?_
        rw [w3]
        exact DpAll.mapV _ _ _ fun x _ => .int x
      · rw [hb.m, List.take_zero]
        constructor
        · rintro (⟨_, z⟩ | ⟨_, z⟩)
          · exact z
          · cases z
        · intro z
          refine .inl ⟨?_, z⟩
          rcases Nat.lt_or_ge s tab.length with h | h
          · exact h
          · rw [List.getD_eq_getElem?_getD, List.getElem?_eq_none h] at z
            cases z
def spWaysT : Sp := fun vs H Q _ => ∃ (y : V) (tab : List (List Nat)), vs = [y] ∧ Dp K H y (nT tab) ∧ Grf tab ∧ (∀ row ∈ tab, row.length ≤ 100) ∧
  ∀ (f : Addr) (bk : List (List Nat)) (H' : Hp), Ex H H' → Nw K H H' (.ref f) (nL bk) → bk.length = tab.length → (∀ t s : Nat, s ∈ bk.getD t [] ↔ t ∈ tab.getD s []) → ((∀ row ∈ tab, row.length ≤ 1) → ∀ t, (bk.getD t []).Nodup) → Q (.ref f) H'
theorem ok_ways_backT (T : Txt K mg) : FnOk P w K mg base CX0 1 T.a_ways_back T.d_ways_back ["nexts"] (spWaysT (K := K)) := by
  refine T.f_ways_back.ok sc_ways_back (fun vs H Q E h => ?_) (fun cdv A outer s H vs Q E hr h => ?_)
  · obtain ⟨_, _, rfl, _⟩ := h; rfl
  · obtain ⟨y, tab, rfl, hy, g, hw, q⟩ := h
    have gn := g.n
    have hsl : 1000000 ≤ sizeLine := by decide
    refine ⟨_, (pss_cons (ps_setLc (i := 1) (own := [("_", 2)]) (g := gName 2) (tt := tYes) (by rfl) sc_ways_back.nd rfl rfl (sw_true rfl rfl rfl (by decide +kernel)) (kAny K rfl (pv 0)) (blkOk_by (own := [("_", 2)]) (N := ["nexts", "found", "_", "state", "afters", "after"]) (sc := defScope s_ways_back) (by decide +kernel)) (fun _ _ _ _ _ => (pg_name (i := 2) sc_ways_back.nd rfl (by first | exact Or.inl rfl | exact Or.inr rfl))) (fun _ _ _ _ _ => pts_nil) (fun _ _ _ _ _ => (pe_lst pa_nil)))
  (pss_cons (ps_for PassesOwn.never rfl (kEn K rfl (pi_enumA (by rfl) T.nb_enumerate (pa_cons (pv 0) pa_nil))) (kGt K rfl (pg_tup (n := 2) (by rfl) (pgs_cons (pg_name (i := 3) sc_ways_back.nd rfl (by first | exact Or.inl rfl | exact Or.inr rfl)) (pgs_cons (pg_name (i := 4) sc_ways_back.nd rfl (by first | exact Or.inl rfl | exact Or.inr rfl)) pgs_nil))))
    (pss_one (ps_for PassesOwn.never rfl (kAny K rfl (pv 4)) (pg_name (i := 5) sc_ways_back.nd rfl (by first | exact Or.inl rfl | exact Or.inr rfl))
    (pss_one (ps_expr (kBm K rfl (pe_bm PySem.F.plainAttrs_list PySem.F.slot_list_append PySem.F.type_list_append mt_append (pe_ix (kIx K) (pv 1) (pv 5) (fun _ _ => rfl)) (pa_cons (pv 3) pa_nil))))))))
  (pss_one (ps_ret (pv 1))))), ?_⟩
    walk_at "rc"
    refine rd_anySq (fun Q q => ⟨_, rfl, q⟩) (Evl.Ex.refl H) (.inr hy) fun J wJ => ?_
    refine lc_newM (K := K) (S := []) (fun b hb => nomatch hb) wJ (by rw [hid_nil]; exact Evl.Ex.refl H) (by rw [List.length_map]; omega) (fun v => rfl) fun L rs H1 e1 hL _ hL1 frs nLr rm => ?_
    rw [List.length_map] at rm
    have rm0 : RowsM K (rs ++ [L]) H1 rs ((List.replicate tab.length ([] : List Nat)).map fun row => row.map nI) := by
      have e : (List.replicate tab.length ([] : List Nat)).map (fun row => row.map nI) = List.replicate tab.length [] := by rw [List.map_replicate]; rfl
      rw [e]; exact rm
    walk_at "rc"
    walk_at "rs"
    walk_at "rc"
    obtain ⟨qa, ys, rfl, hq, hys⟩ := Dp.tupv hy
    refine rd_enTv ?_
    walk_at "rc"
    refine ⟨qa, ys, rfl, Evl.ex_t e1 hq, ?_⟩
    have yl : ys.length = tab.length := by rw [hys.len, List.length_map]
    refine fo_it walk_enumT (fun i σ H' => ∃ (bk : List (List Nat)) (k2 k3 k4 k5 : Option V), σ = [some (.ref qa), some (.ref L), k2, k3, k4, k5] ∧ Ex H H' ∧ H' L = some (.lst (rs.map V.ref)) ∧ RowsM K (rs ++ [L]) H' rs (bk.map fun row => row.map nI) ∧ BkL tab i 0 bk)
      ⟨_, _, _, _, _, rfl, e1, hL1, rm0, ⟨List.length_replicate, fun row hr => ?_, fun t s => ?_, fun _ t => ?_⟩⟩ (fun i σ H' _ p => p.elim fun _ p => p.elim fun _ p => p.elim fun _ p => p.elim fun _ p => p.elim fun _ p => Evl.ex_t p.2.1 hq) ?_ ?_
    · rw [(List.mem_replicate.mp hr).2]; exact Nat.zero_le _
    · have e : (List.replicate tab.length ([] : List Nat)).getD t [] = [] := by
        rw [List.getD_eq_getElem?_getD, List.getElem?_replicate]
        split <;> rfl
      rw [e, List.take_zero]
      simp
    · have e : (List.replicate tab.length ([] : List Nat)).getD t [] = [] := by
        rw [List.getD_eq_getElem?_getD, List.getElem?_replicate]
        split <;> rfl
      rw [e]
      exact List.nodup_nil
    · rintro i x σ H2 H3 hi ⟨bk, k2, k3, k4, k5, rfl, e2, hL2, rm2, hb⟩ ⟨A, u, v, rfl, hA, rfl, hu, hv⟩
      cases hu
      rw [yl] at hi
      obtain ⟨d, hd, hvd⟩ := hys.got hv
      rw [List.getElem?_map] at hd
      obtain ⟨row, hrow, rfl⟩ := Option.map_eq_some_iff.mp hd
      have hrm := List.mem_of_getElem? hrow
      have rb := g.b row hrm
      have rw' := hw row hrm
      have erow : tab.getD i [] = row := by rw [List.getD_eq_getElem?_getD, hrow]; rfl
      have e3 : Ex H (upd H2 A (.tup [.int (i : Nat), v])) := ex_upd e2 hA
      have nAL : L ≠ A := fun z => by rw [← z, hL2] at hA; cases hA
      have hL3 : upd H2 A (.tup [.int (i : Nat), v]) L = some (.lst (rs.map V.ref)) := by rw [upd_ne nAL]; exact hL2
      have rm3 : RowsM K (rs ++ [L]) (upd H2 A (.tup [.int (i : Nat), v])) rs (bk.map fun row => row.map nI) := rm2.mono (Kp.new hA) fun r _ o z => Evl.Ex.new hA r o z
      have hA3 : SqT K (upd H2 A (.tup [.int (i : Nat), v])) A [.int (i : Nat), v] := Evl.st_of upd_same
      generalize upd H2 A (.tup [.int (i : Nat), v]) = H3 at e3 hL3 rm3 hA3
      refine ⟨A, _, rfl, hA3, rfl, ?_⟩
      walk_at "rc"
      refine rd_anySq (fun Q q => ⟨_, rfl, q⟩) e3 (.inr hvd) fun J2 wJ2 => ?_
      refine fo_D wJ2 (fun j σ H' => ∃ (bk : List (List Nat)) (k5 : Option V), σ = [some (.ref qa), some (.ref L), k2, some (.int (i : Nat)), some v, k5] ∧ Ex H H' ∧ H' L = some (.lst (rs.map V.ref)) ∧ RowsM K (rs ++ [L]) H' rs (bk.map fun row => row.map nI) ∧ BkL tab i j bk)
        ⟨bk, _, rfl, e3, hL3, rm3, hb⟩ (fun i σ H' _ p => p.elim fun _ p => p.elim fun _ p => p.2.1) ?_ ?_
      · rintro j d w σ H4 hd hv4 ⟨bk, k5, rfl, e4, hL4, rm4, hb4⟩
        rw [List.getElem?_map] at hd
        obtain ⟨t, ht, rfl⟩ := Option.map_eq_some_iff.mp hd
        cases Dp.int_iff hv4
        have htm := List.mem_of_getElem? ht
        have htl : t < tab.length := rb t htm
        have rsl : rs.length = tab.length := by rw [rm4.len, List.length_map, hb4.n]
        have hrs : rs[t]? = some rs[t] := List.getElem?_eq_getElem (by omega)
        have hbt : bk[t]? = some (bk.getD t []) := by
          rw [List.getD_eq_getElem?_getD, List.getElem?_eq_getElem (by rw [hb4.n]; exact htl)]; rfl
        obtain ⟨ws, hws, hwd⟩ := rm4.at' t _ ((bk.getD t []).map nI) hrs (by rw [List.getElem?_map, hbt]; rfl)
        have bl := hb4.l _ (List.mem_of_getElem? hbt)
        have wl := hwd.len
        rw [List.length_map] at wl
        have jl := (List.getElem?_eq_some_iff.mp ht).1
        walk_at "rc"
        refine rd_ixL (v := V.ref rs[t]) (SqL.of hL4) (atI_nat (j := t) (by rw [List.getElem?_map, hrs]; rfl)) ?_
        walk_at "rc"
        refine ⟨.inl ⟨rfl, _, SqL.of hws⟩, ?_⟩
        walk_at "rc"
        have hrm4 : rs[t] ∈ rs := List.mem_of_getElem? hrs
        refine ⟨rs[t], ws, _, rfl, rfl, hws, by omega, ?_⟩
        have nLt : L ≠ rs[t] := fun z => nLr (by rw [z]; exact hrm4)
        have st := rm4.set (ws := ws ++ [.int (i : Nat)]) hrs (hwd.snoc (d := nI i) (.int _))
        refine ⟨bk.set t (bk.getD t [] ++ [i]), _, rfl, Evl.Ex.mut e4 (frs _ hrm4), by rw [upd_ne nLt]; exact hL4, ?_, hb4.put (by rw [erow]; exact ht) htl⟩
        rw [List.map_set, List.map_append]
        exact st
      · rintro σ H4 ⟨bk, k5, rfl, e4, hL4, rm4, hb4⟩
        rw [List.length_map, ← erow] at hb4
        exact ⟨bk, _, _, _, _, rfl, e4, hL4, rm4, hb4.next (by rw [erow]; exact rw')⟩
    · rintro σ H2 ⟨bk, k2, k3, k4, k5, rfl, e2, hL2, rm2, hb⟩
      rw [yl] at hb
      walk_at "rc"
      refine q L bk H2 e2 (fun S hS => ?_) hb.n (fun t s => ?_) hb.nd
      · have nS : ∀ x, H x = none → x ∉ S := fun x hx z => by
          obtain ⟨o, y⟩ := hS x z
          rw [hx] at y; cases y
        refine .lst (SqL.of (by rw [hid_at (nS L hL)]; exact hL2)) (DpAll.of (by rw [List.length_map, List.length_map, rm2.len, List.length_map]) fun i v d h1 h2 => ?_)
        rw [List.getElem?_map] at h1 h2
        obtain ⟨r, hr, rfl⟩ := Option.map_eq_some_iff.mp h1
        obtain ⟨row, hrow, rfl⟩ := Option.map_eq_some_iff.mp h2
        obtain ⟨ws, w1, w2⟩ := rm2.at' i r (row.map nI) hr (by rw [List.getElem?_map, hrow]; rfl)
        have w3 : ws = row.map vI := by
          have w4 : DpAll K (hid (rs ++ [L]) H2) ws ((row.map Int.ofNat).map PyData.int) := by rw [List.map_map]; exact w2
          rw [dp_ints' w4, List.map_map]; rfl
        have frr := frs r (List.mem_of_getElem? hr)
        refine .lst (SqL.of (by rw [hid_at (nS r frr)]; exact w1)) ?_
        rw [w3]
        exact DpAll.mapV _ _ _ fun x _ => .int x
      · rw [hb.m, List.take_zero]
        constructor
        · rintro (⟨_, z⟩ | ⟨_, z⟩)
          · exact z
          · cases z
        · intro z
          refine .inl ⟨?_, z⟩
          rcases Nat.lt_or_ge s tab.length with h | h
          · exact h
          · rw [List.getD_eq_getElem?_getD, List.getElem?_eq_none h] at z
            cases z
/-- two promises of one def -/
theorem FnOk.or {P : Program} {w : World} {K : PySem.W.Frag} {mg : Str → Option Value} {base : Heap} {CX : CXT} {k : Nat} {f : Addr} {fd : FuncData} {ps : List Str} {sp sp' : Sp} (F : FnOk P w K mg base CX k f fd ps sp) (G : FnOk P w K mg base CX k f fd ps sp') : FnOk P w K mg base CX k f fd ps (fun vs H Q E => sp vs H Q E ∨ sp' vs H Q E) :=
  ⟨fun vs H Q E q => q.elim (F.len vs H Q E) (G.len vs H Q E), fun A outer s H args us vs Q E hr he hb hv hs => hs.elim (F.run A outer s H args us vs Q E hr he hb hv) (G.run A outer s H args us vs Q E hr he hb hv)⟩
theorem ok_ways_back (T : Txt K mg) : FnOk P w K mg base CX0 1 T.a_ways_back T.d_ways_back ["nexts"] (fun vs H Q E => spWaysL (K := K) vs H Q E ∨ spWaysT (K := K) vs H Q E) := FnOk.or (ok_ways_backL T) (ok_ways_backT T)
end
section
/-! ### what is reached -/
structure Fnd (tab : List (List Nat)) (st : List Nat) (fs : List Bool) (ws : List Nat) : Prop where
  n : fs.length = tab.length
  w : ∀ s ∈ ws, fs[s]? = some true
  r : ∀ s : Nat, fs[s]? = some true → Rch tab st s
theorem Fnd.set {tab : List (List Nat)} {st : List Nat} {fs : List Bool} {ws : List Nat} {t : Nat} (h : Fnd tab st fs ws) (hr : Rch tab st t) : Fnd tab st (fs.set t true) ws := by
  refine ⟨by rw [List.length_set]; exact h.n, fun s hs => ?_, fun s hs => ?_⟩
  · have := h.w s hs
    by_cases e : s = t
    · subst e
      rw [List.getElem?_set_self (List.getElem?_eq_some_iff.mp this).1]
    · rw [List.getElem?_set_ne (Ne.symm e)]; exact this
  · by_cases e : s = t
    · rw [e]; exact hr
    · rw [List.getElem?_set_ne (Ne.symm e)] at hs
      exact h.r s hs
theorem cnt_set : ∀ (fs : List Bool) (t : Nat), fs[t]? = some false → (fs.set t true).count false + 1 = fs.count false
  | [], _, h => by simp at h
  | b :: fs, 0, h => by
    simp at h
    subst h
    simp
  | b :: fs, t + 1, h => by
    have := cnt_set fs t (by simpa using h)
    rw [List.set_cons_succ, List.count_cons, List.count_cons]
    omega
def spReached : Sp := fun vs H Q _ => ∃ (x y : V) (st : List Nat) (tab : List (List Nat)) (ds : List PyData), vs = [x, y] ∧ SqD K H x (st.map nI) ∧ SqD K H y ds ∧ RowsN ds tab ∧ Grf tab ∧ (∀ s ∈ st, s < tab.length) ∧ st.length ≤ 1000 ∧
  ∀ (f : Addr) (fs : List Bool) (H' : Hp), Ex H H' → H f = none → H' f = some (.lst (fs.map V.bl)) → fs.length = tab.length → (∀ s : Nat, fs[s]? = some true ↔ Rch tab st s) → Q (.ref f) H'
theorem ok_reached (T : Txt K mg) : FnOk P w K mg base CX0 1 T.a_reached T.d_reached ["starts", "nexts"] (spReached (K := K)) := by
  refine T.f_reached.ok sc_reached (fun vs H Q E h => ?_) (fun cdv A outer s H vs Q E hr h => ?_)
  · obtain ⟨_, _, _, _, _, rfl, _⟩ := h; rfl
  · obtain ⟨x, y, st, tab, ds, rfl, hx, hy, hR, g, hst, sl, q⟩ := h
    have rf := Evl.Ex.refl H
    have sz : 1000000 ≤ sizeLine := by decide
    have gn := g.n
    refine ⟨_, (pss_cons (ps_set (i := 2) sc_reached.nd rfl (by first | exact Or.inl rfl | exact Or.inr rfl) (pe_op op_rep (pe_lst (pa_cons pe_bl pa_nil)) (pe_callB (kLen K) (by rfl) T.nb_len (by decide +kernel) (pa_cons (pv 1) pa_nil))))
  (pss_cons (ps_set (i := 3) sc_reached.nd rfl (by first | exact Or.inl rfl | exact Or.inr rfl) (pe_callTy (kLstOf K) (by rfl) T.nb_list (by decide +kernel) (pa_cons (pv 0) pa_nil)))
  (pss_cons (ps_for PassesOwn.never rfl (kAny K rfl (pv 0)) (pg_name (i := 4) sc_reached.nd rfl (by first | exact Or.inl rfl | exact Or.inr rfl))
    (pss_one (ps_asg pe_bl (pg_sub (pv 2) (pv 4) set_list))))
  (pss_cons (ps_while PassesOwn.never (pt_truth (pv 3) (by intro _; rfl))
    (pss_cons (ps_set (i := 4) sc_reached.nd rfl (by first | exact Or.inl rfl | exact Or.inr rfl) (kBm0 K rfl (pe_bm0 PySem.F.plainAttrs_list PySem.F.slot_list_pop PySem.F.type_list_pop mt_pop (pv 3))))
  (pss_one (ps_for PassesOwn.never rfl (kAny K rfl (pe_ix (kIx K) (pv 1) (pv 4) (fun _ _ => rfl))) (pg_name (i := 5) sc_reached.nd rfl (by first | exact Or.inl rfl | exact Or.inr rfl))
    (pss_one (ps_if (pt_not (pt_val (pe_ix (kIx K) (pv 2) (pv 5) (fun _ _ => rfl))))
    (pss_cons (ps_asg pe_bl (pg_sub (pv 2) (pv 5) set_list))
  (pss_one (ps_expr (kBm K rfl (pe_bm PySem.F.plainAttrs_list PySem.F.slot_list_append PySem.F.type_list_append mt_append (pv 3) (pa_cons (pv 5) pa_nil))))))
    pss_nil))))))
  (pss_one (ps_ret (pv 2))))))), ?_⟩
    walk_at "rc"
    refine ⟨by decide, fun p0 hp0 => ?_⟩
    walk_at "rc"
    refine rd_lenSq (Evl.Ex.new hp0) hy ?_
    rw [hR.1]
    refine ⟨p0, (tab.length : Int), [.bl false], rfl, rfl, upd_same, by omega, by omega, ?_, fun f hf => ?_⟩
    · rw [Int.toNat_natCast]
      show 1 * tab.length ≤ sizeLine
      omega
    rw [Int.toNat_natCast, rep_bl]
    have e1 : Ex H (upd (upd H p0 (.lst [.bl false])) f (.lst ((List.replicate tab.length false).map V.bl))) := ex_upd (Evl.Ex.new hp0) hf
    have hf0 : H f = none := Evl.fresh_back (Evl.Ex.new hp0) hf
    have hf1 : upd (upd H p0 (.lst [.bl false])) f (.lst ((List.replicate tab.length false).map V.bl)) f = some (.lst ((List.replicate tab.length false).map V.bl)) := upd_same
    generalize upd (upd H p0 (.lst [.bl false])) f (.lst ((List.replicate tab.length false).map V.bl)) = H1 at e1 hf1
    walk_at "rc"
    refine rd_lstSq0 e1 hx fun l vs hl hvs => ?_
    obtain rfl := dp_nats hvs
    have nfl : f ≠ l := fun z => by rw [← z, hf1] at hl; cases hl
    have hl0 : H l = none := Evl.fresh_back e1 hl
    have e2 := ex_upd (o := .lst (st.map vI)) e1 hl
    have hf2 : upd H1 l (.lst (st.map vI)) f = some (.lst ((List.replicate tab.length false).map V.bl)) := by rw [upd_ne nfl]; exact hf1
    have hl2 : upd H1 l (.lst (st.map vI)) l = some (.lst (st.map vI)) := upd_same
    generalize upd H1 l (.lst (st.map vI)) = H2 at e2 hf2 hl2
    walk_at "rc"
    walk_at "rs"
    walk_at "rc"
    refine rd_anySq (fun Q q => ⟨_, rfl, q⟩) e2 hx fun J wJ => ?_
    refine fo_D wJ (fun i σ H' => ∃ (fs : List Bool) (k4 k5 : Option V), σ = [some x, some y, some (.ref f), some (.ref l), k4, k5] ∧ Ex H H' ∧ H' f = some (.lst (fs.map V.bl)) ∧ H' l = some (.lst (st.map vI)) ∧ Fnd tab st fs (st.take i) ∧ ∀ s : Nat, fs[s]? = some true → s ∈ st)
      ⟨_, _, _, rfl, e2, hf2, hl2, ⟨List.length_replicate, fun s hs => (by rw [List.take_zero] at hs; cases hs), fun s hs => by
        rw [List.getElem?_replicate] at hs
        split at hs <;> cases hs⟩, fun s hs => by
        rw [List.getElem?_replicate] at hs
        split at hs <;> cases hs⟩ (fun i σ H' _ p => p.elim fun _ p => p.elim fun _ p => p.elim fun _ p => p.2.1) ?_ ?_
    · rintro i d v σ H3 hd hv ⟨fs, k4, k5, rfl, e3, hf3, hl3, fn, fss⟩
      rw [List.getElem?_map] at hd
      obtain ⟨s, hs, rfl⟩ := Option.map_eq_some_iff.mp hd
      cases Dp.int_iff hv
      have hsm := List.mem_of_getElem? hs
      have fnn := fn.n
      walk_at "rc"
      refine ⟨f, fs.map V.bl, (s : Int), s, rfl, rfl, hf3, ixN_nat (by rw [List.length_map, fn.n]; exact hst s hsm), ?_⟩
      walk_at "rc"
      refine ⟨fs.set s true, _, _, rfl, Evl.Ex.mut e3 hf0, by rw [upd_same, List.map_set], by rw [upd_ne (Ne.symm nfl)]; exact hl3, ?_⟩
      have f2 := fn.set (t := s) (.st hsm)
      refine ⟨⟨f2.n, fun t ht => ?_, f2.r⟩, fun t ht => ?_⟩
      case refine_2 =>
        by_cases e : t = s
        · rw [e]; exact hsm
        · rw [List.getElem?_set_ne (Ne.symm e)] at ht
          exact fss t ht
      rw [List.take_succ, hs] at ht
      rcases List.mem_append.mp ht with z | z
      · exact f2.w t z
      · have : t = s := by simpa using z
        rw [this, List.getElem?_set_self (by rw [fn.n]; exact hst s hsm)]
    · rintro σ H3 ⟨fs, k4, k5, rfl, e3, hf3, hl3, fn, fss⟩
      rw [List.length_map, List.take_length] at fn
      walk_at "rc"
      walk_at "rs"
      have fb := List.count_le_length (a := false) (l := fs)
      have fnn := fn.n
      refine rd_wh (fun m σ H' => ∃ (fs : List Bool) (ws : List Nat) (k4 k5 : Option V), σ = [some x, some y, some (.ref f), some (.ref l), k4, k5] ∧ Ex H H' ∧ H' f = some (.lst (fs.map V.bl)) ∧ H' l = some (.lst (ws.map vI)) ∧ Fnd tab st fs ws ∧ (∀ s ∈ st, fs[s]? = some true) ∧ (∀ s : Nat, fs[s]? = some true → s ∈ ws ∨ ∀ t ∈ tab.getD s [], fs[t]? = some true) ∧ m = ws.length + fs.count false ∧ m ≤ 2000)
        _ ⟨fs, st, k4, k5, rfl, e3, hf3, hl3, fn, fn.w, fun s hs => .inl (fss s hs), rfl, by omega⟩ ?_
      rintro m σ H4 ⟨fs, ws, k4, k5, rfl, e4, hf4, hl4, fn, fst, fcl, rfl, mb⟩
      walk_at "rc"
      refine ⟨!(ws.map vI).isEmpty, .inl ⟨_, SqL.of hl4, rfl⟩, ?_⟩
      rcases List.eq_nil_or_concat ws with rfl | ⟨ws, s, rfl⟩
      · refine rd_iteF ?_
        walk_at "rc"
        refine q f fs H4 e4 hf0 hf4 fn.n fun s => ⟨fn.r s, fun hs => ?_⟩
        induction hs with
        | st h => exact fst _ h
        | go h1 h2 ih => exact (fcl _ ih).resolve_left (fun z => nomatch z) _ h2
      · have hs := fn.w s (by simp)
        have hsl : s < tab.length := by rw [← fn.n]; exact (List.getElem?_eq_some_iff.mp hs).1
        have hb : (!((ws.concat s).map vI).isEmpty) = true := by simp
        rw [hb]
        refine rd_iteT ?_
        rw [List.concat_eq_append] at hl4 fn fcl
        rw [List.concat_eq_append, List.length_append, List.length_singleton]
        rw [List.concat_eq_append, List.length_append, List.length_singleton] at mb
        refine ⟨_, fun σ2 H2 z => z, ?_⟩
        walk_at "rc"
        refine rd_bm0 ?_
        walk_at "rc"
        refine ⟨.inl ⟨rfl, _, SqL.of hl4⟩, ?_⟩
        refine ⟨l, (ws ++ [s]).map vI, vI s, rfl, rfl, hl4, by simp, ?_⟩
        have e5 : Ex H (upd H4 l (.lst (ws.map vI))) := Evl.Ex.mut e4 hl0
        have hf5 : upd H4 l (.lst (ws.map vI)) f = some (.lst (fs.map V.bl)) := by rw [upd_ne nfl]; exact hf4
        have hl5 : upd H4 l (.lst (ws.map vI)) l = some (.lst (ws.map vI)) := upd_same
        have edl : ((ws ++ [s]).map vI).dropLast = ws.map vI := by simp
        rw [edl]
        generalize upd H4 l (.lst (ws.map vI)) = H5 at e5 hf5 hl5
        walk_at "rc"
        have hds : s < ds.length := by rw [hR.1]; exact hsl
        obtain ⟨rv, hrv, hrx⟩ := sq_at hy (List.getElem?_eq_getElem hds)
        obtain ⟨row, hrow, erow, hrd⟩ := hR.get (List.getElem?_eq_getElem hds) hrv
        have hrm := List.mem_of_getElem? hrow
        have rb := g.b row hrm
        refine rd_anySq (x := rv) (fun Q q => ?_) e5 hrd fun J2 wJ2 => ?_
        · walk_at "rc"
          exact hrx _ e5 _ q
        have hrs := fn.r s hs
        refine fo_D wJ2 (fun i σ H' => ∃ (fs2 : List Bool) (ws2 : List Nat) (k5 : Option V), σ = [some x, some y, some (.ref f), some (.ref l), some (vI s), k5] ∧ Ex H H' ∧ H' f = some (.lst (fs2.map V.bl)) ∧ H' l = some (.lst (ws2.map vI)) ∧ Fnd tab st fs2 ws2 ∧ (∀ t : Nat, fs[t]? = some true → fs2[t]? = some true) ∧ (∀ t : Nat, fs2[t]? = some true → fs[t]? = some true ∨ t ∈ ws2) ∧ (∀ t ∈ ws, t ∈ ws2) ∧ (∀ t ∈ row.take i, fs2[t]? = some true) ∧ ws2.length + fs2.count false = ws.length + fs.count false)
          ⟨fs, ws, k5, rfl, e5, hf5, hl5, ⟨fn.n, fun t ht => fn.w t (List.mem_append.mpr (.inl ht)), fn.r⟩, fun _ h => h, fun _ h => .inl h, fun _ h => h, fun t ht => (by rw [List.take_zero] at ht; cases ht), rfl⟩ (fun i σ H' _ p => p.elim fun _ p => p.elim fun _ p => p.elim fun _ p => p.2.1) ?_ ?_
        · rintro i d v σ H6 hd hv ⟨fs2, ws2, k5, rfl, e6, hf6, hl6, fn2, sub, sub2, wsub, tk, ml⟩
          rw [List.getElem?_map] at hd
          obtain ⟨t, ht, rfl⟩ := Option.map_eq_some_iff.mp hd
          cases Dp.int_iff hv
          have htm := List.mem_of_getElem? ht
          have htl : t < fs2.length := by rw [fn2.n]; exact rb t htm
          walk_at "rc"
          refine rd_ixL (v := V.bl fs2[t]) (SqL.of hf6) (atI_nat (j := t) (by rw [List.getElem?_map, List.getElem?_eq_getElem htl]; rfl)) ?_
          walk_at "rc"
          cases hb2 : fs2[t] with
          | true =>
            refine rd_iteF ?_
            walk_at "rc"
            refine ⟨fs2, ws2, _, rfl, e6, hf6, hl6, fn2, sub, sub2, wsub, fun u hu => ?_, ml⟩
            rw [List.take_succ, ht] at hu
            rcases List.mem_append.mp hu with z | z
            · exact tk u z
            · have : u = t := by simpa using z
              rw [this, List.getElem?_eq_getElem htl, hb2]
          | false =>
            refine rd_iteT ?_
            walk_at "rc"
            refine ⟨f, fs2.map V.bl, (t : Int), t, rfl, rfl, hf6, ixN_nat (by rw [List.length_map]; exact htl), ?_⟩
            have e7 : Ex H (upd H6 f (.lst ((fs2.map V.bl).set t (V.bl true)))) := Evl.Ex.mut e6 hf0
            have hf7 : upd H6 f (.lst ((fs2.map V.bl).set t (V.bl true))) f = some (.lst ((fs2.set t true).map V.bl)) := by rw [upd_same, List.map_set]
            have hl7 : upd H6 f (.lst ((fs2.map V.bl).set t (V.bl true))) l = some (.lst (ws2.map vI)) := by rw [upd_ne (Ne.symm nfl)]; exact hl6
            generalize upd H6 f (.lst ((fs2.map V.bl).set t (V.bl true))) = H7 at e7 hf7 hl7
            walk_at "rc"
            refine ⟨.inl ⟨rfl, _, SqL.of hl7⟩, ?_⟩
            walk_at "rc"
            have cs := cnt_set fs2 t (by rw [List.getElem?_eq_getElem htl, hb2])
            have f3 := fn2.set (t := t) (.go hrs (by rw [erow]; exact htm))
            refine ⟨l, ws2.map vI, _, rfl, rfl, hl7, by rw [List.length_map]; omega, ?_⟩
            refine ⟨fs2.set t true, ws2 ++ [t], _, rfl, Evl.Ex.mut e7 hl0, by rw [upd_ne nfl]; exact hf7, by rw [upd_same, List.map_append]; rfl, ⟨f3.n, fun u hu => ?_, f3.r⟩, fun u hu => ?_, fun u hu => ?_, fun u hu => List.mem_append.mpr (.inl (wsub u hu)), fun u hu => ?_, by rw [List.length_append, List.length_singleton]; omega⟩
            · rcases List.mem_append.mp hu with z | z
              · exact f3.w u z
              · rw [List.mem_singleton.mp z, List.getElem?_set_self htl]
            · by_cases e : u = t
              · rw [e, List.getElem?_set_self htl]
              · rw [List.getElem?_set_ne (Ne.symm e)]; exact sub u hu
            · by_cases e : u = t
              · rw [e]; exact .inr (List.mem_append.mpr (.inr List.mem_cons_self))
              · rw [List.getElem?_set_ne (Ne.symm e)] at hu
                exact (sub2 u hu).imp id fun z => List.mem_append.mpr (.inl z)
            · rw [List.take_succ, ht] at hu
              by_cases e : u = t
              · rw [e, List.getElem?_set_self htl]
              · rw [List.getElem?_set_ne (Ne.symm e)]
                rcases List.mem_append.mp hu with z | z
                · exact tk u z
                · exact absurd (by simpa using z) e
        · rintro σ H6 ⟨fs2, ws2, k5, rfl, e6, hf6, hl6, fn2, sub, sub2, wsub, tk, ml⟩
          rw [List.length_map, List.take_length] at tk
          have ml2 := List.count_le_length (a := false) (l := fs2)
          refine ⟨ws.length + fs.count false, by omega, fs2, ws2, _, _, rfl, e6, hf6, hl6, fn2, fun t ht => sub t (fst t ht), fun t ht => ?_, ml.symm, by omega⟩
          rcases sub2 t ht with z | z
          · rcases fcl t z with z | z
            · rcases List.mem_append.mp z with z | z
              · exact .inl (wsub t z)
              · rw [List.mem_singleton.mp z, erow]
                exact .inr tk
            · exact .inr fun u hu => sub u (z u hu)
          · exact .inl z
end
section
theorem back_lv {acc : List Bool} {tab bk : List (List Nat)} (hb : ∀ t s : Nat, s ∈ bk.getD t [] ↔ t ∈ tab.getD s []) {st : List Nat} (hst : ∀ s, s ∈ st ↔ acc[s]? = some true) (s : Nat) : Rch bk st s ↔ Lv acc tab s := by
  constructor
  · intro h
    induction h with
    | st h => exact .st ((hst _).mp h)
    | go _ h ih => exact .go ((hb _ _).mp h) ih
  · intro h
    induction h with
    | st h => exact .st ((hst _).mpr h)
    | go h _ ih => exact .go ih ((hb _ _).mpr h)
theorem back_grf {tab bk : List (List Nat)} (g : Grf tab) (hl : bk.length = tab.length) (hb : ∀ t s : Nat, s ∈ bk.getD t [] ↔ t ∈ tab.getD s []) : Grf bk := by
  refine ⟨by rw [hl]; exact g.n, fun row hr x hx => ?_⟩
  obtain ⟨t, ht, rfl⟩ := List.getElem_of_mem hr
  have : x ∈ bk.getD t [] := by rw [List.getD_eq_getElem?_getD, List.getElem?_eq_getElem ht]; exact hx
  rw [hl]
  exact (g.at' ((hb _ _).mp this)).1
theorem rd_enT {K : PySem.W.Frag} {ta : TA} {σ : L2.St} {H : Hp} {R : It → Hp → Prop} (h : ta σ H fun vs H1 => ∃ q xs, vs = [.ref q] ∧ SqT K H1 q xs ∧ R (ItEt K q) H1) : iEnumA K ta σ H R := .inr h
def endsOf (acc : List Bool) (i : Nat) : List Nat := (List.range i).filter fun s => acc.getD s false
theorem endsOf_succ (acc : List Bool) (i : Nat) : endsOf acc (i + 1) = if acc.getD i false = true then endsOf acc i ++ [i] else endsOf acc i := by
  unfold endsOf
  rw [List.range_succ, List.filter_append]
  by_cases h : acc.getD i false = true
  · rw [if_pos h, List.filter_cons, if_pos h]; rfl
  · rw [if_neg h, List.filter_cons, if_neg h]; simp
theorem endsOf_len (acc : List Bool) (i : Nat) : (endsOf acc i).length ≤ i := by
  have := List.length_filter_le (fun s => acc.getD s false) (List.range i)
  rw [List.length_range] at this
  exact this
theorem mem_ends {acc : List Bool} {s : Nat} : s ∈ endsOf acc acc.length ↔ acc[s]? = some true := by
  unfold endsOf
  rw [List.mem_filter, List.mem_range, List.getD_eq_getElem?_getD]
  constructor
  · rintro ⟨h, e⟩
    rw [List.getElem?_eq_getElem h] at e ⊢
    exact congrArg some e
  · intro h
    exact ⟨(List.getElem?_eq_some_iff.mp h).1, by rw [h]; rfl⟩
variable (T : Txt K mg)
def spUseful : Sp := fun vs H Q _ => ∃ (m : Addr) (ls : Str) (acc : List Bool) (tab : List (List Nat)), vs = [.ref m] ∧ MachD K T.C_Machine H m ls acc tab ∧ GM acc tab ∧
  ∀ (l : Addr) (us : List Nat) (H' : Hp), Ex H H' → H l = none → H' l = some (.lst (us.map vI)) → us.Pairwise (· < ·) → (∀ s : Nat, s ∈ us ↔ Usf acc tab s) → Q (.ref l) H'
theorem ok_useful : FnOk P w K mg base CX0 2 T.a_useful T.d_useful ["machine"] (spUseful T) := by
  refine T.f_useful.ok sc_useful (fun vs H Q E h => ?_) (fun cdv A outer s H vs Q E hr h => ?_)
  · obtain ⟨_, _, _, _, rfl, _⟩ := h; rfl
  · obtain ⟨m, ls, acc, tab, rfl, ⟨dx, ta, tt, hm, hA, hT⟩, gm, q⟩ := h
    have hsl : 1000000 ≤ sizeLine := by decide
    have gn := gm.g.n
    have ge := gm.e
    have gp := gm.p
    refine ⟨_, (pss_cons (ps_setLc (i := 1) (own := [("state", 2), ("accepting", 3)]) (g := _)  (by rfl) sc_useful.nd rfl rfl (sw_true rfl rfl rfl (by decide +kernel)) (kEn K rfl (pi_enumA (by rfl) T.nb_enumerate (pa_cons (kFld K rfl (pe_fld (pv 0) rfl)) pa_nil))) (blkOk_by (own := [("state", 2), ("accepting", 3)]) (N := ["machine", "ends", "state", "accepting", "led_to", "leads_on"]) (sc := defScope s_useful) (by decide +kernel)) (fun _ _ _ _ _ => (kGt K rfl (pg_tup (n := 2) (by rfl) (pgs_cons (pg_name (i := 2) sc_useful.nd rfl (by first | exact Or.inl rfl | exact Or.inr rfl)) (pgs_cons (pg_name (i := 3) sc_useful.nd rfl (by first | exact Or.inl rfl | exact Or.inr rfl)) pgs_nil))))) (fun _ _ _ _ _ => (pts_one (pt_val (pv 3)))) (fun _ _ _ _ _ => (pv 2)))
  (pss_cons (ps_set (i := 4) sc_useful.nd rfl (by first | exact Or.inl rfl | exact Or.inr rfl) (pe_callE (ok_reached T) (hr.mono (by decide)) T.o_reached (pa_cons (pe_lst (pa_cons pe_int pa_nil)) (pa_cons (kFld K rfl (pe_fld (pv 0) rfl)) pa_nil))))
  (pss_cons (ps_set (i := 5) sc_useful.nd rfl (by first | exact Or.inl rfl | exact Or.inr rfl) (pe_callE (ok_reached T) (hr.mono (by decide)) T.o_reached (pa_cons (pv 1) (pa_cons (pe_callE (ok_ways_back T) (hr.mono (by decide)) T.o_ways_back (pa_cons (kFld K rfl (pe_fld (pv 0) rfl)) pa_nil)) pa_nil))))
  (pss_one (ps_ret (pe_lc (own := [("state", 2)]) (g := gName 2)  (by rfl) sc_useful.nd (pi_range1 (by rfl) T.nb_range (pa_cons (pe_callB (kLen K) (by rfl) T.nb_len (by decide +kernel) (pa_cons (kFld K rfl (pe_fld (pv 0) rfl)) pa_nil)) pa_nil)) (blkOk_by (own := [("state", 2)]) (N := ["machine", "ends", "state", "accepting", "led_to", "leads_on"]) (sc := defScope s_useful) (by decide +kernel)) (fun _ _ _ _ _ => (pg_name (i := 2) sc_useful.nd rfl (by first | exact Or.inl rfl | exact Or.inr rfl))) (fun _ _ _ _ _ => (pts_one (PW.pt (pw_and (pt_val (pe_ix (kIx K) (pv 4) (pv 2) (fun _ _ => rfl))) (pw_and1 (pt_val (pe_ix (kIx K) (pv 5) (pv 2) (fun _ _ => rfl)))))))) (fun _ _ _ _ _ => (pv 2)))))))), ?_⟩
    walk_at "rc"
    refine rd_enT ?_
    walk_at "rc"
    refine ⟨m, _, dx, _, _, rfl, hm, T.cl_Machine, T.na_Machine_accepting, rfl, ?_⟩
    walk_at "rc"
    obtain ⟨qa, ys, e0, hq, hys⟩ := Dp.tupv hA
    cases e0
    obtain rfl := dp_bls hys
    refine ⟨_, _, rfl, hq, ?_⟩
    intro L hL
    refine lc_it walk_enumT (fun i Hc => Ex H Hc ∧ Hc L = some (.lst ((endsOf acc i).map vI))) ⟨Evl.Ex.new hL, upd_same⟩ (fun i Hc _ p => Evl.ex_t p.1 hq) (fun i x Hc H' hi p y => ?_) fun H1 p => ?_
    · obtain ⟨A, u, v, rfl, hA', rfl, hu, hv⟩ := y
      cases hu
      obtain ⟨e1, h1⟩ := p
      rw [List.length_map] at hi
      have hv' : (acc.map V.bl)[i]? = some v := hv
      rw [List.getElem?_map, List.getElem?_eq_getElem hi] at hv'
      cases hv'
      refine ⟨A, _, rfl, Evl.st_of upd_same, rfl, ?_⟩
      walk_at "rc"
      refine ⟨rfl, ?_⟩
      walk_at "rc"
      have nAL : L ≠ A := fun z => by rw [← z, h1] at hA'; cases hA'
      have h2 : upd Hc A (.tup [.int (i : Nat), .bl acc[i]]) L = some (.lst ((endsOf acc i).map vI)) := by rw [upd_ne nAL]; exact h1
      have eD : acc.getD i false = acc[i] := by rw [List.getD_eq_getElem?_getD, List.getElem?_eq_getElem hi]; rfl
      have es := endsOf_succ acc i
      rw [eD] at es
      have el := endsOf_len acc i
      cases hb : acc[i] with
      | true =>
        rw [if_pos hb] at es
        rw [hb] at h2
        refine rd_iteT ?_
        walk_at "rc"
        refine ⟨_, h2, by rw [List.length_map]; omega, Evl.Ex.mut (ex_upd e1 hA') hL, ?_⟩
        rw [es, List.map_append]
        exact upd_same
      | false =>
        rw [if_neg (by rw [hb]; decide)] at es
        rw [hb] at h2
        refine rd_iteF ?_
        refine ⟨ex_upd e1 hA', ?_⟩
        rw [es]
        exact h2
    · obtain ⟨e1, h1⟩ := p
      rw [List.length_map] at h1
      walk_at "rc"
      refine ⟨by decide, fun p0 hp0 => ?_⟩
      have e2 : Ex H1 (upd H1 p0 (.lst [V.int 0])) := Evl.Ex.new hp0
      have d0 : Dp K (upd H1 p0 (.lst [V.int 0])) (.ref p0) (.list (([0] : List Nat).map nI)) := .lst (SqL.of upd_same) (.cons (.int 0) .nil)
      generalize upd H1 p0 (.lst [V.int 0]) = H2 at e2 d0
      have e02 := e1.trans e2
      walk_at "rc"
      refine ⟨m, _, dx, _, _, rfl, e02 _ _ hm, T.cl_Machine, T.na_Machine_table, rfl, ?_⟩
      walk_at "rc"
      refine ⟨_, _, [0], tab, _, rfl, .inl d0, .inr (hT.ex e02), rowsN_T tab, gm.g, fun s hs => by rw [List.mem_singleton.mp hs]; omega, by decide, fun f1 fs1 H3 e3 _ hf3 fl1 fr1 => ?_⟩
      have e03 := e02.trans e3
      have h3 := (e2.trans e3) _ _ h1
      walk_at "rc"
      refine ⟨m, _, dx, _, _, rfl, e03 _ _ hm, T.cl_Machine, T.na_Machine_table, rfl, ?_⟩
      walk_at "rc"
      refine Or.inr ⟨_, tab, rfl, hT.ex e03, gm.g, gm.w, fun fb bk H4 e4 hb4' bl4 bm4 _ => ?_⟩
      have hb4 := hb4'.dp
      have e04 := e03.trans e4
      have dL : Dp K H4 (.ref L) (.list ((endsOf acc acc.length).map nI)) := .lst (SqL.of (e4 _ _ h3)) (DpAll.mapV _ _ _ fun x _ => .int _)
      have el := endsOf_len acc acc.length
      refine ⟨_, _, endsOf acc acc.length, bk, _, rfl, .inl dL, .inl hb4, rowsN_L bk, back_grf gm.g bl4 bm4, fun s hs => ?_, by omega, fun f2 fs2 H5 e5 _ hf5 fl2 fr2 => ?_⟩
      · have := (List.getElem?_eq_some_iff.mp (mem_ends.mp hs)).1
        omega
      have e05 := e04.trans e5
      have g1 := (e4.trans e5) _ _ hf3
      walk_at "rc"
      refine ⟨m, _, dx, _, _, rfl, e05 _ _ hm, T.cl_Machine, T.na_Machine_table, rfl, ?_⟩
      walk_at "rc"
      refine rd_lenDT e05 hT ?_
      rw [List.length_map]
      walk_at "rc"
      refine ⟨_, rfl, by omega, by omega, ?_⟩
      rw [Int.toNat_natCast]
      have g2 := hf5
      refine lc_F (K := K) (S := []) (P := fun i x => x = V.int (i : Nat)) tr_ex (fun b hb => nomatch hb) walk_range0 rng_Y (by omega) (fun _ _ => True.intro) (fun i => fs1.getD i false && fs2.getD i false) nI (hg_name fun v => rfl) (fun L i σ2 Hc hi p2 hL nL t1 hs1 up N hN => ?_) (fun L i σ2 Hc hi p2 hp2 hL nL t1 hs1 up N hN => ?_) fun Lu us H6 e6 hLu nLu hus hds => ?_
      · obtain ⟨v, rfl, rfl⟩ := p2
        have b1 : (fs1.map V.bl)[i]? = some (.bl (fs1.getD i false)) := by
          rw [List.getElem?_map, List.getD_eq_getElem?_getD, List.getElem?_eq_getElem (by omega)]; rfl
        have b2 : (fs2.map V.bl)[i]? = some (.bl (fs2.getD i false)) := by
          rw [List.getElem?_map, List.getD_eq_getElem?_getD, List.getElem?_eq_getElem (by omega)]; rfl
        have t0 := hN Hc (Evl.Ex.refl Hc)
        walk_at "rc"
        refine rd_ixL (v := .bl (fs1.getD i false)) (SqL.of (t1 _ _ g1)) (atI_nat b1) ?_
        walk_at "rc"
        cases q1 : fs1.getD i false with
        | false =>
          rw [q1] at t0
          refine rd_iteF ?_
          exact t0
        | true =>
          rw [q1, Bool.true_and] at t0
          refine rd_iteT ?_
          walk_at "rc"
          refine rd_ixL (v := .bl (fs2.getD i false)) (SqL.of (t1 _ _ g2)) (atI_nat b2) ?_
          walk_at "rc"
          exact t0
      · obtain ⟨v, rfl, rfl⟩ := p2
        walk_at "rc"
        exact hN _ Hc (Evl.Ex.refl Hc) (.int _)
      · obtain rfl := dp_nats hds
        refine q Lu _ H6 (e05.trans e6) (Evl.fresh_back e05 hLu) hus (List.Pairwise.sublist List.filter_sublist List.pairwise_lt_range) fun s => ?_
        rw [List.mem_filter, List.mem_range, Bool.and_eq_true]
        have a1 : fs1.getD s false = true ↔ Rch tab [0] s := by
          rw [← fr1, List.getD_eq_getElem?_getD]
          cases fs1[s]? with
          | none => exact ⟨fun z => (nomatch z), fun z => (nomatch z)⟩
          | some b => exact ⟨fun z => congrArg some z, fun z => Option.some.inj z⟩
        have a2 : fs2.getD s false = true ↔ Lv acc tab s := by
          rw [← back_lv bm4 (fun s => mem_ends), ← fr2, List.getD_eq_getElem?_getD]
          cases fs2[s]? with
          | none => exact ⟨fun z => (nomatch z), fun z => (nomatch z)⟩
          | some b => exact ⟨fun z => congrArg some z, fun z => Option.some.inj z⟩
        rw [a1, a2]
        exact ⟨fun z => z.2, fun z => ⟨by rw [← ge] at gp; exact z.1.lt gm.g fun s hs => by rw [List.mem_singleton.mp hs]; exact gp, z⟩⟩
end
section
/-! ### the text of a word -/
def tx (ls : Str) (u : List Nat) : Str := ⟨(u.map fun j => ls.cps.toList.getD j 0).toArray⟩
theorem tx_list (ls : Str) (u : List Nat) : (tx ls u).cps.toList = u.map fun j => ls.cps.toList.getD j 0 := by
  show (u.map _).toArray.toList = _
  rw [List.toList_toArray]
theorem str_ext {a b : Str} (h : a.cps.toList = b.cps.toList) : a = b := by
  obtain ⟨a⟩ := a
  obtain ⟨b⟩ := b
  have h : a.toList = b.toList := h
  rw [Array.toList_inj.mp h]
theorem tx_snoc (ls : Str) (u : List Nat) (j : Nat) : tx ls (u ++ [j]) = tx ls u ++ (⟨#[ls.cps.toList.getD j 0]⟩ : Str) := by
  refine str_ext ?_
  have e := TL.tl_append (tx ls u) (⟨#[ls.cps.toList.getD j 0]⟩ : Str)
  have e2 : TL.tl (tx ls u) = u.map fun j => ls.cps.toList.getD j 0 := tx_list ls u
  rw [e2] at e
  rw [tx_list, List.map_append]
  exact e.symm
theorem tx_len (ls : Str) (u : List Nat) : (tx ls u).length = u.length := by
  rw [TL.len_tl]
  show (tx ls u).cps.toList.length = _
  rw [tx_list, List.length_map]
end
section
/-! ### the law's own reading of a machine -/
theorem tx_at {ls : Str} {u : List Nat} {i c : Nat} (h : (tx ls u).cps.toList[i]? = some c) : ∃ j, u[i]? = some j ∧ c = ls.cps.toList.getD j 0 := by
  rw [tx_list, List.getElem?_map] at h
  obtain ⟨j, hj, e⟩ := Option.map_eq_some_iff.mp h
  exact ⟨j, hj, e.symm⟩
theorem idx_of {l : List Nat} (nd : l.Nodup) {j : Nat} (hj : j < l.length) : l.getD j 0 ∈ l ∧ l.idxOf (l.getD j 0) = j := by
  have e : l.getD j 0 = l[j] := by rw [List.getD_eq_getElem?_getD, List.getElem?_eq_getElem hj]; rfl
  rw [e]
  refine ⟨List.getElem_mem hj, ?_⟩
  exact List.Nodup.idxOf_getElem nd j hj
theorem fold_take {κ : Type} {nx : κ → Nat → κ} {st : κ} {u : List Nat} {i j : Nat} (h : u[i]? = some j) : (u.take (i + 1)).foldl nx st = nx ((u.take i).foldl nx st) j := by
  rw [List.take_succ, h, List.foldl_append]
  rfl
theorem run_st {ls : Str} {acc : List Bool} {tab : List (List Nat)} (g : GMw ls acc tab) : ∀ {u : List Nat} {s : Nat}, Lw ls.length u → s < acc.length → ∃ t, u.foldl (nxM tab) (.i s) = .i t ∧ t < acc.length
  | [], s, _, hs => ⟨s, rfl, hs⟩
  | j :: u, s, hu, hs => by
    obtain ⟨_, x, _, _, _, hx, hx2⟩ := g.at' hs (hu j List.mem_cons_self)
    have := run_st g (u := u) (s := x) (fun y hy => hu y (List.mem_cons_of_mem _ hy)) hx2
    rw [← hx] at this
    exact this
theorem Lw.take {w : Nat} {u : List Nat} (h : Lw w u) (i : Nat) : Lw w (u.take i) := fun x hx => h x (List.mem_of_mem_take hx)
def spAccepts : Sp := fun vs H Q _ => ∃ (ls : Str) (va vt : V) (acc : List Bool) (tab : List (List Nat)) (u : List Nat), vs = [.str ls, va, vt, .str (tx ls u)] ∧ Dp K H va (.list (acc.map PyData.bool)) ∧ Dp K H vt (nL tab) ∧ GMw ls acc tab ∧ ls.cps.toList.Nodup ∧ Lw ls.length u ∧ Q (.bl (acM acc (u.foldl (nxM tab) (.i 0)))) H
theorem ok_accepts (T : Txt K mg) : FnOk P w K mg base CX0 1 T.a_accepts T.d_accepts ["letters", "accepting", "table", "text"] (spAccepts (K := K)) := by
  refine T.f_accepts.ok sc_accepts (fun vs H Q E h => ?_) (fun cdv A outer s H vs Q E hr h => ?_)
  · obtain ⟨_, _, _, _, _, _, rfl, _⟩ := h; rfl
  · obtain ⟨ls, va, vt, acc, tab, u, rfl, hA, hT, g, nd, hu, q⟩ := h
    refine ⟨_, (pss_cons (ps_set (i := 4) sc_accepts.nd rfl (by first | exact Or.inl rfl | exact Or.inr rfl) pe_int)
  (pss_cons (ps_for PassesOwn.never rfl (kAny K rfl (pv 3)) (pg_name (i := 5) sc_accepts.nd rfl (by first | exact Or.inl rfl | exact Or.inr rfl))
    (pss_one (ps_set (i := 4) sc_accepts.nd rfl (by first | exact Or.inl rfl | exact Or.inr rfl) (pe_ix (kIx K) (pe_ix (kIx K) (pv 2) (pv 4) (fun _ _ => rfl)) (kBm K rfl (pe_bm PySem.F.plainAttrs_str PySem.F.slot_str_index PySem.F.type_str_index mt_strIdx (pv 0) (pa_cons (pv 5) pa_nil))) (fun _ _ => rfl)))))
  (pss_one (ps_ret (pe_ix (kIx K) (pv 1) (pv 4) (fun _ _ => rfl)))))), ?_⟩
    walk_at "rc"
    walk_at "rs"
    walk_at "rc"
    refine rd_anyS (fun Q q => ⟨_, rfl, q⟩) ?_
    refine fo_str (fun i σ H' => ∃ (s : Nat) (k5 : Option V), σ = [some (.str ls), some va, some vt, some (.str (tx ls u)), some (.int (s : Int)), k5] ∧ H' = H ∧ (u.take i).foldl (nxM tab) (.i 0) = .i s ∧ s < acc.length) ⟨0, _, rfl, rfl, rfl, g.m.p⟩ ?_ ?_
    · rintro i c σ H' hc ⟨s, k5, rfl, rfl, hs, hsl⟩
      obtain ⟨j, hj, rfl⟩ := tx_at hc
      have hjl : j < ls.length := hu j (List.mem_of_getElem? hj)
      obtain ⟨hm, hi⟩ := idx_of nd (j := j) hjl
      walk_at "rc"
      obtain ⟨row, x, hr, hx, e1, e2, hxl⟩ := g.at' hsl hjl
      refine rd_ixDL (Evl.Ex.refl H') hT (d := .list (row.map nI)) (by rw [List.getElem?_map, hr]; rfl) fun v hv => ?_
      walk_at "rc"
      refine ⟨rfl, ?_⟩
      walk_at "rc"
      refine ⟨ls, _, rfl, rfl, hm, ?_⟩
      rw [hi]
      refine rd_ixDL (Evl.Ex.refl H') hv (d := nI x) (by rw [List.getElem?_map, hx]; rfl) fun v2 hv2 => ?_
      cases Dp.int_iff hv2
      walk_at "rc"
      refine ⟨x, _, rfl, rfl, ?_, hxl⟩
      rw [fold_take hj, hs]
      show KE.i _ = KE.i x
      rw [e2]
    · rintro σ H' ⟨s, k5, rfl, rfl, hs, hsl⟩
      rw [tx_len, List.take_length] at hs
      rw [hs] at q
      walk_at "rc"
      obtain ⟨b, hb⟩ := getQ hsl
      refine rd_ixDL (Evl.Ex.refl H') hA (d := .bool b) (by rw [List.getElem?_map, hb]; rfl) fun v hv => ?_
      cases Dp.bl_iff hv
      have e : acM acc (.i s) = b := by
        show acc.getD s false = b
        rw [List.getD_eq_getElem?_getD, hb]; rfl
      rw [e] at q
      exact q
end
section
variable (T : Txt K mg)
/-! ### counts by state, in dicts -/
abbrev kI (n : Nat) : L2.Key := .inl (n : Int)
theorem kI_inj {s t : Nat} : kI s = kI t ↔ s = t := ⟨fun h => by
  have := Sum.inl.inj h
  omega, fun h => by rw [h]⟩
def encC (ps : List (Nat × Int)) : List (L2.Key × V) := ps.map fun p => (kI p.1, V.int p.2)
def vof : List (Nat × Int) → Nat → Option Int
  | [], _ => none
  | p :: ps, s => if p.1 = s then some p.2 else vof ps s
def putP : List (Nat × Int) → Nat → Int → List (Nat × Int)
  | [], s, v => [(s, v)]
  | p :: ps, s, v => if p.1 = s then (s, v) :: ps else p :: putP ps s v
theorem valV_enc (s : Nat) : ∀ ps : List (Nat × Int), valV (encC ps) (kI s) = (vof ps s).map V.int
  | [] => rfl
  | p :: ps => by
    show valV ((kI p.1, V.int p.2) :: encC ps) (kI s) = _
    unfold vof
    by_cases e : p.1 = s
    · rw [if_pos e, valV_pos (by rw [e])]; rfl
    · rw [if_neg e, valV_neg (fun z => e (kI_inj.mp z)), valV_enc s ps]
theorem vof_none {s : Nat} : ∀ {ps : List (Nat × Int)}, vof ps s = none ↔ s ∉ ps.map (·.1)
  | [] => ⟨fun _ z => (nomatch z), fun _ => rfl⟩
  | p :: ps => by
    unfold vof
    rw [List.map_cons, List.mem_cons]
    by_cases e : p.1 = s
    · rw [if_pos e]
      exact ⟨fun z => (nomatch z), fun z => absurd (.inl e.symm) z⟩
    · rw [if_neg e, vof_none (ps := ps)]
      exact ⟨fun z y => y.elim (fun y => e y.symm) z, fun z y => z (.inr y)⟩
theorem vof_put {s : Nat} {v : Int} (u : Nat) : ∀ ps : List (Nat × Int), vof (putP ps s v) u = if u = s then some v else vof ps u
  | [] => by
    show (if s = u then some v else none) = if u = s then some v else none
    by_cases e : u = s
    · rw [if_pos e, if_pos e.symm]
    · rw [if_neg e, if_neg (Ne.symm e)]
  | p :: ps => by
    unfold putP
    by_cases e : p.1 = s
    · rw [if_pos e]
      show (if s = u then some v else vof ps u) = if u = s then some v else (if p.1 = u then some p.2 else vof ps u)
      by_cases e2 : u = s
      · rw [if_pos e2, if_pos e2.symm]
      · rw [if_neg e2, if_neg (Ne.symm e2), if_neg (by rw [e]; exact Ne.symm e2)]
    · rw [if_neg e]
      show (if p.1 = u then some p.2 else vof (putP ps s v) u) = if u = s then some v else (if p.1 = u then some p.2 else vof ps u)
      rw [vof_put u ps]
      by_cases e2 : u = s
      · rw [if_pos e2, if_pos e2, if_neg (by rw [e2]; exact e)]
      · rw [if_neg e2, if_neg e2]
theorem keys_put {s : Nat} {v : Int} : ∀ ps : List (Nat × Int), (putP ps s v).map (·.1) = if s ∈ ps.map (·.1) then ps.map (·.1) else ps.map (·.1) ++ [s]
  | [] => rfl
  | p :: ps => by
    unfold putP
    by_cases e : p.1 = s
    · rw [if_pos e, if_pos (by rw [List.map_cons, e]; exact List.mem_cons_self), List.map_cons, List.map_cons, e]
    · rw [if_neg e, List.map_cons, keys_put ps, List.map_cons]
      by_cases h : s ∈ ps.map (·.1)
      · rw [if_pos h, if_pos (List.mem_cons_of_mem _ h)]
      · rw [if_neg h, if_neg (fun z => h ((List.mem_cons.mp z).resolve_left (Ne.symm e))), List.cons_append]
/-- no key twice, and all below n -/
structure Ct (n : Nat) (ps : List (Nat × Int)) : Prop where
  d : (ps.map (·.1)).Nodup
  b : ∀ s ∈ ps.map (·.1), s < n
theorem Ct.len {n : Nat} {ps : List (Nat × Int)} (h : Ct n ps) : ps.length ≤ n := by
  have : ∀ (l m : List Nat), l.Nodup → (∀ c ∈ l, c ∈ m) → l.length ≤ m.length := by
    intro l
    induction l with
    | nil => exact fun _ _ _ => Nat.zero_le _
    | cons a l ih =>
      intro m nd hm
      obtain ⟨na, nd'⟩ := List.nodup_cons.mp nd
      have ha := hm a List.mem_cons_self
      have := ih (m.erase a) nd' fun c hc => (List.mem_erase_of_ne (fun z => na (by rw [← z]; exact hc))).mpr (hm c (List.mem_cons_of_mem _ hc))
      rw [List.length_erase_of_mem ha] at this
      have := List.length_pos_of_mem ha
      rw [List.length_cons]
      omega
  have := this _ (List.range n) h.d fun s hs => List.mem_range.mpr (h.b s hs)
  rw [List.length_map, List.length_range] at this
  exact this
theorem Ct.put {n s : Nat} {v : Int} {ps : List (Nat × Int)} (h : Ct n ps) (hs : s < n) : Ct n (putP ps s v) := by
  constructor
  · rw [keys_put]
    split
    · exact h.d
    · rename_i z
      exact List.nodup_append.mpr ⟨h.d, List.nodup_cons.mpr ⟨List.not_mem_nil, List.nodup_nil⟩, fun a ha b hb e => z (by rw [List.mem_singleton.mp hb] at e; rw [← e]; exact ha)⟩
  · rw [keys_put]
    split
    · exact h.b
    · intro t ht
      rcases List.mem_append.mp ht with z | z
      · exact h.b t z
      · rw [List.mem_singleton.mp z]; exact hs
theorem putK_enc {n s : Nat} {v : Int} : ∀ {ps : List (Nat × Int)}, (ps.map (·.1)).Nodup → putK (encC ps) (kI s) (.int v) = encC (putP ps s v) := by
  intro ps nd
  by_cases h : s ∈ ps.map (·.1)
  · unfold putK
    rw [if_pos (by
      rw [valV_any, valV_enc]
      cases hv : vof ps s with
      | none => exact absurd h (vof_none.mp hv)
      | some x => rfl)]
    have tail : ∀ qs : List (Nat × Int), s ∉ qs.map (·.1) → (encC qs).map (fun kv => if kv.1 = kI s then (kv.1, V.int v) else kv) = encC qs := by
      intro qs hq
      unfold encC
      rw [List.map_map]
      refine List.map_congr_left fun q hqm => ?_
      exact if_neg fun z => hq (List.mem_map.mpr ⟨q, hqm, kI_inj.mp z⟩)
    induction ps with
    | nil => exact (nomatch h)
    | cons p ps ih =>
      obtain ⟨na, nd'⟩ := List.nodup_cons.mp nd
      unfold putP
      show (if kI p.1 = kI s then (kI p.1, V.int v) else (kI p.1, V.int p.2)) :: (encC ps).map (fun kv => if kv.1 = kI s then (kv.1, V.int v) else kv) = _
      by_cases e : p.1 = s
      · rw [if_pos (kI_inj.mpr e), if_pos e, tail ps (by rw [← e]; exact na), e]
        rfl
      · rw [if_neg (fun z => e (kI_inj.mp z)), if_neg e, ih nd' ((List.mem_cons.mp h).resolve_left (Ne.symm e))]
        rfl
  · rw [putK_new _ (by rw [valV_enc, vof_none.mpr h]; rfl)]
    induction ps with
    | nil => rfl
    | cons p ps ih =>
      have h1 : p.1 ≠ s := fun z => h (by rw [List.map_cons, z]; exact List.mem_cons_self)
      have h2 : s ∉ ps.map (·.1) := fun z => h (by rw [List.map_cons]; exact List.mem_cons_of_mem _ z)
      unfold putP
      rw [if_neg h1]
      show (kI p.1, V.int p.2) :: (encC ps ++ [(kI s, V.int v)]) = (kI p.1, V.int p.2) :: encC (putP ps s v)
      rw [ih (List.nodup_cons.mp nd).2 h2]
section
variable {H : Hp} {D : Addr} {kvs : List (L2.Key × V)}
theorem sqt_hidK (hd : H D = some (.dK kvs)) {a : Addr} {vs : List V} (q : SqT K H a vs) : SqT K (hid [D] H) a vs := by
  have ne : ∀ {o : HO}, H a = some o → o ≠ .dK kvs → hid [D] H a = some o := fun h n => by
    rw [hid_at fun hb => ?_]
    · exact h
    · rw [List.mem_singleton.mp hb, hd] at h
      exact n (Option.some.inj h).symm
  exact q.imp (fun q => q.imp (fun q => ne q fun z => by cases z) fun ⟨o, q⟩ => ⟨o, ne q fun z => by cases z⟩) id
theorem sql_hidK (hd : H D = some (.dK kvs)) {a : Addr} {vs : List V} (q : SqL K H a vs) : SqL K (hid [D] H) a vs := by
  have ne : ∀ {o : HO}, H a = some o → o ≠ .dK kvs → hid [D] H a = some o := fun h n => by
    rw [hid_at fun hb => ?_]
    · exact h
    · rw [List.mem_singleton.mp hb, hd] at h
      exact n (Option.some.inj h).symm
  exact q.imp (fun q => q.imp (fun q => ne q fun z => by cases z) fun ⟨o, q⟩ => ⟨o, ne q fun z => by cases z⟩) id
mutual
theorem hidK (hd : H D = some (.dK kvs)) : ∀ (x : PyData) {v : V}, Dp K H v x → Dp K (hid [D] H) v x
  | .none, _, q => by cases q; exact .non
  | .bool b, _, q => by cases q; exact .bl b
  | .int i, _, q => by cases q; exact .int i
  | .str x, _, q => by cases q; exact .str x
  | .list ds, _, q => by
    cases q with
    | lst hs ha => exact .lst (sql_hidK hd hs) (hidKs hd ds ha)
  | .tuple ds, _, q => by
    cases q with
    | tup hs ha => exact .tup (sqt_hidK hd hs) (hidKs hd ds ha)
  | .dict _, _, q => by cases q
theorem hidKs (hd : H D = some (.dK kvs)) : ∀ (ds : List PyData) {vs : List V}, DpAll K H vs ds → DpAll K (hid [D] H) vs ds
  | [], _, q => by cases q; exact .nil
  | x :: ds, _, q => by
    cases q with
    | cons h1 h2 => exact .cons (hidK hd x h1) (hidKs hd ds h2)
end
end
/-- what stands for s, 0 where nothing does -/
def cof (ps : List (Nat × Int)) (s : Nat) : Int := (vof ps s).getD 0
/-- ways by one letter more, out of these pairs -/
def stepC (tab : List (List Nat)) : List (Nat × Int) → Nat → Int
  | [], _ => 0
  | p :: ps, t => p.2 * ((tab.getD p.1 []).count t : Nat) + stepC tab ps t
theorem stepC_app {tab : List (List Nat)} {t : Nat} : ∀ ps qs : List (Nat × Int), stepC tab (ps ++ qs) t = stepC tab ps t + stepC tab qs t
  | [], qs => (Int.zero_add _).symm
  | p :: ps, qs => by
    show _ + stepC tab (ps ++ qs) t = _ + stepC tab ps t + stepC tab qs t
    rw [stepC_app ps qs, Int.add_assoc]
theorem vof_at : ∀ {ps : List (Nat × Int)} {i : Nat} {p : Nat × Int}, (ps.map (·.1)).Nodup → ps[i]? = some p → vof ps p.1 = some p.2
  | [], _, _, _, h => by simp at h
  | q :: ps, 0, p, _, h => by
    have e : q = p := by simpa using h
    unfold vof
    rw [if_pos (by rw [e]), e]
  | q :: ps, i + 1, p, nd, h => by
    obtain ⟨na, nd'⟩ := List.nodup_cons.mp nd
    have h' : ps[i]? = some p := by simpa using h
    unfold vof
    rw [if_neg (fun z => na (List.mem_map.mpr ⟨p, List.mem_of_getElem? h', z.symm⟩))]
    exact vof_at nd' h'
theorem rd_dget2 {td ty tx : TE} {σ : L2.St} {H : Hp} {Q : VK} (h : td σ H fun x H1 => ∃ a, x = .ref a ∧ IsD H1 a ∧ ty σ H1 fun y H2 => tx σ H2 fun z H3 => ∃ o, DGet H3 a y o ∧ Q (o.getD z) H3) : tDGet2 td ty tx σ H Q := h
theorem getD_enc {ps : List (Nat × Int)} {s : Nat} : (valV (encC ps) (kI s)).getD (.int 0) = .int (cof ps s) := by
  rw [valV_enc]
  unfold cof
  cases vof ps s <;> rfl
def spLonger : Sp := fun vs H Q _ => ∃ (m d : Addr) (ls : Str) (acc : List Bool) (tab : List (List Nat)) (ps : List (Nat × Int)), vs = [.ref m, .ref d] ∧ MachD K T.C_Machine H m ls acc tab ∧ GM acc tab ∧ H d = some (.dK (encC ps)) ∧ Ct acc.length ps ∧
  ∀ (l : Addr) (qs : List (Nat × Int)) (H' : Hp), Ex H H' → H l = none → H' l = some (.dK (encC qs)) → Ct acc.length qs → (∀ t, cof qs t = stepC tab ps t) → (∀ t, t ∈ qs.map (·.1) ↔ ∃ s ∈ ps.map (·.1), t ∈ tab.getD s []) → Q (.ref l) H'
theorem ok_longer : FnOk P w K mg base CX0 1 T.a__longer T.d__longer ["machine", "many"] (spLonger T) := by
  refine T.f__longer.ok sc__longer (fun vs H Q E h => ?_) (fun cdv A outer s H vs Q E hr h => ?_)
  · obtain ⟨_, _, _, _, _, _, rfl, _⟩ := h; rfl
  · obtain ⟨m, d, ls, acc, tab, ps, rfl, ⟨dx, ta, tt, hm, hA, hT⟩, gm, hd, ct, q⟩ := h
    have hsl : 1000000 ≤ sizeLine := by decide
    have gn := gm.g.n
    have ge := gm.e
    have gp := gm.p
    refine ⟨_, (pss_cons (ps_set (i := 2) sc__longer.nd rfl (by first | exact Or.inl rfl | exact Or.inr rfl) pe_dnewK)
  (pss_cons (ps_lock (ps_for PassesOwn.never rfl (pi_keys (pv 1)) (pg_name (i := 3) sc__longer.nd rfl (by first | exact Or.inl rfl | exact Or.inr rfl))
    (pss_one (ps_for PassesOwn.never rfl (kAny K rfl (pe_ix (kIx K) (kFld K rfl (pe_fld (pv 0) rfl)) (pv 3) (fun _ _ => rfl))) (pg_name (i := 4) sc__longer.nd rfl (by first | exact Or.inl rfl | exact Or.inr rfl))
    (pss_one (ps_dput (hu_of hr) (pv 2) (pv 4) (pe_op (kAdd K) (pe_dget2 (hu_of hr) (pv 2) (pv 4) pe_int ⟨by rfl, by rfl, by rfl, by rfl⟩) (pe_dget (hu_of hr) (pv 1) (pv 3) (fun _ _ => rfl))) rfl))))))
  (pss_one (ps_ret (pv 2))))), ?_⟩
    walk_at "rc"
    intro D hD
    walk_at "rc"
    walk_at "rs"
    have hd1 : upd H D (.dK []) d = some (.dK (encC ps)) := by rw [upd_ne (ne_of_none hd hD)]; exact hd
    refine ⟨d, .dK (encC ps), hd1, trivial, fun od => ?_⟩
    have ndD : d ≠ D := ne_of_none hd hD
    have md : m ≠ d := fun z => by rw [z, hd] at hm; cases hm
    have hT2 := hidK (K := K) hd _ hT
    have k0 : Kp [d] H (upd (upd H D (.dK [])) d (.frz od (.dK (encC ps)))) := (Kp.new hD).trans (Kp.put List.mem_cons_self)
    have f0 : upd (upd H D (.dK [])) d (.frz od (.dK (encC ps))) d = some (.frz od (.dK (encC ps))) := upd_same
    have g0 : upd (upd H D (.dK [])) d (.frz od (.dK (encC ps))) D = some (.dK (encC [])) := by rw [upd_ne (Ne.symm ndD)]; exact upd_same
    generalize upd (upd H D (.dK [])) d (.frz od (.dK (encC ps))) = H0 at k0 f0 g0
    refine ⟨_, rfl, d, od, rfl, .inl ⟨encC ps, f0, ?_⟩⟩
    have pl : (encC ps).length = ps.length := List.length_map ..
    refine fo_it walk_keys (fun i σ H' => ∃ (qs : List (Nat × Int)) (k3 k4 : Option V), σ = [some (.ref m), some (.ref d), some (.ref D), k3, k4] ∧ Kp [d] H H' ∧ H' d = some (.frz od (.dK (encC ps))) ∧ H' D = some (.dK (encC qs)) ∧ Ct acc.length qs ∧ (∀ t, cof qs t = stepC tab (ps.take i) t) ∧ ∀ t, t ∈ qs.map (·.1) ↔ ∃ s ∈ (ps.take i).map (·.1), t ∈ tab.getD s [])
      ⟨[], _, _, rfl, k0, f0, g0, ⟨List.nodup_nil, fun s hs => nomatch hs⟩, fun t => rfl, fun t => ⟨fun z => (nomatch z), fun ⟨s, hs, _⟩ => (by simp at hs)⟩⟩ (fun i σ H' _ ⟨_, _, _, p⟩ => p.2.2.1) ?_ ?_
    · rintro i x σ H1 H2 hi ⟨qs, k3, k4, rfl, k1, f1, g1, c1, v1, m1⟩ ⟨rfl, k, v, hkv, rfl⟩
      have hkv' : (ps.map fun p => (kI p.1, V.int p.2))[i]? = some (k, v) := hkv
      rw [List.getElem?_map] at hkv'
      obtain ⟨p, hp, e⟩ := Option.map_eq_some_iff.mp hkv'
      cases e
      have hpn : p.1 < tab.length := by rw [ge]; exact ct.b _ (List.mem_map.mpr ⟨p, List.mem_of_getElem? hp, rfl⟩)
      obtain ⟨rv, hrv, hrx⟩ := sq_at (K := K) (i := p.1) (.inr hT2) (List.getElem?_eq_getElem (by rw [List.length_map]; exact hpn))
      obtain ⟨row, hrow, erow, hrd⟩ := (rowsN_T tab).get (List.getElem?_eq_getElem (by rw [List.length_map]; exact hpn)) hrv
      have rb := gm.g.b row (List.mem_of_getElem? hrow)
      have fr : ∀ {H' : Hp}, Kp [d] H H' → Ex (hid [d] H) H' := fun k => k.ex.trans hid_ex
      walk_at "rc"
      refine rd_anySq (x := rv) (fun Q q => ?_) (fr k1) hrd fun J2 w2 => ?_
      · walk_at "rc"
        refine ⟨m, _, dx, _, _, rfl, k1 _ _ (fun z => md (List.mem_singleton.mp z)) hm, T.cl_Machine, T.na_Machine_table, rfl, ?_⟩
        walk_at "rc"
        exact hrx _ (fr k1) _ q
      refine fo_D w2 (fun j σ H' => ∃ (qs : List (Nat × Int)) (k4 : Option V), σ = [some (.ref m), some (.ref d), some (.ref D), some (vI p.1), k4] ∧ Kp [d] H H' ∧ H' d = some (.frz od (.dK (encC ps))) ∧ H' D = some (.dK (encC qs)) ∧ Ct acc.length qs ∧ (∀ t, cof qs t = stepC tab (ps.take i) t + p.2 * ((row.take j).count t : Nat)) ∧ ∀ t, t ∈ qs.map (·.1) ↔ (∃ s ∈ (ps.take i).map (·.1), t ∈ tab.getD s []) ∨ t ∈ row.take j)
        ⟨qs, _, rfl, k1, f1, g1, c1, fun t => by rw [v1, List.take_zero, List.count_nil]; simp, fun t => by rw [m1, List.take_zero]; simp⟩ (fun i σ H' _ ⟨_, _, _, p⟩ => fr p.1) ?_ ?_
      · rintro j dd v σ H3 hdd hv ⟨qs, k4, rfl, k3', f3, g3, c3, v3, m3⟩
        rw [List.getElem?_map] at hdd
        obtain ⟨t, ht, rfl⟩ := Option.map_eq_some_iff.mp hdd
        cases Dp.int_iff hv
        have htl : t < acc.length := by rw [← ge]; exact rb t (List.mem_of_getElem? ht)
        walk_at "rc"
        refine rd_dget2 ?_
        walk_at "rc"
        refine ⟨D, rfl, .inl ⟨_, .inl g3⟩, ?_⟩
        walk_at "rc"
        refine ⟨_, DGet.k (k := kI t) g3, ?_⟩
        rw [getD_enc]
        walk_at "rc"
        have va := vof_at ct.d hp
        have gd : DGet H3 d (.int (p.1 : Nat)) (some (.int p.2)) := .inl ⟨encC ps, kI p.1, .inr ⟨od, f3⟩, rfl, by rw [valV_enc, va]; rfl⟩
        refine ⟨d, _, rfl, gd, ?_⟩
        walk_at "rc"
        have cl := c3.len
        have gl : (encC qs).length = qs.length := List.length_map ..
        refine ⟨D, _, rfl, DPut.k (k := kI t) g3 (by omega), ?_⟩
        rw [putK_enc (n := acc.length) c3.d]
        refine ⟨putP qs t (cof qs t + p.2), _, rfl, fun b o hb z => (by rw [upd_ne (ne_of_none z hD)]; exact k3' b o hb z), (by rw [upd_ne ndD]; exact f3), upd_same, c3.put htl, fun u => ?_, fun u => ?_⟩
        · have cu : cof (putP qs t (cof qs t + p.2)) u = if u = t then cof qs t + p.2 else cof qs u := by
            unfold cof
            rw [vof_put]
            split <;> rfl
          have tc : (row.take (j + 1)).count u = (row.take j).count u + if u = t then 1 else 0 := by
            rw [List.take_succ, ht, List.count_append]
            congr 1
            by_cases e : u = t
            · rw [if_pos e, e]; simp
            · rw [if_neg e]
              exact List.count_eq_zero.mpr fun z => e (by simpa using z)
          rw [cu, tc]
          by_cases e : u = t
          · rw [if_pos e, if_pos e, e, v3, Int.natCast_add, Int.mul_add]
            omega
          · rw [if_neg e, if_neg e, v3]
            rfl
        · have ku : u ∈ (putP qs t (cof qs t + p.2)).map (·.1) ↔ u ∈ qs.map (·.1) ∨ u = t := by
            rw [keys_put]
            split
            · rename_i z
              exact ⟨.inl, fun y => y.elim id fun y => by rw [y]; exact z⟩
            · rw [List.mem_append, List.mem_singleton]
          rw [ku, m3, List.take_succ, ht, List.mem_append]
          have e2 : u ∈ (some t).toList ↔ u = t := by simp
          rw [e2, or_assoc]
      · rintro σ H3 ⟨qs, k4, rfl, k3', f3, g3, c3, v3, m3⟩
        rw [List.length_map, List.take_length] at v3 m3
        refine ⟨qs, _, _, rfl, k3', f3, g3, c3, fun t => ?_, fun t => ?_⟩
        · rw [v3, List.take_succ, hp, stepC_app]
          show _ = _ + (p.2 * ((tab.getD p.1 []).count t : Nat) + 0)
          rw [erow, Int.add_zero]
        · rw [m3, List.take_succ, hp, List.map_append]
          have e2 : (some p).toList.map (·.1) = [p.1] := rfl
          rw [e2]
          constructor
          · rintro (⟨u, hu, z⟩ | z)
            · exact ⟨u, List.mem_append.mpr (.inl hu), z⟩
            · exact ⟨p.1, List.mem_append.mpr (.inr List.mem_cons_self), by rw [erow]; exact z⟩
          · rintro ⟨u, hu, z⟩
            rcases List.mem_append.mp hu with y | y
            · exact .inl ⟨u, y, z⟩
            · rw [List.mem_singleton.mp y, erow] at z
              exact .inr z
    · rintro σ H1 ⟨qs, k3, k4, rfl, k1, f1, g1, c1, v1, m1⟩
      rw [pl, List.take_length] at v1 m1
      refine ⟨f1, ?_⟩
      walk_at "rc"
      refine q D qs _ (fun b o z => ?_) hD (by rw [upd_ne (Ne.symm ndD)]; exact g1) c1 v1 m1
      by_cases e : b = d
      · rw [e, hd] at z
        rw [e, upd_same]
        exact z
      · rw [upd_ne e]
        exact k1 b o (fun y => e (List.mem_singleton.mp y)) z
def accC (acc : List Bool) : List (Nat × Int) → List Int
  | [] => []
  | p :: ps => if acc.getD p.1 false = true then p.2 :: accC acc ps else accC acc ps
theorem accC_app {acc : List Bool} : ∀ ps qs : List (Nat × Int), accC acc (ps ++ qs) = accC acc ps ++ accC acc qs
  | [], qs => rfl
  | p :: ps, qs => by
    show (if acc.getD p.1 false = true then p.2 :: accC acc (ps ++ qs) else accC acc (ps ++ qs)) = (if acc.getD p.1 false = true then p.2 :: accC acc ps else accC acc ps) ++ accC acc qs
    rw [accC_app ps qs]
    split <;> rfl
theorem accC_len {acc : List Bool} : ∀ ps : List (Nat × Int), (accC acc ps).length ≤ ps.length
  | [] => Nat.le_refl 0
  | p :: ps => by
    have := accC_len (acc := acc) ps
    unfold accC
    split
    · rw [List.length_cons, List.length_cons]; omega
    · rw [List.length_cons]; omega
def spAccepted : Sp := fun vs H Q _ => ∃ (m d : Addr) (ls : Str) (acc : List Bool) (tab : List (List Nat)) (ps : List (Nat × Int)), vs = [.ref m, .ref d] ∧ MachD K T.C_Machine H m ls acc tab ∧ GM acc tab ∧ H d = some (.dK (encC ps)) ∧ Ct acc.length ps ∧
  ∀ H', Ex H H' → Q (.int (accC acc ps).sum) H'
theorem ok_accepted : FnOk P w K mg base CX0 1 T.a__accepted T.d__accepted ["machine", "many"] (spAccepted T) := by
  refine T.f__accepted.ok sc__accepted (fun vs H Q E h => ?_) (fun cdv A outer s H vs Q E hr h => ?_)
  · obtain ⟨_, _, _, _, _, _, rfl, _⟩ := h; rfl
  · obtain ⟨m, d, ls, acc, tab, ps, rfl, ⟨dx, ta, tt, hm, hA, hT⟩, gm, hd, ct, q⟩ := h
    have hsl : 1000000 ≤ sizeLine := by decide
    have gn := gm.g.n
    have ge := gm.e
    have pn := ct.len
    refine ⟨_, (pss_one (ps_ret (pe_callB (kSum K) (by rfl) T.nb_sum (by decide +kernel) (pa_cons (pe_lock (pe_lc (own := [("state", 2)]) (g := gName 2)  (by rfl) sc__accepted.nd (pi_keys (pv 1)) (blkOk_by (own := [("state", 2)]) (N := ["machine", "many", "state"]) (sc := defScope s__accepted) (by decide +kernel)) (fun _ _ _ _ _ => (pg_name (i := 2) sc__accepted.nd rfl (by first | exact Or.inl rfl | exact Or.inr rfl))) (fun _ _ _ _ _ => (pts_one (pt_val (pe_ix (kIx K) (kFld K rfl (pe_fld (pv 0) rfl)) (pv 2) (fun _ _ => rfl))))) (fun _ _ _ _ _ => (pe_dget (hu_of hr) (pv 1) (pv 2) (fun _ _ => rfl))))) pa_nil)))), ?_⟩
    walk_at "rc"
    refine ⟨d, .dK (encC ps), hd, trivial, fun od => ?_⟩
    walk_at "rc"
    have md : m ≠ d := fun z => by rw [z, hd] at hm; cases hm
    have hA2 := hidK (K := K) hd _ hA
    have k0 : Kp [d] H (upd H d (.frz od (.dK (encC ps)))) := Kp.put List.mem_cons_self
    have f0 : upd H d (.frz od (.dK (encC ps))) d = some (.frz od (.dK (encC ps))) := upd_same
    generalize upd H d (.frz od (.dK (encC ps))) = H0 at k0 f0
    refine ⟨_, rfl, d, od, rfl, .inl ⟨encC ps, f0, ?_⟩⟩
    have pl : (encC ps).length = ps.length := List.length_map ..
    intro L hL
    have fr : ∀ {H' : Hp}, Kp [d] H H' → Ex (hid [d] H) H' := fun k => k.ex.trans hid_ex
    have ndL : d ≠ L := fun z => by rw [← z, f0] at hL; cases hL
    refine lc_it walk_keys (fun i Hc => Ex H0 Hc ∧ Hc L = some (.lst ((accC acc (ps.take i)).map V.int))) ⟨Evl.Ex.new hL, upd_same⟩ (fun i Hc _ p => p.1 _ _ f0) (fun i x Hc H' hi p y => ?_) fun H1 p => ?_
    · obtain ⟨rfl, k, v, hkv, rfl⟩ := y
      obtain ⟨e1, h1⟩ := p
      have hkv' : (ps.map fun p => (kI p.1, V.int p.2))[i]? = some (k, v) := hkv
      rw [List.getElem?_map] at hkv'
      obtain ⟨p, hp, e⟩ := Option.map_eq_some_iff.mp hkv'
      cases e
      have hpn : p.1 < acc.length := ct.b _ (List.mem_map.mpr ⟨p, List.mem_of_getElem? hp, rfl⟩)
      have k1 := k0.trans (Kp.of_ex (S := [d]) e1)
      have es : accC acc (ps.take (i + 1)) = accC acc (ps.take i) ++ (if acc.getD p.1 false = true then [p.2] else []) := by
        rw [List.take_succ, hp, accC_app]
        congr 1
      have al := accC_len (acc := acc) (ps.take i)
      rw [List.length_take] at al
      walk_at "rc"
      refine ⟨rfl, ?_⟩
      walk_at "rc"
      refine ⟨m, _, dx, _, _, rfl, k1 _ _ (fun z => md (List.mem_singleton.mp z)) hm, T.cl_Machine, T.na_Machine_accepting, rfl, ?_⟩
      walk_at "rc"
      refine rd_ixDT (fr k1) hA2 (i := p.1) (d := .bool (acc.getD p.1 false)) (by rw [List.getElem?_map, List.getD_eq_getElem?_getD, List.getElem?_eq_getElem hpn]; rfl) fun v hv => ?_
      cases Dp.bl_iff hv
      walk_at "rc"
      have f1 := e1 _ _ f0
      have gd : DGet H' d (kV (kI p.1)) (some (.int p.2)) := .inl ⟨encC ps, kI p.1, .inr ⟨od, f1⟩, rfl, by rw [valV_enc, vof_at ct.d hp]; rfl⟩
      cases hb : acc.getD p.1 false with
      | true =>
        rw [if_pos hb] at es
        refine rd_iteT ?_
        walk_at "rc"
        refine ⟨d, _, rfl, gd, ?_⟩
        refine ⟨_, h1, by rw [List.length_map]; omega, Evl.Ex.mut e1 hL, ?_⟩
        rw [es, List.map_append]
        exact upd_same
      | false =>
        rw [if_neg (by rw [hb]; decide), List.append_nil] at es
        refine rd_iteF ?_
        rw [es]
        exact ⟨e1, h1⟩
    · obtain ⟨e1, h1⟩ := p
      rw [pl, List.take_length] at h1
      refine ⟨e1 _ _ f0, ?_⟩
      walk_at "rc"
      refine ⟨L, accC acc ps, rfl, SqL.of (by rw [upd_ne (Ne.symm ndL)]; exact h1), ?_⟩
      refine q _ fun b o z => ?_
      by_cases e : b = d
      · rw [e, hd] at z
        rw [e, upd_same]
        exact z
      · rw [upd_ne e]
        exact e1 _ _ (k0 b o (fun y => e (List.mem_singleton.mp y)) z)
end
section
/-! ### counts that tell words -/
abbrev lgW (acc : List Bool) (tab : List (List Nat)) (u : List Nat) : Bool := acc.getD (rn tab 0 u) false
def cw (tab : List (List Nat)) (L : List (List Nat)) (s : Nat) : Int := ((L.countP fun u => decide (rn tab 0 u = s) : Nat) : Int)
def extW (w : Nat) (L : List (List Nat)) : List (List Nat) := L.flatMap fun u => (List.range w).map fun j => u ++ [j]
theorem mem_extW {w : Nat} {L : List (List Nat)} {v : List Nat} : v ∈ extW w L ↔ ∃ u ∈ L, ∃ j, j < w ∧ v = u ++ [j] := by
  unfold extW
  rw [List.mem_flatMap]
  constructor
  · rintro ⟨u, hu, h⟩
    obtain ⟨j, hj, rfl⟩ := List.mem_map.mp h
    exact ⟨u, hu, j, List.mem_range.mp hj, rfl⟩
  · rintro ⟨u, hu, j, hj, rfl⟩
    exact ⟨u, hu, List.mem_map.mpr ⟨j, List.mem_range.mpr hj, rfl⟩⟩
theorem lw_ext {w : Nat} {L : List (List Nat)} (h : ∀ u ∈ L, Lw w u) : ∀ u ∈ extW w L, Lw w u := fun v hv => by
  obtain ⟨u, hu, j, hj, rfl⟩ := mem_extW.mp hv
  exact (h u hu).snoc hj
def smZ (l : List Int) : Int := l.sum
theorem sum_ind (n a : Nat) (c : Int) (F g : Nat → Int) (h : a < n) : ((List.range n).map fun s => ((if s = a then c else 0) + F s) * g s).sum = c * g a + ((List.range n).map fun s => F s * g s).sum := by
  have key : ∀ m, ((List.range m).map fun s => ((if s = a then c else 0) + F s) * g s).sum = (if a < m then c * g a else 0) + ((List.range m).map fun s => F s * g s).sum := by
    intro m
    induction m with
    | zero => simp
    | succ m ih =>
      rw [List.range_succ, List.map_append, List.map_append, List.sum_append, List.sum_append, ih]
      simp only [List.map_cons, List.map_nil, List.sum_cons, List.sum_nil, Int.add_zero]
      by_cases e : m = a
      · rw [if_pos e, if_neg (by omega), if_pos (by omega), Int.add_mul, e]
        omega
      · rw [if_neg e, Int.zero_add]
        by_cases e2 : a < m
        · rw [if_pos e2, if_pos (by omega)]
          omega
        · rw [if_neg e2, if_neg (by omega)]
          omega
  rw [key n, if_pos h]
theorem cof_cons (p : Nat × Int) (ps : List (Nat × Int)) (hn : p.1 ∉ ps.map (·.1)) (s : Nat) : cof (p :: ps) s = (if s = p.1 then p.2 else 0) + cof ps s := by
  unfold cof
  have hv : vof (p :: ps) s = if p.1 = s then some p.2 else vof ps s := rfl
  rw [hv]
  by_cases e : p.1 = s
  · rw [if_pos e, if_pos e.symm, vof_none.mpr (by rw [← e]; exact hn)]
    simp
  · rw [if_neg e, if_neg (Ne.symm e), Int.zero_add]
theorem sum_zero (n : Nat) (g : Nat → Int) : ((List.range n).map fun s => (0 : Int) * g s).sum = 0 := by
  induction n with
  | zero => rfl
  | succ n ih => rw [List.range_succ, List.map_append, List.sum_append, ih]; simp
theorem sum_ps {n : Nat} (g : Nat → Int) : ∀ {ps : List (Nat × Int)}, Ct n ps → (ps.map fun p => p.2 * g p.1).sum = ((List.range n).map fun s => cof ps s * g s).sum
  | [], _ => (sum_zero n g).symm
  | p :: ps, h => by
    obtain ⟨na, nd⟩ := List.nodup_cons.mp h.d
    have ih := sum_ps g (ps := ps) ⟨nd, fun s hs => h.b s (List.mem_cons_of_mem _ hs)⟩
    have e : ((List.range n).map fun s => cof (p :: ps) s * g s) = (List.range n).map fun s => ((if s = p.1 then p.2 else 0) + cof ps s) * g s := List.map_congr_left fun s _ => by rw [cof_cons p ps na s]
    rw [List.map_cons, List.sum_cons, ih, e, sum_ind n p.1 p.2 (cof ps) g (h.b _ List.mem_cons_self)]
theorem cw_cons (tab : List (List Nat)) (u : List Nat) (L : List (List Nat)) (s : Nat) : cw tab (u :: L) s = (if s = rn tab 0 u then 1 else 0) + cw tab L s := by
  unfold cw
  rw [List.countP_cons]
  by_cases e : rn tab 0 u = s
  · rw [if_pos (decide_eq_true e), if_pos e.symm]; omega
  · rw [if_neg (by simpa using e), if_neg (Ne.symm e)]; omega
theorem sum_L {n : Nat} {tab : List (List Nat)} (g : Nat → Int) : ∀ {L : List (List Nat)}, (∀ u ∈ L, rn tab 0 u < n) → (L.map fun u => g (rn tab 0 u)).sum = ((List.range n).map fun s => cw tab L s * g s).sum
  | [], _ => (sum_zero n g).symm
  | u :: L, h => by
    have ih := sum_L g (L := L) fun v hv => h v (List.mem_cons_of_mem _ hv)
    have e : ((List.range n).map fun s => cw tab (u :: L) s * g s) = (List.range n).map fun s => ((if s = rn tab 0 u then 1 else 0) + cw tab L s) * g s := List.map_congr_left fun s _ => by rw [cw_cons]
    rw [List.map_cons, List.sum_cons, ih, e, sum_ind n (rn tab 0 u) 1 (cw tab L) g (h u List.mem_cons_self), Int.one_mul]
structure Tel (tab : List (List Nat)) (n : Nat) (ps : List (Nat × Int)) (L : List (List Nat)) : Prop where
  c : Ct n ps
  v : ∀ t, cof ps t = cw tab L t
  k : ∀ t, t ∈ ps.map (·.1) ↔ ∃ u ∈ L, rn tab 0 u = t
  b : ∀ u ∈ L, rn tab 0 u < n
theorem Tel.sum {tab : List (List Nat)} {n : Nat} {ps : List (Nat × Int)} {L : List (List Nat)} (h : Tel tab n ps L) (g : Nat → Int) : (ps.map fun p => p.2 * g p.1).sum = (L.map fun u => g (rn tab 0 u)).sum := by
  rw [sum_ps g h.c, sum_L g h.b]
  exact congrArg List.sum (List.map_congr_left fun s _ => by rw [h.v s])
theorem stepC_sum (tab : List (List Nat)) (t : Nat) : ∀ ps, stepC tab ps t = (ps.map fun p => p.2 * (((tab.getD p.1 []).count t : Nat) : Int)).sum
  | [] => rfl
  | p :: ps => by
    show _ + stepC tab ps t = _
    rw [stepC_sum tab t ps, List.map_cons, List.sum_cons]
theorem count_row {row : List Nat} {w t : Nat} (h : row.length = w) : row.count t = ((List.range w).countP fun j => decide (row.getD j 0 = t)) := by
  have e : row = (List.range w).map fun j => row.getD j 0 := by
    refine List.ext_getElem (by simp [h]) fun i h1 h2 => ?_
    rw [List.getElem_map, List.getElem_range, List.getD_eq_getElem?_getD, List.getElem?_eq_getElem h1]
    rfl
  conv => lhs; rw [e]
  rw [List.count, List.countP_map]
  refine List.countP_congr fun j _ => ?_
  show ((row.getD j 0 == t) = true) ↔ _
  rw [beq_iff_eq, decide_eq_true_eq]
theorem cw_ext {tab : List (List Nat)} {n w t : Nat} (tb : Tb n w tab) : ∀ {L : List (List Nat)}, (∀ u ∈ L, rn tab 0 u < n) → cw tab (extW w L) t = (L.map fun u => (((tab.getD (rn tab 0 u) []).count t : Nat) : Int)).sum
  | [], _ => rfl
  | u :: L, h => by
    have ih := cw_ext (t := t) tb (L := L) fun v hv => h v (List.mem_cons_of_mem _ hv)
    have hs := h u List.mem_cons_self
    have hr : (tab.getD (rn tab 0 u) []).length = w := by
      refine tb.w _ ?_
      rw [List.getD_eq_getElem?_getD, List.getElem?_eq_getElem (by rw [tb.l]; exact hs)]
      exact List.getElem_mem _
    have e : (((List.range w).map fun j => u ++ [j]).countP fun v => decide (rn tab 0 v = t)) = (tab.getD (rn tab 0 u) []).count t := by
      rw [count_row hr, List.countP_map]
      refine List.countP_congr fun j _ => ?_
      show decide (rn tab 0 (u ++ [j]) = t) = true ↔ _
      rw [rn_snoc]
    have e2 : extW w (u :: L) = ((List.range w).map fun j => u ++ [j]) ++ extW w L := by unfold extW; rw [List.flatMap_cons]
    rw [List.map_cons, List.sum_cons, ← ih]
    unfold cw
    rw [e2, List.countP_append, e]
    omega
theorem Tel.nil {tab : List (List Nat)} {n : Nat} : Tel tab n [] [] := ⟨⟨List.nodup_nil, fun s h => nomatch h⟩, fun t => rfl, fun t => ⟨(fun z => nomatch z), fun ⟨_, z, _⟩ => nomatch z⟩, fun u h => nomatch h⟩
theorem Tel.one {tab : List (List Nat)} {n : Nat} (h : 0 < n) : Tel tab n [(0, 1)] [[]] := by
  refine ⟨⟨List.nodup_cons.mpr ⟨(fun z => nomatch z), List.nodup_nil⟩, fun s hs => by rw [List.mem_singleton.mp hs]; exact h⟩, fun t => ?_, fun t => ?_, fun u hu => by rw [List.mem_singleton.mp hu]; exact h⟩
  · rw [cof_cons (0, 1) [] (fun z => nomatch z) t, cw_cons]
    rfl
  · rw [List.map_cons, List.map_nil, List.mem_singleton]
    constructor
    · rintro rfl; exact ⟨[], List.mem_cons_self, rfl⟩
    · rintro ⟨u, hu, rfl⟩
      rw [List.mem_singleton.mp hu]; rfl
theorem Tel.step {tab : List (List Nat)} {n w : Nat} {ps qs : List (Nat × Int)} {L : List (List Nat)} (h : Tel tab n ps L) (tb : Tb n w tab) (c : Ct n qs) (v : ∀ t, cof qs t = stepC tab ps t) (k : ∀ t, t ∈ qs.map (·.1) ↔ ∃ s ∈ ps.map (·.1), t ∈ tab.getD s []) : Tel tab n qs (extW w L) := by
  refine ⟨c, fun t => ?_, fun t => ?_, fun u hu => ?_⟩
  · rw [v, stepC_sum, h.sum fun s => (((tab.getD s []).count t : Nat) : Int), cw_ext tb h.b]
  · rw [k]
    have hrow : ∀ s, s < n → ∀ t, t ∈ tab.getD s [] ↔ ∃ j, j < w ∧ (tab.getD s []).getD j 0 = t := fun s hs t => by
      have hr : (tab.getD s []).length = w := by
        refine tb.w _ ?_
        rw [List.getD_eq_getElem?_getD, List.getElem?_eq_getElem (by rw [tb.l]; exact hs)]
        exact List.getElem_mem _
      rw [List.mem_iff_getElem?]
      constructor
      · rintro ⟨j, hj⟩
        exact ⟨j, by rw [← hr]; exact ltQ hj, by rw [List.getD_eq_getElem?_getD, hj]; rfl⟩
      · rintro ⟨j, hj, e⟩
        rw [List.getD_eq_getElem?_getD, List.getElem?_eq_getElem (by rw [hr]; exact hj)] at e
        exact ⟨j, by rw [List.getElem?_eq_getElem (by rw [hr]; exact hj)]; exact congrArg some e⟩
    constructor
    · rintro ⟨s, hs, ht⟩
      obtain ⟨u, hu, rfl⟩ := (h.k s).mp hs
      obtain ⟨j, hj, e⟩ := (hrow _ (h.b u hu) t).mp ht
      exact ⟨u ++ [j], mem_extW.mpr ⟨u, hu, j, hj, rfl⟩, by rw [rn_snoc]; exact e⟩
    · rintro ⟨v', hv', rfl⟩
      obtain ⟨u, hu, j, hj, rfl⟩ := mem_extW.mp hv'
      exact ⟨_, (h.k _).mpr ⟨u, hu, rfl⟩, (hrow _ (h.b u hu) _).mpr ⟨j, hj, by rw [rn_snoc]⟩⟩
  · obtain ⟨v', hv', j, hj, rfl⟩ := mem_extW.mp hu
    rw [rn_snoc]
    exact tb.b _ j (h.b v' hv') hj
theorem accC_sum (acc : List Bool) : ∀ ps, (accC acc ps).sum = (ps.map fun p => p.2 * (if acc.getD p.1 false = true then 1 else 0)).sum
  | [] => rfl
  | p :: ps => by
    rw [List.map_cons, List.sum_cons, ← accC_sum acc ps]
    show (if acc.getD p.1 false = true then p.2 :: accC acc ps else accC acc ps).sum = _
    by_cases e : acc.getD p.1 false = true
    · rw [if_pos e, if_pos e, List.sum_cons, Int.mul_one]
    · rw [if_neg e, if_neg e, Int.mul_zero, Int.zero_add]
theorem sum_countP {α : Type} (p : α → Bool) : ∀ L : List α, (L.map fun u => if p u = true then (1 : Int) else 0).sum = ((L.countP p : Nat) : Int)
  | [] => rfl
  | u :: L => by
    rw [List.map_cons, List.sum_cons, sum_countP p L, List.countP_cons]
    by_cases e : p u = true
    · rw [if_pos e, if_pos e]; omega
    · rw [if_neg e, if_neg e]; omega
theorem Tel.acc {acc : List Bool} {tab : List (List Nat)} {n : Nat} {ps : List (Nat × Int)} {L : List (List Nat)} (h : Tel tab n ps L) : (accC acc ps).sum = ((L.countP (lgW acc tab) : Nat) : Int) := by
  rw [accC_sum, h.sum fun s => if acc.getD s false = true then 1 else 0]
  exact sum_countP (lgW acc tab) L
theorem Tel.add {tab : List (List Nat)} {n : Nat} {ps : List (Nat × Int)} {L : List (List Nat)} (h : Tel tab n ps L) {u : List Nat} {t : Nat} (e : rn tab 0 u = t) (ht : t < n) : Tel tab n (putP ps t (cof ps t + 1)) (L ++ [u]) := by
  refine ⟨h.c.put ht, fun s => ?_, fun s => ?_, fun v hv => ?_⟩
  · have cu : cof (putP ps t (cof ps t + 1)) s = if s = t then cof ps t + 1 else cof ps s := by
      unfold cof
      rw [vof_put]
      split <;> rfl
    rw [cu]
    have := h.v s
    unfold cw at this ⊢
    rw [List.countP_append]
    by_cases es : s = t
    · rw [if_pos es, ← es, this]
      have : [u].countP (fun u => decide (rn tab 0 u = s)) = 1 := by rw [List.countP_cons, if_pos (decide_eq_true (by rw [e, es]))]; rfl
      rw [this]; omega
    · rw [if_neg es, this]
      have : [u].countP (fun u => decide (rn tab 0 u = s)) = 0 := by rw [List.countP_cons, if_neg (by rw [e]; simpa using Ne.symm es)]; rfl
      rw [this]; omega
  · have ku : s ∈ (putP ps t (cof ps t + 1)).map (·.1) ↔ s ∈ ps.map (·.1) ∨ s = t := by
      rw [keys_put]
      split
      · rename_i z
        exact ⟨.inl, fun y => y.elim id fun y => by rw [y]; exact z⟩
      · rw [List.mem_append, List.mem_singleton]
    rw [ku, h.k]
    constructor
    · rintro (⟨v, hv, z⟩ | rfl)
      · exact ⟨v, List.mem_append.mpr (.inl hv), z⟩
      · exact ⟨u, List.mem_append.mpr (.inr List.mem_cons_self), e⟩
    · rintro ⟨v, hv, z⟩
      rcases List.mem_append.mp hv with y | y
      · exact .inl ⟨v, y, z⟩
      · rw [List.mem_singleton.mp y, e] at z
        exact .inr z.symm
  · rcases List.mem_append.mp hv with y | y
    · exact h.b v y
    · rw [List.mem_singleton.mp y, e]; exact ht
/-! ### the words ahead of a word -/
def lsF (w : Nat) (st : List Nat × List (List Nat)) (j : Nat) : List Nat × List (List Nat) := (st.1 ++ [j], extW w st.2 ++ (List.range j).map fun i => st.1 ++ [i])
def lsW (w : Nat) (u : List Nat) : List (List Nat) := (u.foldl (lsF w) ([], [])).2
theorem lsF_fst (w : Nat) : ∀ (u : List Nat) (st : List Nat × List (List Nat)), (u.foldl (lsF w) st).1 = st.1 ++ u
  | [], st => (List.append_nil _).symm
  | j :: u, st => by
    rw [List.foldl_cons, lsF_fst w u]
    show (st.1 ++ [j]) ++ u = _
    rw [List.append_assoc]; rfl
theorem lsW_snoc (w : Nat) (u : List Nat) (j : Nat) : lsW w (u ++ [j]) = extW w (lsW w u) ++ (List.range j).map fun i => u ++ [i] := by
  unfold lsW
  rw [List.foldl_append]
  show extW w _ ++ (List.range j).map (fun i => (u.foldl (lsF w) ([], [])).1 ++ [i]) = _
  rw [lsF_fst, List.nil_append]
def aW (w : Nat) (acc : List Bool) (tab : List (List Nat)) (k : Nat) : Nat := (lvW w k).countP (lgW acc tab)
def sumN (f : Nat → Nat) (k : Nat) : Nat := ((List.range k).map f).sum
theorem sumN_succ (f : Nat → Nat) (k : Nat) : sumN f (k + 1) = sumN f k + f k := by
  unfold sumN
  rw [List.range_succ, List.map_append, List.sum_append]
  simp
def plc (w : Nat) (acc : List Bool) (tab : List (List Nat)) (u : List Nat) : Nat := sumN (aW w acc tab) u.length + (lsW w u).countP (lgW acc tab)
theorem lv_split {w : Nat} (u : List Nat) (hu : Lw w u) : ∃ r, lvW w u.length = lsW w u ++ u :: r := by
  revert hu
  refine snoc_ind (P := fun u => Lw w u → ∃ r, lvW w u.length = lsW w u ++ u :: r) (fun _ => ⟨[], rfl⟩) (fun u j ih hu => ?_) u
  obtain ⟨h1, h2⟩ := Lw.init hu
  obtain ⟨r, e⟩ := ih h1
  have el : (u ++ [j]).length = u.length + 1 := by rw [List.length_append]; rfl
  have er : (List.range w).map (fun i => u ++ [i]) = (List.range j).map (fun i => u ++ [i]) ++ (u ++ [j]) :: ((List.range (w - j - 1)).map fun i => u ++ [j + 1 + i]) := by
    have : List.range w = List.range j ++ j :: (List.range (w - j - 1)).map (j + 1 + ·) := by
      refine List.ext_getElem (by simp; omega) fun i g1 g2 => ?_
      rw [List.getElem_range]
      by_cases c1 : i < j
      · rw [List.getElem_append_left (by simpa using c1), List.getElem_range]
      · rw [List.getElem_append_right (by simpa using c1)]
        simp only [List.length_range]
        by_cases c2 : i = j
        · subst c2; simp
        · rw [List.getElem_cons]
          rw [dif_neg (by omega)]
          simp only [List.getElem_map, List.getElem_range]
          omega
    rw [this, List.map_append, List.map_cons, List.map_map]
    rfl
  refine ⟨((List.range (w - j - 1)).map fun i => u ++ [j + 1 + i]) ++ extW w r, ?_⟩
  rw [el, lsW_snoc]
  show extW w (lvW w u.length) = _
  rw [e]
  unfold extW
  rw [List.flatMap_append, List.flatMap_cons, er]
  simp only [List.append_assoc, List.cons_append]
end
section
/-! ### how many accepted texts lie ahead -/
def wa (acc : List Bool) (tab : List (List Nat)) : Nat → Nat → Nat
  | 0, s => if acc.getD s false = true then 1 else 0
  | m + 1, s => ((tab.getD s []).map fun t => wa acc tab m t).sum
variable {n w : Nat} {acc : List Bool} {tab : List (List Nat)}
theorem Tb.row (tb : Tb n w tab) {s : Nat} (hs : s < n) : (tab.getD s []).length = w := by
  refine tb.w _ ?_
  rw [List.getD_eq_getElem?_getD, List.getElem?_eq_getElem (by rw [tb.l]; exact hs)]
  exact List.getElem_mem _
theorem row_map {row : List Nat} (h : row.length = w) : row = (List.range w).map fun j => row.getD j 0 := by
  refine List.ext_getElem (by simp [h]) fun i h1 h2 => ?_
  rw [List.getElem_map, List.getElem_range, List.getD_eq_getElem?_getD, List.getElem?_eq_getElem h1]
  rfl
theorem wa_row (tb : Tb n w tab) (m : Nat) {s : Nat} (hs : s < n) : wa acc tab (m + 1) s = ((List.range w).map fun j => wa acc tab m (dl tab s j)).sum := by
  show ((tab.getD s []).map _).sum = _
  have e := congrArg (fun r => (List.map (fun t => wa acc tab m t) r).sum) (row_map (tb.row hs))
  refine e.trans ?_
  show (List.map _ (List.map _ _)).sum = _
  rw [List.map_map]
  rfl
def wsum (acc : List Bool) (tab : List (List Nat)) (m : Nat) (L : List (List Nat)) : Nat := (L.map fun v => wa acc tab m (rn tab 0 v)).sum
theorem wsum_app (m : Nat) (L M : List (List Nat)) : wsum acc tab m (L ++ M) = wsum acc tab m L + wsum acc tab m M := by
  unfold wsum
  rw [List.map_append, List.sum_append]
theorem wsum_ext (tb : Tb n w tab) (m : Nat) : ∀ {L : List (List Nat)}, (∀ u ∈ L, rn tab 0 u < n) → wsum acc tab m (extW w L) = wsum acc tab (m + 1) L
  | [], _ => rfl
  | u :: L, h => by
    have ih := wsum_ext tb m (L := L) fun v hv => h v (List.mem_cons_of_mem _ hv)
    have e2 : extW w (u :: L) = ((List.range w).map fun j => u ++ [j]) ++ extW w L := by unfold extW; rw [List.flatMap_cons]
    rw [e2, wsum_app, ih]
    show _ = (List.map _ (u :: L)).sum
    rw [List.map_cons, List.sum_cons, wa_row tb m (h u List.mem_cons_self)]
    congr 1
    unfold wsum
    rw [List.map_map]
    refine congrArg List.sum (List.map_congr_left fun j _ => ?_)
    show wa acc tab m (rn tab 0 (u ++ [j])) = _
    rw [rn_snoc]; rfl
theorem wsum_zero : ∀ L : List (List Nat), wsum acc tab 0 L = L.countP (lgW acc tab)
  | [] => rfl
  | u :: L => by
    show (List.map _ (u :: L)).sum = _
    rw [List.map_cons, List.sum_cons, List.countP_cons, ← wsum_zero L, Nat.add_comm]
    rfl
theorem lw_lv {k : Nat} : ∀ u ∈ lvW w k, Lw w u := fun u hu => (mem_lvW.mp hu).1
theorem wsum_lv (tb : Tb n w tab) : ∀ k m : Nat, wsum acc tab m (lvW w k) = wa acc tab (k + m) 0
  | 0, m => by
    show (List.map _ [[]]).sum = _
    rw [Nat.zero_add]
    show wa acc tab m 0 + 0 = _
    rfl
  | k + 1, m => by
    show wsum acc tab m (extW w (lvW w k)) = _
    rw [wsum_ext tb m (fun u hu => tb.rn (lw_lv u hu) tb.p), wsum_lv tb k (m + 1)]
    congr 1; omega
theorem aW_wa (tb : Tb n w tab) (k : Nat) : aW w acc tab k = wa acc tab k 0 := by
  have := wsum_lv (acc := acc) tb k 0
  rw [wsum_zero] at this
  exact this
theorem lw_ls : ∀ {u : List Nat}, Lw w u → ∀ v ∈ lsW w u, Lw w v := by
  intro u hu v hv
  obtain ⟨r, e⟩ := lv_split u hu
  exact lw_lv v (by rw [e]; exact List.mem_append.mpr (.inl hv))
theorem ws_snoc (tb : Tb n w tab) (m : Nat) {u : List Nat} (hu : Lw w u) (j : Nat) : wsum acc tab m (lsW w (u ++ [j])) = wsum acc tab (m + 1) (lsW w u) + ((List.range j).map fun i => wa acc tab m (dl tab (rn tab 0 u) i)).sum := by
  rw [lsW_snoc, wsum_app, wsum_ext tb m (fun v hv => tb.rn (lw_ls hu v hv) tb.p)]
  congr 1
  unfold wsum
  rw [List.map_map]
  refine congrArg List.sum (List.map_congr_left fun i _ => ?_)
  show wa acc tab m (rn tab 0 (u ++ [i])) = _
  rw [rn_snoc]; rfl
theorem plc_ws (u : List Nat) : plc w acc tab u = sumN (aW w acc tab) u.length + wsum acc tab 0 (lsW w u) := by rw [wsum_zero]; rfl
theorem sumN_mono (f : Nat → Nat) {a b : Nat} (h : a ≤ b) : sumN f a ≤ sumN f b := by
  induction h with
  | refl => exact Nat.le_refl _
  | step _ ih => rw [sumN_succ]; omega
theorem plc_lt {u : List Nat} (hu : Lw w u) (hl : lgW acc tab u = true) : plc w acc tab u < sumN (aW w acc tab) (u.length + 1) := by
  obtain ⟨r, e⟩ := lv_split u hu
  rw [sumN_succ]
  unfold plc aW
  rw [e, List.countP_append, List.countP_cons, if_pos hl]
  omega
theorem plc_inj {u v : List Nat} (hu : Lw w u) (hv : Lw w v) (lu : lgW acc tab u = true) (lv : lgW acc tab v = true) (e : plc w acc tab u = plc w acc tab v) : u = v := by
  have key : ∀ {u v : List Nat}, Lw w u → lgW acc tab u = true → plc w acc tab u = plc w acc tab v → ¬ u.length < v.length := by
    intro u v hu lu e h
    have h1 := plc_lt hu lu
    have h2 := sumN_mono (aW w acc tab) h
    have h3 : sumN (aW w acc tab) v.length ≤ plc w acc tab v := Nat.le_add_right _ _
    have h4 : u.length + 1 ≤ v.length := h
    have h5 := sumN_mono (aW w acc tab) h4
    omega
  have el : u.length = v.length := by
    have := key hu lu e
    have := key hv lv e.symm
    omega
  obtain ⟨r, e1⟩ := lv_split u hu
  obtain ⟨r2, e2⟩ := lv_split v hv
  rw [← el, e1] at e2
  have ec : (lsW w u).countP (lgW acc tab) = (lsW w v).countP (lgW acc tab) := by
    unfold plc at e
    rw [el] at e
    omega
  have main : ∀ {A B : List (List Nat)} {u v : List Nat} {r r2 : List (List Nat)}, A ++ u :: r = B ++ v :: r2 → lgW acc tab u = true → A.countP (lgW acc tab) = B.countP (lgW acc tab) → ¬ A.length < B.length := by
    intro A B u v r r2 e lu ec h
    obtain ⟨C, hC⟩ : ∃ C, B = A ++ C := by
      refine ⟨B.drop A.length, ?_⟩
      have : B.take A.length = A := by
        have := congrArg (List.take A.length) e
        rw [List.take_append_of_le_length (Nat.le_refl _), List.take_length, List.take_append_of_le_length (Nat.le_of_lt h)] at this
        exact this.symm
      conv => lhs; rw [← List.take_append_drop A.length B, this]
    subst hC
    rw [List.append_assoc] at e
    have e' := List.append_cancel_left e
    rw [List.length_append] at h
    cases C with
    | nil => simp at h
    | cons c C =>
      obtain ⟨rfl, _⟩ := List.cons.inj e'
      rw [List.countP_append, List.countP_cons, if_pos lu] at ec
      omega
  have n1 := main e2 lu ec
  have n2 := main e2.symm lv ec.symm
  have e3 : (lsW w u).length = (lsW w v).length := by omega
  have := (List.append_inj e2 e3).2
  exact (List.cons.inj this).1
theorem countP_rows (m : Nat) : (rowsW w m).countP (lgW acc tab) = sumN (aW w acc tab) (m + 1) := by
  induction m with
  | zero =>
    rw [sumN_succ]
    show List.countP _ _ = 0 + _
    rw [Nat.zero_add]
    rfl
  | succ m ih =>
    rw [sumN_succ, ← ih]
    show List.countP _ (rowsW w m ++ lvW w (m + 1)) = _
    rw [List.countP_append]
    rfl
theorem lv_nodup (k : Nat) : (lvW w k).Nodup := (pw_lvW k).imp fun h e => by rw [e] at h; omega
theorem lv_at {k i : Nat} {u : List Nat} (h : (lvW w k)[i]? = some u) : (lvW w k).take i = lsW w u ∧ u.length = k := by
  obtain ⟨hu, el⟩ := mem_lvW.mp (List.mem_of_getElem? h)
  obtain ⟨r, e⟩ := lv_split u hu
  rw [el] at e
  refine ⟨?_, el⟩
  have hi : i = (lsW w u).length := by
    have h2 : (lvW w k)[(lsW w u).length]? = some u := by rw [e, List.getElem?_append_right (Nat.le_refl _), Nat.sub_self]; rfl
    obtain ⟨g1, g2⟩ := List.getElem?_eq_some_iff.mp h
    obtain ⟨g3, g4⟩ := List.getElem?_eq_some_iff.mp h2
    rcases Nat.lt_trichotomy i (lsW w u).length with z | z | z
    · exact absurd (g2.trans g4.symm) ((List.pairwise_iff_getElem.mp (lv_nodup k)) _ _ g1 g3 z)
    · exact z
    · exact absurd (g4.trans g2.symm) ((List.pairwise_iff_getElem.mp (lv_nodup k)) _ _ g3 g1 z)
  rw [hi, e, List.take_append_of_le_length (Nat.le_refl _), List.take_length]
theorem rows_at : ∀ {m i : Nat} {u : List Nat}, (rowsW w m)[i]? = some u → plc w acc tab u = ((rowsW w m).take i).countP (lgW acc tab)
  | 0, i, u, h => by
    have h : ([[]] : List (List Nat))[i]? = some u := h
    cases i with
    | zero =>
      have : [] = u := by simpa using h
      subst this
      rfl
    | succ i => simp at h
  | m + 1, i, u, h => by
    have h : (rowsW w m ++ lvW w (m + 1))[i]? = some u := h
    show _ = List.countP _ (List.take i (rowsW w m ++ lvW w (m + 1)))
    rcases Nat.lt_or_ge i (rowsW w m).length with hl | hl
    · rw [List.getElem?_append_left hl] at h
      rw [List.take_append_of_le_length (Nat.le_of_lt hl)]
      exact rows_at h
    · rw [List.getElem?_append_right hl] at h
      obtain ⟨h1, h2⟩ := lv_at h
      rw [List.take_append, List.take_of_length_le hl, List.countP_append, h1, countP_rows]
      unfold plc
      rw [h2]
end
section
/-! ### words that go on to accepted ones -/
variable {n w : Nat} {acc : List Bool} {tab : List (List Nat)}
theorem lv_word (tb : Tb n w tab) (hn : acc.length = n) {s : Nat} (h : Lv acc tab s) : ∃ v, Lw w v ∧ acc.getD (rn tab s v) false = true := by
  induction h with
  | st h => exact ⟨[], Lw.nil, by
      show acc.getD (rn tab _ []) false = true
      unfold rn
      rw [List.foldl_nil, List.getD_eq_getElem?_getD, h]; rfl⟩
  | @go s t h _ ih =>
    obtain ⟨v, hv, e⟩ := ih
    have hs : s < n := by
      rcases Nat.lt_or_ge s n with z | z
      · exact z
      · rw [List.getD_eq_getElem?_getD, List.getElem?_eq_none (by rw [tb.l]; exact z)] at h
        exact nomatch h
    obtain ⟨j, hj, ej⟩ := List.getElem_of_mem h
    refine ⟨j :: v, fun x hx => (List.mem_cons.mp hx).elim (fun z => by rw [z, ← tb.row hs]; exact hj) (hv x), ?_⟩
    show acc.getD (rn tab ((tab.getD s []).getD j 0) v) false = true
    have : (tab.getD s []).getD j 0 = t := by rw [List.getD_eq_getElem?_getD, List.getElem?_eq_getElem hj]; exact ej
    rw [this]; exact e
theorem dl_mem (tb : Tb n w tab) {s j : Nat} (hs : s < n) (hj : j < w) : dl tab s j ∈ tab.getD s [] := by
  have := tb.row hs
  unfold dl
  rw [List.getD_eq_getElem?_getD (l := tab.getD s []), List.getElem?_eq_getElem (by rw [this]; exact hj)]
  exact List.getElem_mem _
theorem word_lv (tb : Tb n w tab) : ∀ {v : List Nat} {s : Nat}, s < n → Lw w v → acc.getD (rn tab s v) false = true → Lv acc tab s
  | [], s, hs, _, h => .st (by
    have h : acc.getD s false = true := h
    rw [List.getD_eq_getElem?_getD] at h
    cases e : acc[s]? with
    | none => rw [e] at h; exact nomatch h
    | some b => rw [e] at h; exact congrArg some h)
  | j :: v, s, hs, hv, h => by
    have hj := hv j List.mem_cons_self
    exact .go (dl_mem tb hs hj) (word_lv tb (v := v) (tb.b s j hs hj) (fun x hx => hv x (List.mem_cons_of_mem _ hx)) h)
theorem word_rch (tb : Tb n w tab) : ∀ u : List Nat, Lw w u → Rch tab [0] (rn tab 0 u) :=
  snoc_ind (P := fun u => Lw w u → Rch tab [0] (rn tab 0 u)) (fun _ => .st List.mem_cons_self) fun u j ih hu => by
    obtain ⟨h1, h2⟩ := Lw.init hu
    rw [rn_snoc]
    exact .go (ih h1) (dl_mem tb (tb.rn h1 tb.p) h2)
theorem lv_back (tb : Tb n w tab) {s : Nat} (hs : s < n) : ∀ {v : List Nat} {s : Nat}, s < n → Lw w v → Lv acc tab (rn tab s v) → Lv acc tab s
  | [], _, _, _, h => h
  | j :: v, s, hs, hv, h => by
    have hj := hv j List.mem_cons_self
    exact .go (dl_mem tb hs hj) (lv_back tb hs (v := v) (tb.b s j hs hj) (fun x hx => hv x (List.mem_cons_of_mem _ hx)) h)
/-- a word as long as there are states comes to a state twice -/
theorem twice (tb : Tb n w tab) {s : Nat} (hs : s < n) {v : List Nat} (hv : Lw w v) (hl : n ≤ v.length) : ∃ x y z, v = x ++ y ++ z ∧ y ≠ [] ∧ rn tab s (x ++ y) = rn tab s x := by
  by_cases h : ∃ i j, i < j ∧ j ≤ v.length ∧ rn tab s (v.take i) = rn tab s (v.take j)
  · obtain ⟨i, j, hij, hj, e⟩ := h
    have e1 : v.take j = v.take i ++ (v.take j).drop i := by
      have := (List.take_append_drop i (v.take j)).symm
      rw [List.take_take, Nat.min_eq_left (Nat.le_of_lt hij)] at this
      exact this
    refine ⟨v.take i, (v.take j).drop i, v.drop j, ?_, fun z => ?_, ?_⟩
    · rw [← e1, List.take_append_drop]
    · have := congrArg List.length z
      rw [List.length_drop, List.length_take] at this
      simp at this
      omega
    · rw [← e1]; exact e.symm
  · exfalso
    have nd : ((List.range (n + 1)).map fun i => rn tab s (v.take i)).Nodup := by
      refine List.pairwise_iff_getElem.mpr fun i j hi hj hij e => h ⟨i, j, hij, ?_, ?_⟩
      · simp at hj; omega
      · rw [List.getElem_map, List.getElem_map, List.getElem_range, List.getElem_range] at e
        exact e
    have := nodup_leK _ (List.range n) nd fun c hc => by
      obtain ⟨i, _, rfl⟩ := List.mem_map.mp hc
      exact List.mem_range.mpr (tb.rn (fun x hx => hv x (List.mem_of_mem_take hx)) hs)
    simp at this
    omega
theorem short (tb : Tb n w tab) (hn : acc.length = n) {s : Nat} (hs : s < n) (h : Lv acc tab s) : ∃ v, Lw w v ∧ v.length < n ∧ acc.getD (rn tab s v) false = true := by
  obtain ⟨v, hv, e⟩ := lv_word tb hn h
  have key : ∀ (m : Nat) (v : List Nat), v.length ≤ m → Lw w v → acc.getD (rn tab s v) false = true → ∃ v, Lw w v ∧ v.length < n ∧ acc.getD (rn tab s v) false = true := by
    intro m
    induction m with
    | zero => exact fun v hm hv e => ⟨v, hv, by have := tb.p; omega, e⟩
    | succ m ih =>
      intro v hm hv e
      rcases Nat.lt_or_ge v.length n with g | g
      · exact ⟨v, hv, g, e⟩
      · obtain ⟨x, y, z, rfl, ny, er⟩ := twice tb hs hv g
        refine ih (x ++ z) ?_ (fun c hc => hv c ?_) ?_
        · have : 0 < y.length := List.length_pos_iff.mpr ny
          rw [List.length_append, List.length_append] at hm
          rw [List.length_append]; omega
        · rcases List.mem_append.mp hc with q | q
          · exact List.mem_append.mpr (.inl (List.mem_append.mpr (.inl q)))
          · exact List.mem_append.mpr (.inr q)
        · rw [rn_app, er, ← rn_app] at e
          exact e
  exact key v.length v (Nat.le_refl _) hv e
theorem pump (tb : Tb n w tab) {u : List Nat} (hu : Lw w u) (hl : n ≤ u.length) (h : lgW acc tab u = true) (K : Nat) : ∃ v, Lw w v ∧ K ≤ v.length ∧ lgW acc tab v = true := by
  obtain ⟨x, y, z, rfl, ny, er⟩ := twice tb tb.p hu hl
  have hx : Lw w x := fun c hc => hu c (List.mem_append.mpr (.inl (List.mem_append.mpr (.inl hc))))
  have hy : Lw w y := fun c hc => hu c (List.mem_append.mpr (.inl (List.mem_append.mpr (.inr hc))))
  have hz : Lw w z := fun c hc => hu c (List.mem_append.mpr (.inr hc))
  have py : 0 < y.length := List.length_pos_iff.mpr ny
  have key : ∀ K, ∃ x', Lw w x' ∧ K ≤ x'.length ∧ rn tab 0 x' = rn tab 0 x := by
    intro K
    induction K with
    | zero => exact ⟨x, hx, Nat.zero_le _, rfl⟩
    | succ K ih =>
      obtain ⟨x', h1, h2, h3⟩ := ih
      refine ⟨x' ++ y, fun c hc => (List.mem_append.mp hc).elim (h1 c) (hy c), by rw [List.length_append]; omega, ?_⟩
      rw [rn_app, h3, ← rn_app]; exact er
  obtain ⟨x', h1, h2, h3⟩ := key K
  refine ⟨x' ++ z, fun c hc => (List.mem_append.mp hc).elim (h1 c) (hz c), by rw [List.length_append]; omega, ?_⟩
  show acc.getD (rn tab 0 (x' ++ z)) false = true
  have h : acc.getD (rn tab 0 (x ++ y ++ z)) false = true := h
  rw [rn_app, h3]
  rw [rn_app, er] at h
  exact h
theorem aW_pos {k : Nat} : 0 < aW w acc tab k ↔ ∃ v, Lw w v ∧ v.length = k ∧ lgW acc tab v = true := by
  unfold aW
  rw [List.countP_pos_iff]
  constructor
  · rintro ⟨v, hv, e⟩
    obtain ⟨h1, h2⟩ := mem_lvW.mp hv
    exact ⟨v, h1, h2, e⟩
  · rintro ⟨v, h1, h2, e⟩
    exact ⟨v, mem_lvW.mpr ⟨h1, h2⟩, e⟩
theorem sumN_pos {f : Nat → Nat} {a b k : Nat} (h1 : a ≤ k) (h2 : k < b) (h : 0 < f k) : sumN f a + 1 ≤ sumN f b := by
  have e1 := sumN_mono f h1
  have e2 := sumN_mono f h2
  have e3 := sumN_succ f k
  have : k + 1 ≤ b := h2
  have e4 := sumN_mono f this
  omega
theorem far (tb : Tb n w tab) (hn : acc.length = n) {u : List Nat} (hu : Lw w u) (h : Lv acc tab (rn tab 0 u)) : u.length < n * (sumN (aW w acc tab) u.length + 1) := by
  have p := tb.p
  have key : ∀ q, q * n ≤ u.length → q ≤ sumN (aW w acc tab) (q * n) := by
    intro q
    induction q with
    | zero => exact fun _ => Nat.zero_le _
    | succ q ih =>
      intro hq
      rw [Nat.succ_mul] at hq ⊢
      have h1 := ih (by omega)
      have hl : Lw w (u.take (q * n)) := hu.take _
      have hb : rn tab 0 (u.take (q * n)) < n := tb.rn hl tb.p
      have : Lv acc tab (rn tab 0 (u.take (q * n))) := by
        refine lv_back tb hb (v := u.drop (q * n)) hb (fun x hx => hu x (List.mem_of_mem_drop hx)) ?_
        rw [← rn_app, List.take_append_drop]; exact h
      obtain ⟨v, hv, l, e⟩ := short tb hn hb this
      have ap : 0 < aW w acc tab (q * n + v.length) := aW_pos.mpr ⟨u.take (q * n) ++ v, fun x hx => (List.mem_append.mp hx).elim (hl x) (hv x), by rw [List.length_append, List.length_take, Nat.min_eq_left (by omega)], by
        show acc.getD (rn tab 0 _) false = true
        rw [rn_app]; exact e⟩
      have := sumN_pos (a := q * n) (b := q * n + n) (Nat.le_add_right _ _) (by omega) ap
      omega
  have d := Nat.div_add_mod u.length n
  have r := Nat.mod_lt u.length p
  have le : u.length / n * n ≤ u.length := Nat.div_mul_le_self _ _
  have k1 := key _ le
  have k2 := sumN_mono (aW w acc tab) le
  have : n * (u.length / n + 1) ≤ n * (sumN (aW w acc tab) u.length + 1) := Nat.mul_le_mul_left n (by omega)
  rw [Nat.mul_add, Nat.mul_one] at this
  omega
end
section
theorem gmw_tb {ls : Str} {acc : List Bool} {tab : List (List Nat)} (g : GMw ls acc tab) : Tb acc.length ls.length tab :=
  ⟨g.m.p, g.m.e, fun s j hs hj => by
    obtain ⟨row, x, _, _, _, e2, h⟩ := g.at' hs hj
    rw [e2]; exact h, g.w⟩
theorem disp01 {σ : L2.St} {H : Hp} {Q : VK} (h : ∀ p H', Ex H H' → H p = none → H' p = some (.dK (encC [(0, 1)])) → Q (.ref p) H') : tDisp [(tC (.int 0), tC (.int 1))] σ H Q := by
  intro p hp
  show upd H p (.dK []) p = _ ∧ _
  refine ⟨upd_same, [(kI 0, .int 1)], rfl, (by decide), h p _ ?_ hp upd_same⟩
  exact Evl.Ex.mut (Evl.Ex.new hp) hp
variable (T : Txt K mg)
theorem ok__longer : FnOk P w K mg base CX0 1 T.a__longer T.d__longer ["machine", "many"] (spLonger T) := ok_longer T
theorem ok__accepted : FnOk P w K mg base CX0 1 T.a__accepted T.d__accepted ["machine", "many"] (spAccepted T) := ok_accepted T
def spCount : Sp := fun vs H Q _ => ∃ (m : Addr) (ls : Str) (acc : List Bool) (tab : List (List Nat)) (k : Nat), vs = [.ref m, .int (k : Int)] ∧ MachD K T.C_Machine H m ls acc tab ∧ GMw ls acc tab ∧ k ≤ 100000 ∧
  ∀ H', Ex H H' → Q (.int ((aW ls.length acc tab k : Nat) : Int)) H'
theorem ok_count : FnOk P w K mg base CX0 2 T.a_count T.d_count ["machine", "length"] (spCount T) := by
  refine T.f_count.ok sc_count (fun vs H Q E h => ?_) (fun cdv A outer s H vs Q E hr h => ?_)
  · obtain ⟨_, _, _, _, _, rfl, _⟩ := h; rfl
  · obtain ⟨m, ls, acc, tab, k, rfl, hm, g, hk, q⟩ := h
    have tb := gmw_tb g
    refine ⟨_, (pss_cons (ps_set (i := 2) sc_count.nd rfl (by first | exact Or.inl rfl | exact Or.inr rfl) (pe_disp (pps_cons pe_int pe_int pps_nil) (by rfl) (by rfl) (fun z => by cases z) (by decide)))
  (pss_cons (ps_for PassesOwn.never rfl (pi_range1 (by rfl) T.nb_range (pa_cons (pv 1) pa_nil)) (pg_name (i := 3) sc_count.nd rfl (by first | exact Or.inl rfl | exact Or.inr rfl))
    (pss_one (ps_set (i := 2) sc_count.nd rfl (by first | exact Or.inl rfl | exact Or.inr rfl) (pe_callE (ok__longer T) (hr.mono (by decide)) T.o__longer (pa_cons (pv 0) (pa_cons (pv 2) pa_nil))))))
  (pss_one (ps_ret (pe_callE (ok__accepted T) (hr.mono (by decide)) T.o__accepted (pa_cons (pv 0) (pa_cons (pv 2) pa_nil))))))), ?_⟩
    walk_at "rc"
    refine disp01 fun d H1 e1 hd0 hd => ?_
    walk_at "rc"
    walk_at "rs"
    walk_at "rc"
    refine ⟨_, rfl, by omega, by omega, ?_⟩
    rw [Int.toNat_natCast]
    refine fo_range (fun i σ H' => ∃ (d : Addr) (ps : List (Nat × Int)) (k3 : Option V), σ = [some (.ref m), some (.int (k : Int)), some (.ref d), k3] ∧ Ex H H' ∧ H' d = some (.dK (encC ps)) ∧ Tel tab acc.length ps (lvW ls.length i))
      ⟨d, _, _, rfl, e1, hd, Tel.one g.m.p⟩ ?_ ?_
    · rintro i σ H2 hi ⟨d, ps, k3, rfl, e2, hd, t⟩
      walk_at "rc"
      refine ⟨m, d, ls, acc, tab, ps, rfl, hm.ex e2, g.m, hd, t.c, fun l qs H3 e3 hl0 hl c v kk => ?_⟩
      walk_at "rc"
      exact ⟨l, qs, _, rfl, e2.trans e3, hl, t.step tb c v kk⟩
    · rintro σ H2 ⟨d, ps, k3, rfl, e2, hd, t⟩
      walk_at "rc"
      refine ⟨m, d, ls, acc, tab, ps, rfl, hm.ex e2, g.m, hd, t.c, fun H3 e3 => ?_⟩
      rw [t.acc]
      exact q _ (e2.trans e3)
end
section
variable (T : Txt K mg)
theorem dpAll_nats {K : PySem.W.Frag} {H : Hp} : ∀ l : List Nat, DpAll K H (l.map vI) (l.map nI)
  | [] => .nil
  | n :: l => .cons (.int _) (dpAll_nats l)
/-- the front of a row -/
theorem cut0 {row : List Nat} {j : Nat} (hj : j ≤ row.length) : cutV (row.map vI) none (some (j : Int)) = (row.take j).map vI := by
  show List.take (HT.sIx (row.map vI).length (row.map vI).length (some (j : Int)) - HT.sIx (row.map vI).length 0 none) (List.drop (HT.sIx (row.map vI).length 0 none) (row.map vI)) = _
  rw [HT.sIx_nat, HT.sIx_none, List.length_map, Nat.min_eq_left hj, List.drop_zero, Nat.sub_zero, List.map_take]
theorem rd_sl0L {K : PySem.W.Frag} {H0 H : Hp} {x : V} {row : List Nat} {j : Nat} {Q : VK} (e : Ex H0 H) (h : Dp K H0 x (.list (row.map nI))) (hj : j ≤ row.length) (q : ∀ v H', Ex H H' → Dp K H' v (.list ((row.take j).map nI)) → Q v H') : oSl K x none (some (j : Int)) H Q := by
  obtain ⟨a, vs, rfl, hs, hd⟩ := Dp.lstv h
  obtain rfl := dp_nats hd
  refine .inl ⟨a, _, rfl, Evl.ex_l e hs, fun p hp => ?_⟩
  rw [cut0 hj]
  exact q _ _ (Evl.Ex.new hp) (.lst (SqL.of upd_same) (dpAll_nats _))
theorem rd_sl0T {K : PySem.W.Frag} {H0 H : Hp} {x : V} {row : List Nat} {j : Nat} {Q : VK} (e : Ex H0 H) (h : Dp K H0 x (.tuple (row.map nI))) (hj : j ≤ row.length) (q : ∀ v H', Ex H H' → Dp K H' v (.tuple ((row.take j).map nI)) → Q v H') : oSl K x none (some (j : Int)) H Q := by
  obtain ⟨a, vs, rfl, hs, hd⟩ := Dp.tupv h
  obtain rfl := dp_nats hd
  refine .inr (.inr ⟨a, _, rfl, Evl.ex_t e hs, fun full => ?_, fun _ p hp => ?_⟩)
  · have fj := full.2
    rw [HT.sIx_nat, List.length_map, Nat.min_eq_left hj] at fj
    refine q _ _ (Evl.Ex.refl H) ?_
    rw [fj, List.take_length]
    exact h.ex e
  · rw [cut0 hj]
    exact q _ _ (Evl.Ex.new hp) (.tup (Evl.st_of upd_same) (dpAll_nats _))
def spPlace : Sp := fun vs H Q _ => ∃ (m : Addr) (ls : Str) (acc : List Bool) (tab : List (List Nat)) (u : List Nat), vs = [.ref m, .str (tx ls u)] ∧ MachD K T.C_Machine H m ls acc tab ∧ GMw ls acc tab ∧ ls.cps.toList.Nodup ∧ Lw ls.length u ∧
  ∀ H', Ex H H' → Q (.int ((plc ls.length acc tab u : Nat) : Int)) H'
theorem ok_place_of : FnOk P w K mg base CX0 2 T.a_place_of T.d_place_of ["machine", "text"] (spPlace T) := by
  refine T.f_place_of.ok sc_place_of (fun vs H Q E h => ?_) (fun cdv A outer s H vs Q E hr h => ?_)
  · obtain ⟨_, _, _, _, _, rfl, _⟩ := h; rfl
  · obtain ⟨m, ls, acc, tab, u, rfl, hmD, g, nd, hu, q⟩ := h
    have hM := hmD
    obtain ⟨dx, ta, tt, hm, hA, hT⟩ := hmD
    have tb := gmw_tb g
    have hsl : 1000000 ≤ sizeLine := by decide
    have gn := g.m.g.n
    have ge := g.m.e
    refine ⟨_, (pss_cons (ps_set (i := 2) sc_place_of.nd rfl (by first | exact Or.inl rfl | exact Or.inr rfl) pe_int)
  (pss_cons (ps_set (i := 3) sc_place_of.nd rfl (by first | exact Or.inl rfl | exact Or.inr rfl) (pe_disp (pps_cons pe_int pe_int pps_nil) (by rfl) (by rfl) (fun z => by cases z) (by decide)))
  (pss_cons (ps_set (i := 4) sc_place_of.nd rfl (by first | exact Or.inl rfl | exact Or.inr rfl) pe_dnewK)
  (pss_cons (ps_set (i := 5) sc_place_of.nd rfl (by first | exact Or.inl rfl | exact Or.inr rfl) pe_int)
  (pss_cons (ps_for PassesOwn.never rfl (kAny K rfl (pv 1)) (pg_name (i := 6) sc_place_of.nd rfl (by first | exact Or.inl rfl | exact Or.inr rfl))
    (pss_cons (ps_aug (i := 2) sc_place_of.nd rfl (by first | exact Or.inl rfl | exact Or.inr rfl) (pe_callE (ok__accepted T) (hr.mono (by decide)) T.o__accepted (pa_cons (pv 0) (pa_cons (pv 3) pa_nil))) ip_add)
  (pss_cons (ps_set (i := 3) sc_place_of.nd rfl (by first | exact Or.inl rfl | exact Or.inr rfl) (pe_callE (ok__longer T) (hr.mono (by decide)) T.o__longer (pa_cons (pv 0) (pa_cons (pv 3) pa_nil))))
  (pss_cons (ps_set (i := 4) sc_place_of.nd rfl (by first | exact Or.inl rfl | exact Or.inr rfl) (pe_callE (ok__longer T) (hr.mono (by decide)) T.o__longer (pa_cons (pv 0) (pa_cons (pv 4) pa_nil))))
  (pss_cons (ps_set (i := 7) sc_place_of.nd rfl (by first | exact Or.inl rfl | exact Or.inr rfl) (kBm K rfl (pe_bm PySem.F.plainAttrs_str PySem.F.slot_str_index PySem.F.type_str_index mt_strIdx (kFld K rfl (pe_fld (pv 0) rfl)) (pa_cons (pv 6) pa_nil))))
  (pss_cons (ps_for PassesOwn.never rfl (kAny K rfl (pe_slice (kSl K) (pe_ix (kIx K) (kFld K rfl (pe_fld (pv 0) rfl)) (pv 5) (fun _ _ => rfl)) po_none (po_some (pv 7)))) (pg_name (i := 8) sc_place_of.nd rfl (by first | exact Or.inl rfl | exact Or.inr rfl))
    (pss_one (ps_dput (hu_of hr) (pv 4) (pv 8) (pe_op (kAdd K) (pe_dget2 (hu_of hr) (pv 4) (pv 8) pe_int ⟨by rfl, by rfl, by rfl, by rfl⟩) pe_int) rfl)))
  (pss_one (ps_set (i := 5) sc_place_of.nd rfl (by first | exact Or.inl rfl | exact Or.inr rfl) (pe_ix (kIx K) (pe_ix (kIx K) (kFld K rfl (pe_fld (pv 0) rfl)) (pv 5) (fun _ _ => rfl)) (pv 7) (fun _ _ => rfl))))))))))
  (pss_one (ps_ret (pe_op (kAdd K) (pv 2) (pe_callE (ok__accepted T) (hr.mono (by decide)) T.o__accepted (pa_cons (pv 0) (pa_cons (pv 4) pa_nil))))))))))), ?_⟩
    walk_at "rc"
    refine disp01 fun d H1 e1 hd0 hd => ?_
    walk_at "rc"
    intro d2 hd2
    have hd20 : H d2 = none := Evl.fresh_back e1 hd2
    have nd12 : d ≠ d2 := fun z => by rw [← z, hd] at hd2; cases hd2
    walk_at "rc"
    walk_at "rs"
    walk_at "rc"
    refine rd_anyS (fun Q q => ⟨_, rfl, q⟩) ?_
    refine fo_str (fun i σ H' => ∃ (d d2 : Addr) (ps p2 : List (Nat × Int)) (k6 k7 k8 : Option V), σ = [some (.ref m), some (.str (tx ls u)), some (.int ((sumN (aW ls.length acc tab) i : Nat) : Int)), some (.ref d), some (.ref d2), some (vI (rn tab 0 (u.take i))), k6, k7, k8] ∧ Ex H H' ∧ H d2 = none ∧ d ≠ d2 ∧ H' d = some (.dK (encC ps)) ∧ H' d2 = some (.dK (encC p2)) ∧ Tel tab acc.length ps (lvW ls.length i) ∧ Tel tab acc.length p2 (lsW ls.length (u.take i)))
      ⟨d, d2, _, [], _, _, _, rfl, Evl.Ex.mut e1 hd20, hd20, nd12, by rw [upd_ne nd12]; exact hd, upd_same, Tel.one g.m.p, Tel.nil⟩ ?_ ?_
    · rintro i c σ H2 hc ⟨d, d2, ps, p2, k6, k7, k8, rfl, e2, hd20, nd12, hd, hd2, t1, t2⟩
      obtain ⟨j, hj, rfl⟩ := tx_at hc
      have hjl : j < ls.length := hu j (List.mem_of_getElem? hj)
      have hul := hu.take i
      have hs : rn tab 0 (u.take i) < acc.length := tb.rn hul tb.p
      have eu : u.take (i + 1) = u.take i ++ [j] := by rw [List.take_succ, hj]; rfl
      obtain ⟨hmj, hix⟩ := idx_of nd (j := j) hjl
      walk_at "rc"
      walk_at "rs"
      refine ⟨_, rfl, ?_⟩
      walk_at "rc"
      refine ⟨m, d, ls, acc, tab, ps, rfl, hM.ex e2, g.m, hd, t1.c, fun H3 e3 => ?_⟩
      rw [t1.acc]
      have e23 := e2.trans e3
      have hd' := e3 _ _ hd
      have hd2' := e3 _ _ hd2
      refine ⟨_, _, rfl, rfl, ?_⟩
      walk_at "rc"
      refine ⟨m, d, ls, acc, tab, ps, rfl, hM.ex e23, g.m, hd', t1.c, fun l qs H4 e4 hl0 hl c v kk => ?_⟩
      have t1' := t1.step tb c v kk
      have e24 := e23.trans e4
      have hd24 := e4 _ _ hd2'
      walk_at "rc"
      refine ⟨m, d2, ls, acc, tab, p2, rfl, hM.ex e24, g.m, hd24, t2.c, fun l2 q2 H5 e5 hl20 hl2 c2 v2 kk2 => ?_⟩
      have t2' := t2.step tb c2 v2 kk2
      have e25 := e24.trans e5
      have hl5 := e5 _ _ hl
      have hl2H : H l2 = none := Evl.fresh_back e24 hl20
      have nl : l ≠ l2 := fun z => by rw [← z, hl] at hl20; cases hl20
      walk_at "rc"
      refine ⟨m, _, dx, _, _, rfl, e25 _ _ hm, T.cl_Machine, T.na_Machine_letters, rfl, rfl, ?_⟩
      walk_at "rc"
      refine rd_idx hmj ?_
      rw [hix]
      walk_at "rc"
      walk_at "rs"
      walk_at "rc"
      obtain ⟨row, x, hr, hx, er, ex, hxl⟩ := g.at' hs hjl
      have hrw := g.w row (List.mem_of_getElem? hr)
      refine rd_anyT' ?_
      walk_at "rc"
      refine ⟨m, _, dx, _, _, rfl, e25 _ _ hm, T.cl_Machine, T.na_Machine_table, rfl, ?_⟩
      walk_at "rc"
      refine rd_ixDT e25 hT (d := .tuple (row.map nI)) (by rw [List.getElem?_map, hr]; rfl) fun rv hrv => ?_
      walk_at "rc"
      refine rd_sl0T e25 hrv (by omega) fun v5 H6 e6 hv5 => ?_
      have e26 := e25.trans e6
      have hd6 := e6 _ _ hl5
      have hd66 := e6 _ _ hl2
      have es : ((sumN (aW ls.length acc tab) (i + 1) : Nat) : Int) = ((sumN (aW ls.length acc tab) i : Nat) : Int) + ((List.countP (lgW acc tab) (lvW ls.length i) : Nat) : Int) := by
        rw [sumN_succ]; rfl
      refine rd_itDT (H0 := hid [l2] H6) hid_ex (hidK hd66 _ hv5) fun J wJ => ?_
      refine fo_D wJ (fun jj σ H' => ∃ (p3 : List (Nat × Int)) (k8 : Option V), σ = [some (.ref m), some (.str (tx ls u)), some (.int ((sumN (aW ls.length acc tab) (i + 1) : Nat) : Int)), some (.ref l), some (.ref l2), some (vI (rn tab 0 (u.take i))), some (.str ⟨#[ls.cps.toList.getD j 0]⟩), some (vI j), k8] ∧ Ex H H' ∧ Ex (hid [l2] H6) H' ∧ H' l = some (.dK (encC qs)) ∧ H' l2 = some (.dK (encC p3)) ∧ Tel tab acc.length p3 (extW ls.length (lsW ls.length (u.take i)) ++ (List.range jj).map fun a => u.take i ++ [a]))
        ⟨q2, k8, by rw [es]; rfl, e26, hid_ex, hd6, hd66, by rw [List.range_zero, List.map_nil, List.append_nil]; exact t2'⟩ (fun _ _ _ _ ⟨_, _, _, _, z, _⟩ => z) ?_ ?_
      · rintro jj dd v σ H7 hdd hv ⟨p3, k8, rfl, e7, e67, hl7, hl27, t3⟩
        rw [List.getElem?_map] at hdd
        obtain ⟨t, ht, rfl⟩ := Option.map_eq_some_iff.mp hdd
        cases Dp.int_iff hv
        have hjj : jj < j := by
          have := ltQ ht
          rw [List.length_take] at this; omega
        have ht' : row[jj]? = some t := by
          rw [List.getElem?_take, if_pos hjj] at ht
          exact ht
        have et : rn tab 0 (u.take i ++ [jj]) = t := by
          rw [rn_snoc, er, List.getD_eq_getElem?_getD, ht']; rfl
        have htl : t < acc.length := by rw [← et]; exact tb.rn (hul.snoc (by omega)) tb.p
        have cl := t3.c.len
        have gl : (encC p3).length = p3.length := List.length_map ..
        walk_at "rc"
        refine rd_dget2 ?_
        walk_at "rc"
        refine ⟨l2, rfl, .inl ⟨_, .inl hl27⟩, ?_⟩
        walk_at "rc"
        refine ⟨_, DGet.k (k := kI t) hl27, ?_⟩
        rw [getD_enc]
        walk_at "rc"
        refine ⟨l2, _, rfl, DPut.k (k := kI t) hl27 (by omega), ?_⟩
        rw [putK_enc (n := acc.length) t3.c.d]
        refine ⟨putP p3 t (cof p3 t + 1), _, rfl, Evl.Ex.mut e7 hl2H, fun b o z => ?_, by rw [upd_ne nl]; exact hl7, upd_same, ?_⟩
        · have nb := (hid_some z).1
          rw [upd_ne (fun y => nb (by rw [y]; exact List.mem_singleton.mpr rfl))]
          exact e67 b o z
        · rw [List.range_succ, List.map_append, ← List.append_assoc]
          exact t3.add et htl
      · rintro σ H7 ⟨p3, k8, rfl, e7, e67, hl7, hl27, t3⟩
        rw [List.length_map, List.length_take, hrw, Nat.min_eq_left (by omega), ← lsW_snoc, ← eu] at t3
        walk_at "rc"
        refine ⟨m, _, dx, _, _, rfl, e7 _ _ hm, T.cl_Machine, T.na_Machine_table, rfl, ?_⟩
        walk_at "rc"
        refine rd_ixDT e7 hT (d := .tuple (row.map nI)) (by rw [List.getElem?_map, hr]; rfl) fun rv2 hrv2 => ?_
        walk_at "rc"
        refine rd_ixDT e7 hrv2 (d := nI x) (by rw [List.getElem?_map, hx]; rfl) fun v2 hv2 => ?_
        cases Dp.int_iff hv2
        walk_at "rc"
        have ev : rn tab 0 (u.take (i + 1)) = x := by rw [eu, rn_snoc, ← ex]
        refine ⟨l, l2, qs, p3, some (.str ⟨#[ls.cps.toList.getD j 0]⟩), some (vI j), k8, by rw [ev]; rfl, e7, hl2H, nl, hl7, hl27, t1', t3⟩
    · rintro σ H2 ⟨d, d2, ps, p2, k6, k7, k8, rfl, e2, hd20, nd12, hd, hd2, t1, t2⟩
      rw [tx_len] at *
      rw [List.take_length] at t2
      walk_at "rc"
      refine ⟨m, d2, ls, acc, tab, p2, rfl, hM.ex e2, g.m, hd2, t2.c, fun H3 e3 => ?_⟩
      rw [t2.acc]
      walk_at "rc"
      exact q _ (e2.trans e3)
end
section
variable (T : Txt K mg)
def dcB (g : TG) (tt : TT) (tk tv : TE) (vs : List Nat) (σ : L2.St) (Q : VK) (J : It) (H : Hp) : Prop := tDc (fun _ H R => R J H) g tt tk tv vs σ H Q
theorem rd_dc {wi : TI} {g : TG} {tt : TT} {tk tv : TE} {vs : List Nat} {σ : L2.St} {H : Hp} {Q : VK} (h : wi σ H (dcB g tt tk tv vs σ Q)) : tDc wi g tt tk tv vs σ H Q := h
theorem lc_x {σ : L2.St} {H : Hp} {Q : VK} {te : TE} {J : It} {j n : Nat} {G : Hp → Prop} {Y : Nat → Hp → V → Hp → Prop} (wk : Walk J n G Y) (hG : ∀ Hc, Ex H Hc → G Hc) (hn : n < 100000) (hw : ∀ v : V, wipe ((wipe σ [j]).set j (some v)) [j] = wipe σ [j]) (f : Nat → V)
    (he : ∀ i x Hc H', i < n → Ex H Hc → Y i Hc x H' → H' = Hc ∧ ∀ N : VK, (∀ H2, Ex Hc H2 → N (f i) H2) → te ((wipe σ [j]).set j (some x)) Hc N)
    (h : ∀ L Hc, Ex H Hc → H L = none → Hc L = some (.lst ((List.range n).map f)) → Q (.ref L) Hc) : lcB (gName j) tYes te [j] σ Q J H := by
  intro L hL
  have hz : 100000 ≤ sizeLine := by decide
  refine lc_it wk (fun i Hc => i ≤ n ∧ Ex H Hc ∧ Hc L = some (.lst ((List.range i).map f))) ⟨Nat.zero_le _, Evl.Ex.new hL, upd_same⟩ (fun i Hc _ z => hG Hc z.2.1) (fun i x Hc H' hi z y => ?_) fun Hc z => h L Hc z.2.1 hL z.2.2
  obtain ⟨_, ec, gc⟩ := z
  obtain ⟨rfl, hh⟩ := he i x Hc H' hi ec y
  refine ⟨hw _, rd_yes (rd_iteT ?_)⟩
  refine hh _ fun H2 e2 => ⟨_, e2 _ _ gc, ?_, hi, Evl.Ex.mut (ec.trans e2) hL, ?_⟩
  · rw [List.length_map, List.length_range]
    omega
  · rw [upd_same, List.range_succ, List.map_append]
    rfl
theorem putP_new {s : Nat} {v : Int} : ∀ {ps : List (Nat × Int)}, s ∉ ps.map (·.1) → putP ps s v = ps ++ [(s, v)]
  | [], _ => rfl
  | p :: ps, h => by
    have h1 : p.1 ≠ s := fun z => h (by rw [List.map_cons, z]; exact List.mem_cons_self)
    have h2 : s ∉ ps.map (·.1) := fun z => h (by rw [List.map_cons]; exact List.mem_cons_of_mem _ z)
    show (if p.1 = s then (s, v) :: ps else p :: putP ps s v) = _
    rw [if_neg h1, putP_new h2]; rfl
/-- the pairs that a comprehension over a dict's keys keeps -/
def sift (keep : Nat → Bool) (val : Nat → Int) (ps : List (Nat × Int)) : List (Nat × Int) := (ps.filter fun p => keep p.1).map fun p => (p.1, val p.1)
theorem sift_app {keep : Nat → Bool} {val : Nat → Int} (ps qs : List (Nat × Int)) : sift keep val (ps ++ qs) = sift keep val ps ++ sift keep val qs := by
  unfold sift
  rw [List.filter_append, List.map_append]
theorem sift_keys {keep : Nat → Bool} {val : Nat → Int} {ps : List (Nat × Int)} {s : Nat} : s ∈ (sift keep val ps).map (·.1) ↔ s ∈ ps.map (·.1) ∧ keep s = true := by
  unfold sift
  rw [List.map_map, List.mem_map, List.mem_map]
  constructor
  · rintro ⟨p, hp, rfl⟩
    obtain ⟨h1, h2⟩ := List.mem_filter.mp hp
    exact ⟨⟨p, h1, rfl⟩, h2⟩
  · rintro ⟨⟨p, hp, rfl⟩, h⟩
    exact ⟨p, List.mem_filter.mpr ⟨hp, h⟩, rfl⟩
theorem sift_nodup {keep : Nat → Bool} {val : Nat → Int} {ps : List (Nat × Int)} (h : (ps.map (·.1)).Nodup) : ((sift keep val ps).map (·.1)).Nodup := by
  unfold sift
  rw [List.map_map]
  exact List.Pairwise.sublist (List.Sublist.map _ List.filter_sublist) h
theorem sift_ct {n : Nat} {keep : Nat → Bool} {val : Nat → Int} {ps : List (Nat × Int)} (h : Ct n ps) : Ct n (sift keep val ps) := ⟨sift_nodup h.d, fun s hs => h.b s (sift_keys.mp hs).1⟩
theorem sift_len {keep : Nat → Bool} {val : Nat → Int} (ps : List (Nat × Int)) : (sift keep val ps).length ≤ ps.length := by
  unfold sift
  rw [List.length_map]
  exact List.length_filter_le _ _
theorem sift_cof {keep : Nat → Bool} {val : Nat → Int} {s : Nat} : ∀ {ps : List (Nat × Int)}, cof (sift keep val ps) s = if s ∈ ps.map (·.1) ∧ keep s = true then val s else 0
  | [] => by rw [if_neg (fun z => nomatch z.1)]; rfl
  | p :: ps => by
    have ih := sift_cof (keep := keep) (val := val) (s := s) (ps := ps)
    have e : sift keep val (p :: ps) = if keep p.1 = true then (p.1, val p.1) :: sift keep val ps else sift keep val ps := by
      unfold sift
      rw [List.filter_cons]
      split <;> rfl
    rw [e]
    by_cases hk : keep p.1 = true
    · rw [if_pos hk]
      show ((if p.1 = s then some (val p.1) else vof (sift keep val ps) s).getD 0) = _
      by_cases es : p.1 = s
      · rw [if_pos es, if_pos ⟨by rw [← es]; exact List.mem_cons_self, by rw [← es]; exact hk⟩, es]; rfl
      · rw [if_neg es]
        refine (show _ = cof (sift keep val ps) s from rfl).trans (ih.trans ?_)
        have : s ∈ (p :: ps).map (·.1) ↔ s ∈ ps.map (·.1) := by
          rw [List.map_cons, List.mem_cons]
          exact ⟨fun z => z.resolve_left (Ne.symm es), .inr⟩
        simp only [this]
    · rw [if_neg hk, ih]
      by_cases es : p.1 = s
      · rw [if_neg (fun z => hk (by rw [es]; exact z.2)), if_neg (fun z => hk (by rw [es]; exact z.2))]
      · have : s ∈ (p :: ps).map (·.1) ↔ s ∈ ps.map (·.1) := by
          rw [List.map_cons, List.mem_cons]
          exact ⟨fun z => z.resolve_left (Ne.symm es), .inr⟩
        simp only [this]
/-- {state: v for state in d if kept} -/
theorem dc_keys {n j : Nat} {σ : L2.St} {H : Hp} {Q : VK} {tt : TT} {tv : TE} {d : Addr} {od : Obj} {ps : List (Nat × Int)} (ct : Ct n ps) (hn : n ≤ 1000) (f0 : H d = some (.frz od (.dK (encC ps)))) (hw : ∀ v : V, wipe ((wipe σ [j]).set j (some v)) [j] = wipe σ [j]) (hj : ∀ v : V, ((wipe σ [j]).set j (some v))[j]? = some (some v))
    (keep : Nat → Bool) (val : Nat → Int)
    (ht : ∀ p ∈ ps, ∀ Hc, Ex H Hc → ∀ N : Bool → Hp → Prop, (∀ H2, Ex Hc H2 → N (keep p.1) H2) → tt ((wipe σ [j]).set j (some (vI p.1))) Hc N)
    (hv : ∀ p ∈ ps, keep p.1 = true → ∀ Hc, Ex H Hc → ∀ N : VK, (∀ H2, Ex Hc H2 → N (.int (val p.1)) H2) → tv ((wipe σ [j]).set j (some (vI p.1))) Hc N)
    (h : ∀ D Hc, Ex H Hc → H D = none → Hc D = some (.dK (encC (sift keep val ps))) → Q (.ref D) Hc) : dcB (gName j) tt (tVar j) tv [j] σ Q (Itk d od (encC ps)) H := by
  intro D hD
  have hz : 100000 ≤ sizeLine := by decide
  have pl : (encC ps).length = ps.length := List.length_map ..
  have pn := ct.len
  refine ⟨fun i m Hc => m = ps.length - i ∧ i ≤ ps.length ∧ Ex H Hc ∧ Hc D = some (.dK (encC (sift keep val (ps.take i)))), ⟨ps.length, by simp, Nat.zero_le _, Evl.Ex.new hD, upd_same⟩, ?_⟩
  rintro i m Hc ⟨rfl, hi, e, hk⟩
  by_cases hlt : i < ps.length
  · refine .inr ⟨walk_keys.goes i Hc (by rw [pl]; exact hlt) (e _ _ f0), fun H' => i + 1 ≤ ps.length ∧ Ex H H' ∧ H' D = some (.dK (encC (sift keep val (ps.take (i + 1))))), fun H' p => ⟨ps.length - (i + 1), by omega, rfl, p⟩, fun x H' y => ?_⟩
    obtain ⟨rfl, k, v, hkv, rfl⟩ := walk_keys.yields i Hc x H' (by rw [pl]; exact hlt) (e _ _ f0) y
    have hkv' : (ps.map fun p => (kI p.1, V.int p.2))[i]? = some (k, v) := hkv
    rw [List.getElem?_map] at hkv'
    obtain ⟨p, hp, e2⟩ := Option.map_eq_some_iff.mp hkv'
    cases e2
    have hpm := List.mem_of_getElem? hp
    have et : ps.take (i + 1) = ps.take i ++ [p] := by rw [List.take_succ, hp]; rfl
    have es : sift keep val (ps.take (i + 1)) = sift keep val (ps.take i) ++ (if keep p.1 = true then [(p.1, val p.1)] else []) := by
      rw [et, sift_app]
      refine congrArg (sift keep val (ps.take i) ++ ·) ?_
      unfold sift
      rw [List.filter_cons]
      split <;> rfl
    refine ⟨hw _, ht p hpm _ e _ fun H2 e2 => ?_⟩
    refine rd_ite (fun hkp => ?_) fun hkp => ?_
    · refine rd_var (hj _) ?_
      refine hv p hpm hkp _ (e.trans e2) _ fun H3 e3 => ?_
      have g3 := e3 _ _ (e2 _ _ hk)
      have sl := sift_len (keep := keep) (val := val) (ps.take i)
      rw [List.length_take] at sl
      have gl : (encC (sift keep val (ps.take i))).length = (sift keep val (ps.take i)).length := List.length_map ..
      refine ⟨_, kI p.1, rfl, g3, by omega, hlt, Evl.Ex.mut ((e.trans e2).trans e3) hD, ?_⟩
      have nd : (ps.take i ++ [p]).map (·.1) |>.Nodup := by
        rw [← et]
        exact List.Pairwise.sublist (List.Sublist.map _ (List.take_sublist _ _)) ct.d
      have nn : p.1 ∉ (sift keep val (ps.take i)).map (·.1) := fun z => by
        have z := (sift_keys.mp z).1
        rw [List.map_append] at nd
        exact (List.nodup_append.mp nd).2.2 _ z p.1 (List.mem_singleton.mpr rfl) rfl
      rw [upd_same, putK_enc (n := n) (sift_nodup (List.Pairwise.sublist (List.Sublist.map _ (List.take_sublist _ _)) ct.d)), putP_new nn, es, if_pos hkp]
    · refine ⟨hlt, e.trans e2, ?_⟩
      rw [es, if_neg (by rw [hkp]; decide), List.append_nil]
      exact e2 _ _ hk
  · have ei : i = ps.length := by omega
    subst ei
    rw [List.take_length] at hk
    have st := walk_keys.stops Hc (e _ _ f0)
    rw [pl] at st
    exact .inl ⟨st, h D Hc e hD hk⟩
def nextS (tab : List (List Nat)) (es : List (Nat × Int)) (s : Nat) : Int := ((tab.getD s []).map (cof es)).sum
def spSums : Sp := fun vs H Q _ => ∃ (m dl de : Addr) (ls : Str) (acc : List Bool) (tab : List (List Nat)) (ps es : List (Nat × Int)), vs = [.ref m, .ref dl, .ref de] ∧ MachD K T.C_Machine H m ls acc tab ∧ GMw ls acc tab ∧ H dl = some (.dK (encC ps)) ∧ Ct acc.length ps ∧ H de = some (.dK (encC es)) ∧ dl ≠ de ∧
  ∀ (l : Addr) (H' : Hp), Ex H H' → H l = none → H' l = some (.dK (encC (sift (fun _ => true) (nextS tab es) ps))) → Q (.ref l) H'
theorem ok__sums_of_next : FnOk P w K mg base CX0 1 T.a__sums_of_next T.d__sums_of_next ["machine", "layer", "ends"] (spSums T) := by
  refine T.f__sums_of_next.ok sc__sums_of_next (fun vs H Q E h => ?_) (fun cdv A outer s H vs Q E hr h => ?_)
  · obtain ⟨_, _, _, _, _, _, _, _, rfl, _⟩ := h; rfl
  · obtain ⟨m, dl, de, ls, acc, tab, ps, es, rfl, ⟨dx, ta, tt, hm, hA, hT⟩, g, hdl, ct, hde, ne, q⟩ := h
    have hsl : 1000000 ≤ sizeLine := by decide
    have gn := g.m.g.n
    have ge := g.m.e
    refine ⟨_, (pss_one (ps_ret (pe_lock (pe_dc (own := [("state", 4)]) (g := gName 4) (tt := tYes) (by rfl) sc__sums_of_next.nd (pi_keys (pv 1)) (blkOk_by (own := [("state", 4)]) (N := ["machine", "layer", "ends", "after", "state"]) (sc := defScope s__sums_of_next) (by decide +kernel)) (fun _ _ _ _ _ => (pg_name (i := 4) sc__sums_of_next.nd rfl (by first | exact Or.inl rfl | exact Or.inr rfl))) (fun _ _ _ _ _ => pts_nil) (fun _ _ _ _ _ => (pv 4)) (fun _ _ _ _ _ => (pe_callB (kSum K) (by rfl) T.nb_sum (by decide +kernel) (pa_cons (pe_lc (own := [("after", 3)]) (g := gName 3) (tt := tYes) (by rfl) sc__sums_of_next.nd (kAny K rfl (pe_ix (kIx K) (kFld K rfl (pe_fld (pv 0) rfl)) (pv 4) (fun _ _ => rfl))) (by exact blkOk_in (N := ["machine", "layer", "ends", "after", "state"]) rfl (by decide +kernel)) (fun _ _ _ _ _ => (pg_name (i := 3) sc__sums_of_next.nd rfl (by first | exact Or.inl rfl | exact Or.inr rfl))) (fun _ _ _ _ _ => pts_nil) (fun _ _ _ _ _ => (pe_dget2 (hu_of hr) (pv 2) (pv 3) pe_int ⟨by rfl, by rfl, by rfl, by rfl⟩))) pa_nil))))))), ?_⟩
    walk_at "rc"
    refine ⟨dl, .dK (encC ps), hdl, trivial, fun od => ?_⟩
    walk_at "rc"
    have md : m ≠ dl := fun z => by rw [z, hdl] at hm; cases hm
    have hT2 := hidK (K := K) hdl _ hT
    have k0 : Kp [dl] H (upd H dl (.frz od (.dK (encC ps)))) := Kp.put List.mem_cons_self
    have f0 : upd H dl (.frz od (.dK (encC ps))) dl = some (.frz od (.dK (encC ps))) := upd_same
    have g0 : upd H dl (.frz od (.dK (encC ps))) de = some (.dK (encC es)) := by rw [upd_ne (Ne.symm ne)]; exact hde
    generalize upd H dl (.frz od (.dK (encC ps))) = H0 at k0 f0 g0
    refine rd_dc ?_
    refine ⟨_, rfl, dl, od, rfl, .inl ⟨encC ps, f0, ?_⟩⟩
    have fr : ∀ {H' : Hp}, Ex H0 H' → Ex (hid [dl] H) H' := fun e => (k0.trans (Kp.of_ex (S := [dl]) e)).ex.trans hid_ex
    refine dc_keys ct (by omega) f0 (fun v => rfl) (fun v => rfl) (fun _ => true) (nextS tab es) (fun p hp Hc ec N hN => rd_yes (hN Hc (Evl.Ex.refl Hc))) (fun p hp _ Hc ec N hN => ?_) fun D Hc ec hD hDc => ?_
    · have hpn : p.1 < tab.length := by rw [ge]; exact ct.b _ (List.mem_map.mpr ⟨p, hp, rfl⟩)
      obtain ⟨row, hr⟩ := getQ hpn
      have er : tab.getD p.1 [] = row := by rw [List.getD_eq_getElem?_getD, hr]; rfl
      have hrw := g.w row (List.mem_of_getElem? hr)
      have k1 := k0.trans (Kp.of_ex (S := [dl]) ec)
      walk_at "rc"
      refine rd_anyT' ?_
      walk_at "rc"
      refine ⟨m, _, dx, _, _, rfl, k1 _ _ (fun z => md (List.mem_singleton.mp z)) hm, T.cl_Machine, T.na_Machine_table, rfl, ?_⟩
      walk_at "rc"
      refine rd_ixDT (fr ec) hT2 (d := .tuple (row.map nI)) (by rw [List.getElem?_map, hr]; rfl) fun rv hrv => ?_
      refine rd_itDT (fr ec) hrv fun J wJ => ?_
      have r100 := g.m.w row (List.mem_of_getElem? hr)
      have rl : (row.map nI).length = row.length := List.length_map ..
      refine lc_x (j := 3) wJ (fun Hc2 e2 => (fr ec).trans e2) (by rw [rl]; omega) (fun v => rfl) (fun i => .int (cof es (row.getD i 0))) (fun i x H5 H6 hi e5 y => ?_) fun L H5 e5 hL hl => ?_
      · obtain ⟨rfl, dd, hdd, hx⟩ := y
        rw [List.getElem?_map] at hdd
        obtain ⟨t, ht, rfl⟩ := Option.map_eq_some_iff.mp hdd
        cases Dp.int_iff hx
        refine ⟨rfl, fun N hN => ?_⟩
        have g5 := e5 _ _ (ec _ _ g0)
        refine rd_dget2 ?_
        walk_at "rc"
        refine ⟨de, rfl, .inl ⟨_, .inl g5⟩, ?_⟩
        walk_at "rc"
        refine ⟨_, DGet.k (k := kI t) g5, ?_⟩
        rw [getD_enc]
        have := hN _ (Evl.Ex.refl _)
        rw [List.getD_eq_getElem?_getD, ht] at this
        exact this
      · walk_at "rc"
        refine ⟨L, (List.range row.length).map fun i => cof es (row.getD i 0), rfl, SqL.of (by rw [hl, rl, List.map_map]; rfl), ?_⟩
        have e : ((List.range row.length).map fun i => cof es (row.getD i 0)).sum = nextS tab es p.1 := by
          unfold nextS
          rw [er, show row.map (cof es) = ((List.range row.length).map fun j => row.getD j 0).map (cof es) from congrArg _ (row_map rfl), List.map_map]
          rfl
        rw [e]
        exact hN _ e5
    · refine ⟨ec _ _ f0, ?_⟩
      have nD : D ≠ dl := fun z => by rw [z, f0] at hD; cases hD
      have hDH : H D = none := by
        cases e : H D with
        | none => rfl
        | some o => exact absurd (k0 _ _ (fun z => nD (List.mem_singleton.mp z)) e) (by rw [hD]; exact fun z => nomatch z)
      refine q D _ (fun b o z => ?_) hDH (by rw [upd_ne nD]; exact hDc)
      by_cases e : b = dl
      · rw [e, hdl] at z
        rw [e, upd_same]
        exact z
      · rw [upd_ne e]
        exact ec _ _ (k0 b o (fun y => e (List.mem_singleton.mp y)) z)
end
section
variable (T : Txt K mg)
inductive DAll (H : Hp) : List Addr → List (List (Nat × Int)) → Prop
  | nil : DAll H [] []
  | cons {d : Addr} {ds : List Addr} {ps : List (Nat × Int)} {pss : List (List (Nat × Int))} : H d = some (.dK (encC ps)) → DAll H ds pss → DAll H (d :: ds) (ps :: pss)
theorem DAll.ex {H H' : Hp} {ds : List Addr} {pss : List (List (Nat × Int))} (h : DAll H ds pss) (e : Ex H H') : DAll H' ds pss := by
  induction h with
  | nil => exact .nil
  | cons h _ ih => exact .cons (e _ _ h) ih
theorem DAll.upd {H : Hp} {l : Addr} {o : HO} {vs : List V} (hl : H l = some (.lst vs)) {ds : List Addr} {pss : List (List (Nat × Int))} (h : DAll H ds pss) : DAll (upd H l o) ds pss := by
  induction h with
  | nil => exact .nil
  | @cons d ds ps pss h _ ih =>
    refine .cons ?_ ih
    rw [upd_ne (fun z => by rw [z, hl] at h; cases h)]
    exact h
theorem DAll.len {H : Hp} {ds : List Addr} {pss : List (List (Nat × Int))} (h : DAll H ds pss) : ds.length = pss.length := by
  induction h with
  | nil => rfl
  | cons _ _ ih => rw [List.length_cons, List.length_cons, ih]
theorem DAll.get {H : Hp} {ds : List Addr} {pss : List (List (Nat × Int))} (h : DAll H ds pss) : ∀ {i : Nat} {d : Addr}, ds[i]? = some d → ∃ ps, pss[i]? = some ps ∧ H d = some (.dK (encC ps)) := by
  induction h with
  | nil => intro i d z; simp at z
  | @cons d ds ps pss h _ ih =>
    intro i d' z
    cases i with
    | zero =>
      have : d = d' := by simpa using z
      exact ⟨ps, rfl, this ▸ h⟩
    | succ i =>
      have z : ds[i]? = some d' := by simpa using z
      exact ih z
theorem DAll.app {H : Hp} {ds es : List Addr} {pss qss : List (List (Nat × Int))} (h : DAll H ds pss) (k : DAll H es qss) : DAll H (ds ++ es) (pss ++ qss) := by
  induction h with
  | nil => exact k
  | cons h _ ih => exact .cons h ih
def ones (acc : List Bool) (ps : List (Nat × Int)) : List (Nat × Int) := sift (fun s => acc.getD s false) (fun _ => 1) ps
def endsL (acc : List Bool) (tab : List (List Nat)) : List (List (Nat × Int)) → List (List (Nat × Int))
  | [] => []
  | ps :: pss => (match endsL acc tab pss with
    | [] => ones acc ps
    | es :: _ => sift (fun _ => true) (nextS tab es) ps) :: endsL acc tab pss
theorem endsL_cons {acc : List Bool} {tab : List (List Nat)} {ps es : List (Nat × Int)} {pss r : List (List (Nat × Int))} (h : endsL acc tab pss = es :: r) : endsL acc tab (ps :: pss) = sift (fun _ => true) (nextS tab es) ps :: es :: r := by
  show (match endsL acc tab pss with | [] => _ | es :: _ => _) :: endsL acc tab pss = _
  rw [h]
theorem atI_neg1 {l : List V} {v : V} : atI (l ++ [v]) (-1) = some v := by
  refine (atI_last (l := l ++ [v]) (by simp)).trans ?_
  simp
theorem cut_last {l : List V} {v : V} : cutV (l ++ [v]) none (some (-1)) = l := by
  show List.take (HT.sIx (l ++ [v]).length (l ++ [v]).length (some (-1)) - HT.sIx (l ++ [v]).length 0 none) (List.drop (HT.sIx (l ++ [v]).length 0 none) (l ++ [v])) = _
  have : HT.sIx (l ++ [v]).length (l ++ [v]).length (some (-1)) = l.length := by
    show (if (-1 : Int) < 0 then Int.toNat (-1 + ((l ++ [v]).length : Int)) else min (Int.toNat (-1)) (l ++ [v]).length) = _
    rw [if_pos (by decide), List.length_append]
    show Int.toNat (-1 + ((l.length + 1 : Nat) : Int)) = _
    omega
  rw [this, HT.sIx_none, List.drop_zero, Nat.sub_zero, List.take_append_of_le_length (Nat.le_refl _), List.take_length]
theorem rd_neg1 {σ : L2.St} {H : Hp} {Q : VK} (h : Q (.int (-1)) H) : tUn (rU fun i => V.int (-i)) (tC (V.int 1)) σ H Q := ⟨1, rfl, h⟩
theorem rd_keysI {td : TE} {σ : L2.St} {H : Hp} {R : It → Hp → Prop} (h : td σ H fun x H1 => ∃ d o, x = V.ref d ∧ ((∃ kvs, H1 d = some (.frz o (.dK kvs)) ∧ R (Itk d o kvs) H1) ∨ ∃ kvs, H1 d = some (.frz o (.dT kvs)) ∧ R (Itkt d o kvs) H1)) : iKeys td σ H R := h
theorem rd_revI {K : PySem.W.Frag} {ta : TA} {σ : L2.St} {H : Hp} {R : It → Hp → Prop} (h : ta σ H fun vs H1 => ∃ a xs, vs = [.ref a] ∧ SqL K H1 a xs ∧ R (Itv K a xs.length) H1) : iRev K ta σ H R := h
def spEnds : Sp := fun vs H Q _ => ∃ (m L : Addr) (ls : Str) (acc : List Bool) (tab : List (List Nat)) (ds : List Addr) (pss : List (List (Nat × Int))), vs = [.ref m, .ref L] ∧ MachD K T.C_Machine H m ls acc tab ∧ GMw ls acc tab ∧ H L = some (.lst (ds.map V.ref)) ∧ DAll H ds pss ∧ (∀ ps ∈ pss, Ct acc.length ps) ∧ 0 < ds.length ∧ ds.length ≤ 100000 ∧
  ∀ (l : Addr) (es : List Addr) (H' : Hp), Ex H H' → H l = none → H' l = some (.lst (es.map V.ref)) → DAll H' es (endsL acc tab pss) → Q (.ref l) H'
theorem ok__ends_behind : FnOk P w K mg base CX0 2 T.a__ends_behind T.d__ends_behind ["machine", "layers"] (spEnds T) := by
  refine T.f__ends_behind.ok sc__ends_behind (fun vs H Q E h => ?_) (fun cdv A outer s H vs Q E hr h => ?_)
  · obtain ⟨_, _, _, _, _, _, _, rfl, _⟩ := h; rfl
  · obtain ⟨m, L, ls, acc, tab, ds, pss, rfl, ⟨dx, ta, tt, hm, hA, hT⟩, g, hL, hd, hct, l0, l1, q⟩ := h
    have hsl : 1000000 ≤ sizeLine := by decide
    have hM : MachD K T.C_Machine H m ls acc tab := ⟨dx, ta, tt, hm, hA, hT⟩
    have gn := g.m.g.n
    have ge := g.m.e
    rcases List.eq_nil_or_concat ds with rfl | ⟨ds, d, rfl⟩
    · exact absurd l0 (Nat.lt_irrefl 0)
    rw [List.concat_eq_append] at *
    have pl := hd.len
    rcases List.eq_nil_or_concat pss with rfl | ⟨pss, ps, rfl⟩
    · simp at pl
    rw [List.concat_eq_append] at *
    have hdd : H d = some (.dK (encC ps)) := by
      obtain ⟨ps', h1, h2⟩ := hd.get (i := ds.length) (d := d) (by rw [List.getElem?_append_right (Nat.le_refl _), Nat.sub_self]; rfl)
      have : ds.length = pss.length := by simpa using pl
      rw [this, List.getElem?_append_right (Nat.le_refl _), Nat.sub_self] at h1
      cases h1
      exact h2
    have ct := hct ps (List.mem_append.mpr (.inr List.mem_cons_self))
    refine ⟨_, (pss_cons (ps_lock (ps_setDc (i := 2) (own := [("state", 3)]) (g := gName 3)  (by rfl) sc__ends_behind.nd rfl rfl (sw_trueD rfl rfl rfl (by decide +kernel)) (pi_keys (pe_ix (kIx K) (pv 1) (pe_un un_neg pe_int) (fun _ _ => rfl))) (blkOk_by (own := [("state", 3)]) (N := ["machine", "layers", "ends", "state", "found", "layer"]) (sc := defScope s__ends_behind) (by decide +kernel)) (fun _ _ _ _ _ => (pg_name (i := 3) sc__ends_behind.nd rfl (by first | exact Or.inl rfl | exact Or.inr rfl))) (fun _ _ _ _ _ => (pts_one (pt_val (pe_ix (kIx K) (kFld K rfl (pe_fld (pv 0) rfl)) (pv 3) (fun _ _ => rfl))))) (fun _ _ _ _ _ => (pv 3)) (fun _ _ _ _ _ => pe_int)))
  (pss_cons (ps_set (i := 4) sc__ends_behind.nd rfl (by first | exact Or.inl rfl | exact Or.inr rfl) (pe_lst (pa_cons (pv 2) pa_nil)))
  (pss_cons (ps_for PassesOwn.never rfl (pi_reversed (by rfl) T.nb_reversed (pa_cons (pe_slice (kSl K) (pv 1) po_none (po_some (pe_un un_neg pe_int))) pa_nil)) (pg_name (i := 5) sc__ends_behind.nd rfl (by first | exact Or.inl rfl | exact Or.inr rfl))
    (pss_cons (ps_set (i := 2) sc__ends_behind.nd rfl (by first | exact Or.inl rfl | exact Or.inr rfl) (pe_callE (ok__sums_of_next T) (hr.mono (by decide)) T.o__sums_of_next (pa_cons (pv 0) (pa_cons (pv 5) (pa_cons (pv 2) pa_nil)))))
  (pss_one (ps_expr (kBm K rfl (pe_bm PySem.F.plainAttrs_list PySem.F.slot_list_append PySem.F.type_list_append mt_append (pv 4) (pa_cons (pv 2) pa_nil)))))))
  (pss_cons (ps_expr (kBm0 K rfl (pe_bm0 PySem.F.plainAttrs_list PySem.F.slot_list_reverse PySem.F.type_list_reverse mt_reverse (pv 4))))
  (pss_one (ps_ret (pv 4))))))), ?_⟩
    walk_at "rs"
    refine ⟨d, .dK (encC ps), hdd, trivial, fun od => ?_⟩
    have md : m ≠ d := fun z => by rw [z, hdd] at hm; cases hm
    have Ld : L ≠ d := fun z => by rw [z, hdd] at hL; cases hL
    have hA2 := hidK (K := K) hdd _ hA
    have k0 : Kp [d] H (upd H d (.frz od (.dK (encC ps)))) := Kp.put List.mem_cons_self
    have f0 : upd H d (.frz od (.dK (encC ps))) d = some (.frz od (.dK (encC ps))) := upd_same
    generalize upd H d (.frz od (.dK (encC ps))) = H0 at k0 f0
    walk_at "rc"
    have ew : (ds ++ [d]).map V.ref = ds.map V.ref ++ [V.ref d] := by rw [List.map_append]; rfl
    rw [ew] at hL
    have hL0 : H0 L = some (.lst (ds.map V.ref ++ [V.ref d])) := k0 _ _ (fun z => Ld (List.mem_singleton.mp z)) hL
    have fr : ∀ {H' : Hp}, Ex H0 H' → Ex (hid [d] H) H' := fun e => (k0.trans (Kp.of_ex (S := [d]) e)).ex.trans hid_ex
    refine rd_dc ?_
    refine rd_keysI ?_
    walk_at "rc"
    refine rd_neg1 ?_
    refine rd_ixL (SqL.of hL0) atI_neg1 ?_
    refine ⟨d, od, rfl, .inl ⟨encC ps, f0, ?_⟩⟩
    refine dc_keys ct (by omega) f0 (fun v => rfl) (fun v => rfl) (fun s => acc.getD s false) (fun _ => 1) (fun p hp Hc ec N hN => ?_) (fun p hp _ Hc ec N hN => hN Hc (Evl.Ex.refl Hc)) fun D Hc ec hD hDc => ?_
    · have hpn : p.1 < acc.length := ct.b _ (List.mem_map.mpr ⟨p, hp, rfl⟩)
      have k1 := k0.trans (Kp.of_ex (S := [d]) ec)
      walk_at "rc"
      refine ⟨m, _, dx, _, _, rfl, k1 _ _ (fun z => md (List.mem_singleton.mp z)) hm, T.cl_Machine, T.na_Machine_accepting, rfl, ?_⟩
      walk_at "rc"
      refine rd_flag (fr ec) hA2 hpn ?_
      walk_at "rc"
      exact hN _ (Evl.Ex.refl _)
    walk_at "rc"
    refine ⟨ec _ _ f0, ?_⟩
    have nD : D ≠ d := fun z => by rw [z, f0] at hD; cases hD
    have hDH : H D = none := by
      cases e : H D with
      | none => rfl
      | some o => exact absurd (k0 _ _ (fun z => nD (List.mem_singleton.mp z)) e) (by rw [hD]; exact fun z => nomatch z)
    have e1 : Ex H (upd Hc d (.dK (encC ps))) := fun b o z => by
      by_cases e : b = d
      · rw [e, hdd] at z
        rw [e, upd_same]
        exact z
      · rw [upd_ne e]
        exact ec _ _ (k0 b o (fun y => e (List.mem_singleton.mp y)) z)
    have hD1 : upd Hc d (.dK (encC ps)) D = some (.dK (encC (ones acc ps))) := by rw [upd_ne nD]; exact hDc
    generalize upd Hc d (.dK (encC ps)) = H1 at e1 hD1
    walk_at "rc"
    refine ⟨by show 1 ≤ sizeLine; omega, fun l hl => ?_⟩
    have hlH : H l = none := Evl.fresh_back e1 hl
    have e2 := ex_upd (o := .lst [V.ref D]) e1 hl
    have hD2 : upd H1 l (.lst [V.ref D]) D = some (.dK (encC (ones acc ps))) := by rw [upd_ne (fun z => by rw [z, hl] at hD1; cases hD1)]; exact hD1
    have hl2 : upd H1 l (.lst [V.ref D]) l = some (.lst [V.ref D]) := upd_same
    generalize upd H1 l (.lst [V.ref D]) = H2 at e2 hD2 hl2
    walk_at "rc"
    walk_at "rs"
    walk_at "rc"
    refine rd_revI ?_
    walk_at "rc"
    refine rd_neg1 ?_
    refine ⟨_, rfl, .inl ⟨L, _, rfl, SqL.of (e2 _ _ hL), fun p0 hp0 => ?_⟩⟩
    rw [cut_last]
    have e3 := ex_upd (o := .lst (ds.map V.ref)) e2 hp0
    have hD3 : upd H2 p0 (.lst (ds.map V.ref)) D = some (.dK (encC (ones acc ps))) := by rw [upd_ne (fun z => by rw [z, hp0] at hD2; cases hD2)]; exact hD2
    have nlp : l ≠ p0 := fun z => by rw [z, hp0] at hl2; cases hl2
    have hl3 : upd H2 p0 (.lst (ds.map V.ref)) l = some (.lst [V.ref D]) := by rw [upd_ne nlp]; exact hl2
    have hp3 : upd H2 p0 (.lst (ds.map V.ref)) p0 = some (.lst (ds.map V.ref)) := upd_same
    generalize upd H2 p0 (.lst (ds.map V.ref)) = H3 at e3 hD3 hl3 hp3
    walk_at "rc"
    refine ⟨p0, ds.map V.ref, rfl, SqL.of hp3, ?_⟩
    have dl : ds.length = pss.length := by simpa using pl
    have d1 : ds.length < 100000 := by
      rw [List.length_append] at l1
      simp at l1
      omega
    refine fo_it walk_rev (fun i σ H' => ∃ (e : Addr) (es : List Addr) (k3 k5 : Option V), σ = [some (.ref m), some (.ref L), some (.ref e), k3, some (.ref l), k5] ∧ Ex H H' ∧ H e = none ∧ H' p0 = some (.lst (ds.map V.ref)) ∧ H' l = some (.lst ((e :: es).reverse.map V.ref)) ∧ (e :: es).length = i + 1 ∧ DAll H' (e :: es) (endsL acc tab ((pss ++ [ps]).drop (pss.length - i))))
      ⟨D, [], _, _, rfl, e3, hDH, hp3, hl3, rfl, ?_⟩ (fun i σ H' _ ⟨_, _, _, _, _, _, _, z, _⟩ => SqL.of z) ?_ ?_
    · rw [Nat.sub_zero, List.drop_append_of_le_length (Nat.le_refl _), List.drop_length]
      exact .cons hD3 .nil
    · rintro i x σ H4 H5 hi ⟨e, es, k3, k5, rfl, e4, he, hp4, hl4, ll, da⟩ ⟨rfl, hx⟩
      rw [List.length_map] at hi hx
      rw [List.getElem?_map] at hx
      obtain ⟨d', hd', rfl⟩ := Option.map_eq_some_iff.mp hx
      have lt := ltQ hd'
      obtain ⟨ps', hp', hdd'⟩ := hd.get (i := ds.length - 1 - i) (d := d') (by rw [List.getElem?_append_left lt]; exact hd')
      have ed : (pss ++ [ps]).drop (pss.length - (i + 1)) = ps' :: (pss ++ [ps]).drop (pss.length - i) := by
        have e1 : pss.length - (i + 1) = ds.length - 1 - i := by omega
        have e2 : pss.length - i = ds.length - 1 - i + 1 := by omega
        rw [e1, e2]
        obtain ⟨hb, e3⟩ := List.getElem?_eq_some_iff.mp hp'
        rw [List.drop_eq_getElem_cons hb, e3]
      generalize ex : endsL acc tab ((pss ++ [ps]).drop (pss.length - i)) = xs at da
      cases da with
      | @cons _ _ x0 r h1 h2 =>
        have ct' := hct ps' (List.mem_of_getElem? hp')
        walk_at "rc"
        refine ⟨m, d', e, ls, acc, tab, ps', x0, rfl, hM.ex e4, g, e4 _ _ hdd', ct', h1, (fun z => by rw [z, he] at hdd'; cases hdd'), fun l2 H6 e6 hl20 hl2 => ?_⟩
        walk_at "rc"
        have hl6 := e6 _ _ hl4
        refine ⟨.inl ⟨rfl, _, SqL.of hl6⟩, ?_⟩
        walk_at "rc"
        refine ⟨l, _, _, rfl, rfl, hl6, by rw [List.length_map, List.length_reverse, ll]; omega, ?_⟩
        have e46 := e4.trans e6
        refine ⟨l2, e :: es, _, _, rfl, Evl.Ex.mut e46 hlH, Evl.fresh_back e4 hl20, by rw [upd_ne (Ne.symm nlp)]; exact e6 _ _ hp4, ?_, by rw [List.length_cons, ll], ?_⟩
        · rw [upd_same, List.reverse_cons (a := l2), List.map_append]; rfl
        · rw [ed, endsL_cons ex]
          exact DAll.upd hl6 (.cons hl2 ((DAll.cons h1 h2).ex e6))
    · rintro σ H4 ⟨e, es, k3, k5, rfl, e4, he, hp4, hl4, ll, da⟩
      rw [List.length_map, dl, Nat.sub_self, List.drop_zero] at da
      walk_at "rc"
      refine rd_bm0 ?_
      walk_at "rc"
      refine ⟨.inl ⟨rfl, _, SqL.of hl4⟩, ?_⟩
      refine ⟨l, _, rfl, rfl, hl4, ?_⟩
      rw [← List.map_reverse, List.reverse_reverse]
      walk_at "rc"
      exact q l (e :: es) _ (Evl.Ex.mut e4 hlH) hlH upd_same (DAll.upd hl4 da)
end
section
variable {n w : Nat} {acc : List Bool} {tab : List (List Nat)}
theorem sum_zeroN {α : Type} {f : α → Nat} : ∀ {l : List α}, (∀ a ∈ l, f a = 0) → (l.map f).sum = 0
  | [], _ => rfl
  | a :: l, h => by
    rw [List.map_cons, List.sum_cons, h a List.mem_cons_self, sum_zeroN fun b hb => h b (List.mem_cons_of_mem _ hb)]
theorem wa_zero : ∀ {m s : Nat}, ¬ Lv acc tab s → wa acc tab m s = 0
  | 0, s, h => by
    show (if acc.getD s false = true then 1 else 0) = 0
    rw [if_neg fun z => h (.st ?_)]
    rw [List.getD_eq_getElem?_getD] at z
    cases e : acc[s]? with
    | none => rw [e] at z; exact nomatch z
    | some b => rw [e] at z; exact congrArg some z
  | m + 1, s, h => sum_zeroN fun t ht => wa_zero fun z => h (.go ht z)
/-- the layer's keys -/
def LayK (w : Nat) (acc : List Bool) (tab : List (List Nat)) (i : Nat) (ps : List (Nat × Int)) : Prop := ∀ s, s ∈ ps.map (·.1) ↔ ∃ u, Lw w u ∧ u.length = i ∧ rn tab 0 u = s ∧ Lv acc tab s
theorem sum_castN {α : Type} (f : α → Nat) : ∀ l : List α, (l.map fun a => ((f a : Nat) : Int)).sum = (((l.map f).sum : Nat) : Int)
  | [] => rfl
  | a :: l => by
    rw [List.map_cons, List.map_cons, List.sum_cons, List.sum_cons, sum_castN f l]
    omega
theorem ends_wa (tb : Tb n w tab) : ∀ (pss : List (List (Nat × Int))) (i : Nat), (∀ j ps, pss[j]? = some ps → LayK w acc tab (i + j) ps) → ∀ j E, (endsL acc tab pss)[j]? = some E → ∀ u, Lw w u → u.length = i + j → cof E (rn tab 0 u) = ((wa acc tab (pss.length - 1 - j) (rn tab 0 u) : Nat) : Int)
  | [], i, _, j, E, h, _, _, _ => by
    have h : ([] : List (List (Nat × Int)))[j]? = some E := h
    simp at h
  | ps :: rest, i, hL, j, E, h, u, hu, lu => by
    have ih := ends_wa tb rest (i + 1) (fun j qs hq => by
      have := hL (j + 1) qs (by rw [List.getElem?_cons_succ]; exact hq)
      rw [show i + (j + 1) = i + 1 + j by omega] at this
      exact this)
    have hs : rn tab 0 u < n := tb.rn hu tb.p
    cases j with
    | succ j =>
      have h : (endsL acc tab rest)[j]? = some E := by
        have e : endsL acc tab (ps :: rest) = _ :: endsL acc tab rest := rfl
        rw [e, List.getElem?_cons_succ] at h
        exact h
      have := ih j E h u hu (by omega)
      rw [this, List.length_cons]
      congr 2
      omega
    | zero =>
      have h0 := hL 0 ps rfl
      have lu : u.length = i + 0 := lu
      have hk : rn tab 0 u ∈ ps.map (·.1) ↔ Lv acc tab (rn tab 0 u) := by
        rw [h0]
        exact ⟨fun ⟨_, _, _, _, z⟩ => z, fun z => ⟨u, hu, lu, rfl, z⟩⟩
      cases er : endsL acc tab rest with
      | nil =>
        have rn0 : rest = [] := by
          cases rest with
          | nil => rfl
          | cons a b => exact nomatch er
        subst rn0
        have e : endsL acc tab [ps] = [ones acc ps] := rfl
        rw [e] at h
        have h : ones acc ps = E := by simpa using h
        rw [← h]
        show cof (sift _ _ ps) _ = (((if acc.getD (rn tab 0 u) false = true then 1 else 0 : Nat)) : Int)
        rw [sift_cof]
        by_cases ha : acc.getD (rn tab 0 u) false = true
        · rw [if_pos ha, if_pos ⟨hk.mpr (word_lv tb (v := []) hs Lw.nil ha), ha⟩]; rfl
        · rw [if_neg ha, if_neg (fun z => ha z.2)]; rfl
      | cons E1 r =>
        rw [endsL_cons er] at h
        have h : sift (fun _ => true) (nextS tab E1) ps = E := by simpa using h
        rw [← h, sift_cof]
        have r0 : 0 < rest.length := by
          cases rest with
          | nil => exact nomatch er
          | cons a b => exact Nat.succ_pos _
        have em : (ps :: rest).length - 1 - 0 = rest.length - 1 - 0 + 1 := by rw [List.length_cons]; omega
        rw [em]
        by_cases hl : Lv acc tab (rn tab 0 u)
        · rw [if_pos ⟨hk.mpr hl, rfl⟩, wa_row tb _ hs, ← sum_castN]
          unfold nextS
          rw [row_map (tb.row hs), List.map_map]
          refine congrArg List.sum (List.map_congr_left fun a ha => ?_)
          have := ih 0 E1 (by rw [er]; rfl) (u ++ [a]) (hu.snoc (List.mem_range.mp ha)) (by rw [List.length_append, lu]; rfl)
          rw [rn_snoc] at this
          exact this
        · rw [if_neg (fun z => hl (hk.mp z.1)), wa_zero hl]; rfl
end
section
variable (T : Txt K mg)
theorem cut1 {x : V} {l : List V} : cutV (x :: l) (some 1) none = l := by
  show List.take (HT.sIx (x :: l).length (x :: l).length none - HT.sIx (x :: l).length 0 (some 1)) (List.drop (HT.sIx (x :: l).length 0 (some 1)) (x :: l)) = _
  have : HT.sIx (x :: l).length 0 (some 1) = 1 := by
    have := HT.sIx_nat (x :: l).length 0 1
    refine this.trans ?_
    rw [List.length_cons]; omega
  rw [this, HT.sIx_none, List.drop_succ_cons, List.drop_zero, List.length_cons, Nat.add_sub_cancel, List.take_length]
def sA (acc : List Bool) (tab : List (List Nat)) (m s idx : Nat) : Nat := ((List.range idx).map fun a => wa acc tab m (dl tab s a)).sum
theorem sA_succ (acc : List Bool) (tab : List (List Nat)) (m s idx : Nat) : sA acc tab m s (idx + 1) = sA acc tab m s idx + wa acc tab m (dl tab s idx) := by
  unfold sA
  rw [List.range_succ, List.map_append, List.sum_append]
  simp
theorem sA_mono (acc : List Bool) (tab : List (List Nat)) (m s : Nat) {a b : Nat} (h : a ≤ b) : sA acc tab m s a ≤ sA acc tab m s b := by
  induction h with
  | refl => exact Nat.le_refl _
  | step _ ih => rw [sA_succ]; omega
def chS (ls : Str) (u : List Nat) : List Str := u.map fun j => (⟨#[ls.cps.toList.getD j 0]⟩ : Str)
theorem join_chS (ls : Str) (u : List Nat) : Txt.join "" (chS ls u) = tx ls u := by
  have e : chS ls u = ((u.map fun j => ls.cps.toList.getD j 0).map fun c => (⟨#[c]⟩ : Str)) := by unfold chS; rw [List.map_map]; rfl
  rw [e]
  exact str_ext (by rw [join_signs, tx_list])
def spThrough : Sp := fun vs H Q _ => ∃ (m L : Addr) (ls : Str) (acc : List Bool) (tab : List (List Nat)) (ds : List Addr) (pss : List (List (Nat × Int))) (lf : Nat), vs = [.ref m, .ref L, .int (lf : Int)] ∧ MachD K T.C_Machine H m ls acc tab ∧ GMw ls acc tab ∧ ls.length ≤ sizeLine ∧ H L = some (.lst (ds.map V.ref)) ∧ DAll H ds pss ∧ (∀ ps ∈ pss, Ct acc.length ps) ∧ (∀ i ps, pss[i]? = some ps → LayK ls.length acc tab i ps) ∧ 0 < ds.length ∧ ds.length ≤ 100000 ∧ lf < aW ls.length acc tab (ds.length - 1) ∧
  ∀ (v : List Nat) (H' : Hp), Ex H H' → Lw ls.length v → v.length = ds.length - 1 → lgW acc tab v = true → (lsW ls.length v).countP (lgW acc tab) = lf → Q (.str (tx ls v)) H'
theorem ok__text_through : FnOk P w K mg base CX0 3 T.a__text_through T.d__text_through ["machine", "layers", "left"] (spThrough T) := by
  refine T.f__text_through.ok sc__text_through (fun vs H Q E h => ?_) (fun cdv A outer s H vs Q E hr h => ?_)
  · obtain ⟨_, _, _, _, _, _, _, _, rfl, _⟩ := h; rfl
  · obtain ⟨m, L, ls, acc, tab, ds, pss, lf, rfl, hM, g, lsz, hL, hd, hct, hlk, l0, l1, hlf, q⟩ := h
    obtain ⟨dx, ta, tt, hm, hA, hT⟩ := id hM
    have hsl : 1000000 ≤ sizeLine := by decide
    have tb := gmw_tb g
    have pl := hd.len
    refine ⟨_, (pss_cons (ps_set (i := 3) sc__text_through.nd rfl (by first | exact Or.inl rfl | exact Or.inr rfl) pe_int)
  (pss_cons (ps_set (i := 4) sc__text_through.nd rfl (by first | exact Or.inl rfl | exact Or.inr rfl) (pe_lst pa_nil))
  (pss_cons (ps_for PassesOwn.never rfl (kAny K rfl (pe_slice (kSl K) (pe_callE (ok__ends_behind T) (hr.mono (by decide)) T.o__ends_behind (pa_cons (pv 0) (pa_cons (pv 1) pa_nil))) (po_some pe_int) po_none)) (pg_name (i := 5) sc__text_through.nd rfl (by first | exact Or.inl rfl | exact Or.inr rfl))
    (pss_cons (ps_set (i := 6) sc__text_through.nd rfl (by first | exact Or.inl rfl | exact Or.inr rfl) pe_int)
  (pss_cons (ps_while PassesOwn.never (pt_cmpR op_geP (pv 2) (pe_dget2 (hu_of hr) (pv 5) (pe_ix (kIx K) (pe_ix (kIx K) (kFld K rfl (pe_fld (pv 0) rfl)) (pv 3) (fun _ _ => rfl)) (pv 6) (fun _ _ => rfl)) pe_int ⟨by rfl, by rfl, by rfl, by rfl⟩) (by first | rfl | exact nomark _))
    (pss_cons (ps_aug (i := 2) sc__text_through.nd rfl (by first | exact Or.inl rfl | exact Or.inr rfl) (pe_dget2 (hu_of hr) (pv 5) (pe_ix (kIx K) (pe_ix (kIx K) (kFld K rfl (pe_fld (pv 0) rfl)) (pv 3) (fun _ _ => rfl)) (pv 6) (fun _ _ => rfl)) pe_int ⟨by rfl, by rfl, by rfl, by rfl⟩) ip_sub)
  (pss_one (ps_aug (i := 6) sc__text_through.nd rfl (by first | exact Or.inl rfl | exact Or.inr rfl) pe_int ip_add))))
  (pss_cons (ps_set (i := 3) sc__text_through.nd rfl (by first | exact Or.inl rfl | exact Or.inr rfl) (pe_ix (kIx K) (pe_ix (kIx K) (kFld K rfl (pe_fld (pv 0) rfl)) (pv 3) (fun _ _ => rfl)) (pv 6) (fun _ _ => rfl)))
  (pss_one (ps_expr (kBm K rfl (pe_bm PySem.F.plainAttrs_list PySem.F.slot_list_append PySem.F.type_list_append mt_append (pv 4) (pa_cons (pe_ix (kIx K) (kFld K rfl (pe_fld (pv 0) rfl)) (pv 6) (fun _ _ => rfl)) pa_nil)))))))))
  (pss_one (ps_ret (kBm K rfl (pe_bm PySem.F.plainAttrs_str PySem.F.slot_str_join PySem.F.type_str_join (kJoin K) pe_str (pa_cons (pv 4) pa_nil)))))))), ?_⟩
    walk_at "rc"
    refine ⟨Nat.zero_le _, fun l hl => ?_⟩
    have e1 := Evl.Ex.new (o := .lst []) hl
    have hl1 : upd H l (.lst []) l = some (.lst []) := upd_same
    generalize upd H l (.lst []) = H1 at e1 hl1
    walk_at "rc"
    walk_at "rs"
    walk_at "rc"
    refine rd_anyL' ?_
    walk_at "rc"
    refine ⟨m, L, ls, acc, tab, ds, pss, rfl, hM.ex e1, g, e1 _ _ hL, hd.ex e1, hct, l0, l1, fun f es H2 e2 hf0 hf hes => ?_⟩
    have el := hes.len
    have eE : (endsL acc tab pss).length = pss.length := by
      have key : ∀ pss, (endsL acc tab pss).length = pss.length := by
        intro pss
        induction pss with
        | nil => rfl
        | cons a b ih =>
          have e : endsL acc tab (a :: b) = _ :: endsL acc tab b := rfl
          rw [e, List.length_cons, List.length_cons, ih]
      exact key pss
    cases es with
    | nil => rw [eE] at el; simp at el; omega
    | cons e0 es =>
    have hl2 := e2 _ _ hl1
    walk_at "rc"
    refine .inl ⟨f, _, rfl, SqL.of hf, fun p hp => ?_⟩
    rw [List.map_cons, cut1]
    have e3 := ex_upd (o := .lst (es.map V.ref)) (e1.trans e2) hp
    have he3 : DAll (upd H2 p (.lst (es.map V.ref))) (e0 :: es) (endsL acc tab pss) := hes.ex (Evl.Ex.new hp)
    have nlp : l ≠ p := fun z => by rw [z, hp] at hl2; cases hl2
    have hl3 : upd H2 p (.lst (es.map V.ref)) l = some (.lst []) := by rw [upd_ne nlp]; exact hl2
    have hp3 : upd H2 p (.lst (es.map V.ref)) p = some (.lst (es.map V.ref)) := upd_same
    generalize upd H2 p (.lst (es.map V.ref)) = H3 at e3 he3 hl3 hp3
    refine ⟨p, rfl, ⟨_, SqL.of hp3⟩, ?_⟩
    have k1 : es.length = ds.length - 1 := by rw [eE, ← pl, List.length_cons] at el; omega
    refine fo_list (xs := es.map V.ref) (fun i σ H' => ∃ (u : List Nat) (lf' : Nat) (k5 k6 : Option V), σ = [some (.ref m), some (.ref L), some (.int (lf' : Int)), some (vI (rn tab 0 u)), some (.ref l), k5, k6] ∧ Ex H H' ∧ H' p = some (.lst (es.map V.ref)) ∧ DAll H' (e0 :: es) (endsL acc tab pss) ∧ H' l = some (.lst ((chS ls u).map V.str)) ∧ Lw ls.length u ∧ u.length = i ∧ wsum acc tab (es.length - i) (lsW ls.length u) + lf' = lf ∧ lf' < wa acc tab (es.length - i) (rn tab 0 u))
      ⟨[], lf, _, _, rfl, e3, hp3, he3, hl3, Lw.nil, rfl, ?_, ?_⟩ (fun i σ H' _ ⟨_, _, _, _, _, _, z, _⟩ => SqL.of z) ?_ ?_
    · show 0 + lf = lf
      omega
    · rw [aW_wa tb, ← k1] at hlf
      exact hlf
    · rintro i x σ H4 hx ⟨u, lf', k5, k6, rfl, e4, hp4, he4, hl4, hu, lu, hw1, hw2⟩
      rw [List.getElem?_map] at hx
      obtain ⟨e, he, rfl⟩ := Option.map_eq_some_iff.mp hx
      have il := ltQ he
      obtain ⟨E, hE, heE⟩ := he4.get (i := i + 1) (d := e) (by rw [List.getElem?_cons_succ]; exact he)
      have hs : rn tab 0 u < acc.length := tb.rn hu tb.p
      have em : es.length - i = es.length - (i + 1) + 1 := by omega
      have cE : ∀ j, j < ls.length → cof E (dl tab (rn tab 0 u) j) = ((wa acc tab (es.length - (i + 1)) (dl tab (rn tab 0 u) j) : Nat) : Int) := fun j hj => by
        have := ends_wa tb pss 0 (fun j ps h => by rw [Nat.zero_add]; exact hlk j ps h) (i + 1) E hE (u ++ [j]) (hu.snoc hj) (by rw [List.length_append, lu, Nat.zero_add]; rfl)
        rw [rn_snoc] at this
        refine this.trans ?_
        have : pss.length - 1 - (i + 1) = es.length - (i + 1) := by omega
        rw [this]
        rfl
      walk_at "rc"
      walk_at "rs"
      refine rd_wh (fun mm σ H' => ∃ (idx lf2 : Nat), σ = [some (.ref m), some (.ref L), some (.int (lf2 : Int)), some (vI (rn tab 0 u)), some (.ref l), some (.ref e), some (.int (idx : Int))] ∧ H' = H4 ∧ mm = ls.length - idx ∧ lf2 + sA acc tab (es.length - (i + 1)) (rn tab 0 u) idx = lf')
        _ ⟨0, lf', rfl, rfl, rfl, rfl⟩ ?_
      rintro mm σ H5 ⟨idx, lf2, rfl, rfl, rfl, hi2⟩
      have hix : idx < ls.length := by
        rcases Nat.lt_or_ge idx ls.length with z | z
        · exact z
        · have h1 := sA_mono acc tab (es.length - (i + 1)) (rn tab 0 u) z
          rw [em, wa_row tb _ hs] at hw2
          have h2 : lf' < sA acc tab (es.length - (i + 1)) (rn tab 0 u) ls.length := hw2
          omega
      walk_at "rc"
      refine rd_dget2 ?_
      walk_at "rc"
      refine ⟨e, rfl, .inl ⟨_, .inl heE⟩, ?_⟩
      walk_at "rc"
      refine ⟨m, _, dx, _, _, rfl, e4 _ _ hm, T.cl_Machine, T.na_Machine_table, rfl, ?_⟩
      walk_at "rc"
      refine rd_cell e4 hT g hs hix (fun v h => by walk_at "rc"; exact h) ?_
      walk_at "rc"
      have hcE := cE idx hix
      have hcE' : cof E ((tab.getD (rn tab 0 u) []).getD idx 0) = ((wa acc tab (es.length - (i + 1)) (dl tab (rn tab 0 u) idx) : Nat) : Int) := hcE
      refine ⟨_, DGet.k (k := kI ((tab.getD (rn tab 0 u) []).getD idx 0)) heE, ?_⟩
      rw [getD_enc, hcE']
      walk_at "rc"
      refine rd_iteD (fun hge => ?_) fun hlt => ?_
      · refine ⟨_, fun σ2 H2 z => z, ?_⟩
        walk_at "rs"
        refine ⟨_, rfl, ?_⟩
        refine rd_dget2 ?_
        walk_at "rc"
        refine ⟨e, rfl, .inl ⟨_, .inl heE⟩, ?_⟩
        walk_at "rc"
        refine ⟨m, _, dx, _, _, rfl, e4 _ _ hm, T.cl_Machine, T.na_Machine_table, rfl, ?_⟩
        walk_at "rc"
        refine rd_cell e4 hT g hs hix (fun v h => by walk_at "rc"; exact h) ?_
        walk_at "rc"
        refine ⟨_, DGet.k (k := kI ((tab.getD (rn tab 0 u) []).getD idx 0)) heE, ?_⟩
        rw [getD_enc, hcE']
        refine ⟨_, _, rfl, rfl, ?_⟩
        refine ⟨_, rfl, ?_⟩
        refine ⟨_, _, rfl, rfl, ?_⟩
        have hw : wa acc tab (es.length - (i + 1)) (dl tab (rn tab 0 u) idx) ≤ lf2 := by omega
        refine ⟨ls.length - (idx + 1), by omega, idx + 1, lf2 - wa acc tab (es.length - (i + 1)) (dl tab (rn tab 0 u) idx), ?_, rfl, rfl, ?_⟩
        · rw [show ((lf2 - wa acc tab (es.length - (i + 1)) (dl tab (rn tab 0 u) idx) : Nat) : Int) = (lf2 : Int) - ((wa acc tab (es.length - (i + 1)) (dl tab (rn tab 0 u) idx) : Nat) : Int) from Int.ofNat_sub hw]
          rfl
        · rw [sA_succ]
          omega
      · walk_at "rc"
        refine ⟨m, _, dx, _, _, rfl, e4 _ _ hm, T.cl_Machine, T.na_Machine_table, rfl, ?_⟩
        walk_at "rc"
        refine rd_cell e4 hT g hs hix (fun v h => by walk_at "rc"; exact h) ?_
        walk_at "rc"
        refine ⟨.inl ⟨rfl, _, SqL.of hl4⟩, ?_⟩
        walk_at "rc"
        refine ⟨m, _, dx, _, _, rfl, e4 _ _ hm, T.cl_Machine, T.na_Machine_letters, rfl, ?_⟩
        walk_at "rc"
        have hcl : ls.cps.toList[idx]? = some (ls.cps.toList.getD idx 0) := by
          have hx : idx < ls.cps.toList.length := hix
          rw [List.getD_eq_getElem?_getD, List.getElem?_eq_getElem hx]; rfl
        refine rd_ixS lsz (atI_nat (j := idx) hcl) ?_
        walk_at "rc"
        refine ⟨l, _, _, rfl, rfl, hl4, ?_, ?_⟩
        · unfold chS
          rw [List.length_map, List.length_map, lu]
          omega
        have es1 : (chS ls u).map V.str ++ [V.str ⟨#[ls.cps.toList.getD idx 0]⟩] = (chS ls (u ++ [idx])).map V.str := by
          unfold chS
          rw [List.map_append, List.map_append]; rfl
        rw [es1]
        refine ⟨u ++ [idx], lf2, some (.ref e), some (.int (idx : Int)), by rw [rn_snoc]; rfl, Evl.Ex.mut e4 hl, by rw [upd_ne (Ne.symm nlp)]; exact hp4, DAll.upd hl4 he4, upd_same, hu.snoc hix, by rw [List.length_append, lu]; rfl, ?_, ?_⟩
        · rw [ws_snoc tb _ hu]
          have : wsum acc tab (es.length - (i + 1) + 1) (lsW ls.length u) + lf' = lf := by rw [← em]; exact hw1
          have hi3 : lf2 + ((List.range idx).map fun a => wa acc tab (es.length - (i + 1)) (dl tab (rn tab 0 u) a)).sum = lf' := hi2
          omega
        · rw [rn_snoc]
          have : ¬ ((wa acc tab (es.length - (i + 1)) (dl tab (rn tab 0 u) idx) : Nat) : Int) ≤ (lf2 : Int) := hlt
          show lf2 < wa acc tab (es.length - (i + 1)) (dl tab (rn tab 0 u) idx)
          omega
    · rintro σ H4 ⟨u, lf', k5, k6, rfl, e4, hp4, he4, hl4, hu, lu, hw1, hw2⟩
      rw [List.length_map] at lu hw1 hw2
      rw [Nat.sub_self] at hw1 hw2
      have ha : lgW acc tab u = true := by
        have h2 : lf' < if acc.getD (rn tab 0 u) false = true then 1 else 0 := hw2
        by_cases ha : acc.getD (rn tab 0 u) false = true
        · exact ha
        · rw [if_neg ha] at h2
          omega
      have h0 : lf' = 0 := by
        have h2 : lf' < if acc.getD (rn tab 0 u) false = true then 1 else 0 := hw2
        split at h2 <;> omega
      rw [wsum_zero] at hw1
      walk_at "rc"
      refine ⟨rfl, ?_⟩
      walk_at "rc"
      refine ⟨"", l, chS ls u, rfl, rfl, .inl (SqL.of hl4), ?_, ?_⟩
      · have e : chS ls u = ((u.map fun j => ls.cps.toList.getD j 0).map fun c => (⟨#[c]⟩ : Str)) := by unfold chS; rw [List.map_map]; rfl
        rw [e, sum_signs, List.length_map, List.length_map, List.length_map]
        have e0 : (Str.ofString "").length = 0 := by decide +kernel
        rw [e0]
        omega
      · rw [join_chS]
        exact q u H4 e4 hu (by omega) ha (by omega)
end
section
structure DN (us : List Nat) (c : Nat → V) (kvs : List (L2.Key × V)) : Prop where
  l : kvs.length ≤ us.length
  y : ∀ s ∈ us, valV kvs (kI s) = some (c s)
  n : ∀ s, s ∉ us → valV kvs (kI s) = none
theorem DN.snoc {l : List Nat} {kvs : List (L2.Key × V)} {s : Nat} {v : V} (h : DN l (fun _ => v) kvs) : DN (l ++ [s]) (fun _ => v) (putK kvs (kI s) v) := by
  refine ⟨?_, fun t ht => ?_, fun t ht => ?_⟩
  · have := length_putK kvs (kI s) v
    have := h.l
    rw [List.length_append, List.length_singleton]
    omega
  · rw [valV_put]
    by_cases e : t = s
    · rw [if_pos (kI_inj.mpr e)]
    · rw [if_neg (fun z => e (kI_inj.mp z))]
      exact h.y t ((List.mem_append.mp ht).resolve_right fun z => e (List.mem_singleton.mp z))
  · have h1 : t ∉ l := fun z => ht (List.mem_append.mpr (.inl z))
    have h2 : t ≠ s := fun z => ht (List.mem_append.mpr (.inr (by rw [z]; exact List.mem_cons_self)))
    rw [valV_put, if_neg (fun z => h2 (kI_inj.mp z)), h.n t h1]
/-- {state: v for state in states} -/
theorem dc_N {K : PySem.W.Frag} {j : Nat} {σ : L2.St} {H H0 : Hp} {Q : VK} {J : It} {us : List Nat} {v : V} (w : Wd K J (us.map nI) H0) (e0 : Ex H0 H) (hn : us.length < 100000) (hw : ∀ v : V, wipe ((wipe σ [j]).set j (some v)) [j] = wipe σ [j]) (hj : ∀ v : V, ((wipe σ [j]).set j (some v))[j]? = some (some v))
    (h : ∀ D kvs Hc, Ex H Hc → H D = none → Hc D = some (.dK kvs) → DN us (fun _ => v) kvs → Q (.ref D) Hc) : dcB (gName j) tYes (tVar j) (tC v) [j] σ Q J H := by
  intro D hD
  have hz : 100000 ≤ sizeLine := by decide
  refine ⟨fun i m Hc => m = us.length - i ∧ i ≤ us.length ∧ Ex H Hc ∧ ∃ kvs, Hc D = some (.dK kvs) ∧ DN (us.take i) (fun _ => v) kvs, ⟨us.length, by simp, Nat.zero_le _, Evl.Ex.new hD, [], upd_same, ⟨Nat.zero_le _, fun s hs => (by rw [List.take_zero] at hs; cases hs), fun s _ => rfl⟩⟩, ?_⟩
  rintro i m Hc ⟨rfl, hi, e, kvs, hk, dn⟩
  have hl : (us.map nI).length = us.length := List.length_map ..
  by_cases hlt : i < us.length
  · refine .inr ⟨w.goes i Hc (by rw [hl]; exact hlt) (e0.trans e), fun H' => i + 1 ≤ us.length ∧ Ex H H' ∧ ∃ kvs, H' D = some (.dK kvs) ∧ DN (us.take (i + 1)) (fun _ => v) kvs, fun H' p => ⟨us.length - (i + 1), by omega, rfl, p⟩, fun x H' y => ?_⟩
    obtain ⟨rfl, d, hd, hx⟩ := w.yields i Hc x H' (by rw [hl]; exact hlt) (e0.trans e) y
    rw [List.getElem?_map] at hd
    obtain ⟨s, hs, rfl⟩ := Option.map_eq_some_iff.mp hd
    cases Dp.int_iff hx
    refine ⟨hw _, rd_yes ?_⟩
    refine rd_iteT ?_
    refine rd_var (hj _) ?_
    refine rd_c ?_
    have l2 := dn.l
    rw [List.length_take] at l2
    refine ⟨kvs, kI s, rfl, hk, by omega, hlt, Evl.Ex.mut e hD, _, upd_same, ?_⟩
    rw [List.take_succ, hs]
    exact dn.snoc
  · have ei : i = us.length := by omega
    subst ei
    rw [List.take_length] at dn
    have st := w.stops Hc (e0.trans e)
    rw [hl] at st
    exact .inl ⟨st, h D kvs Hc e hD hk dn⟩
end
section
variable {n w : Nat} {acc : List Bool} {tab : List (List Nat)}
theorem cof_none {ps : List (Nat × Int)} {s : Nat} (h : s ∉ ps.map (·.1)) : cof ps s = 0 := by
  unfold cof
  rw [vof_none.mpr h]; rfl
theorem vof_cof {ps : List (Nat × Int)} {s : Nat} (h : s ∈ ps.map (·.1)) : vof ps s = some (cof ps s) := by
  unfold cof
  cases e : vof ps s with
  | none => exact absurd h (vof_none.mp e)
  | some x => rfl
theorem Tel.sift {ps : List (Nat × Int)} {L : List (List Nat)} (h : Tel tab n ps L) (U : Nat → Bool) : Tel tab n (sift U (cof ps) ps) (L.filter fun u => U (rn tab 0 u)) := by
  refine ⟨sift_ct h.c, fun t => ?_, fun t => ?_, fun u hu => h.b u (List.mem_filter.mp hu).1⟩
  · rw [sift_cof]
    unfold cw
    rw [List.countP_filter]
    by_cases hU : U t = true
    · have e : L.countP (fun u => decide (rn tab 0 u = t) && U (rn tab 0 u)) = L.countP fun u => decide (rn tab 0 u = t) := by
        refine List.countP_congr fun u _ => ?_
        rw [Bool.and_eq_true, decide_eq_true_eq]
        exact ⟨fun z => z.1, fun z => ⟨z, by rw [z]; exact hU⟩⟩
      rw [e]
      have hv := h.v t
      unfold cw at hv
      rw [← hv]
      by_cases hk : t ∈ ps.map (·.1)
      · rw [if_pos ⟨hk, hU⟩]
      · rw [if_neg (fun z => hk z.1), cof_none hk]
    · rw [if_neg (fun z => hU z.2)]
      have e : L.countP (fun u => decide (rn tab 0 u = t) && U (rn tab 0 u)) = 0 := by
        rw [List.countP_eq_zero]
        intro u _ z
        rw [Bool.and_eq_true, decide_eq_true_eq] at z
        exact hU (by rw [← z.1]; exact z.2)
      rw [e]; rfl
  · rw [sift_keys, h.k]
    constructor
    · rintro ⟨⟨u, hu, rfl⟩, hU⟩
      exact ⟨u, List.mem_filter.mpr ⟨hu, hU⟩, rfl⟩
    · rintro ⟨u, hu, rfl⟩
      obtain ⟨h1, h2⟩ := List.mem_filter.mp hu
      exact ⟨⟨u, h1, rfl⟩, h2⟩
theorem extW_cons (w : Nat) (u : List Nat) (L : List (List Nat)) : extW w (u :: L) = ((List.range w).map fun j => u ++ [j]) ++ extW w L := by unfold extW; rw [List.flatMap_cons]
theorem ext_filter {p : List Nat → Bool} : ∀ {L : List (List Nat)}, (∀ u ∈ L, ∀ j, j < w → p (u ++ [j]) = true → p u = true) → (extW w (L.filter p)).filter p = (extW w L).filter p
  | [], _ => rfl
  | u :: L, h => by
    have ih := ext_filter (L := L) fun v hv => h v (List.mem_cons_of_mem _ hv)
    rw [extW_cons, List.filter_append, ← ih, List.filter_cons]
    by_cases e : p u = true
    · rw [if_pos e, extW_cons, List.filter_append]
    · rw [if_neg e]
      have : (((List.range w).map fun j => u ++ [j]).filter p) = [] := by
        rw [List.filter_eq_nil_iff]
        intro v hv z
        obtain ⟨j, hj, rfl⟩ := List.mem_map.mp hv
        exact e (h u List.mem_cons_self j (List.mem_range.mp hj) z)
      rw [this, List.nil_append]
def usB (us : List Nat) (s : Nat) : Bool := decide (s ∈ us)
def fW (w : Nat) (tab : List (List Nat)) (us : List Nat) (k : Nat) : List (List Nat) := (lvW w k).filter fun u => usB us (rn tab 0 u)
theorem mem_fW (tb : Tb n w tab) {us : List Nat} (hus : ∀ s, s ∈ us ↔ Usf acc tab s) {k : Nat} {u : List Nat} : u ∈ fW w tab us k ↔ Lw w u ∧ u.length = k ∧ Lv acc tab (rn tab 0 u) := by
  unfold fW
  rw [List.mem_filter, mem_lvW]
  unfold usB
  rw [decide_eq_true_eq, hus]
  constructor
  · rintro ⟨⟨h1, h2⟩, h3⟩
    exact ⟨h1, h2, h3.2⟩
  · rintro ⟨h1, h2, h3⟩
    exact ⟨⟨h1, h2⟩, word_rch tb u h1, h3⟩
theorem fW_succ (tb : Tb n w tab) {us : List Nat} (hus : ∀ s, s ∈ us ↔ Usf acc tab s) (k : Nat) : (extW w (fW w tab us k)).filter (fun u => usB us (rn tab 0 u)) = fW w tab us (k + 1) := by
  unfold fW
  refine ext_filter fun u hu j hj z => ?_
  have hl := lw_lv u hu
  have z : decide (rn tab 0 (u ++ [j]) ∈ us) = true := z
  show decide (rn tab 0 u ∈ us) = true
  rw [decide_eq_true_eq, hus] at z ⊢
  rw [rn_snoc] at z
  exact ⟨word_rch tb u hl, .go (dl_mem tb (tb.rn hl tb.p) hj) z.2⟩
theorem fW_count (tb : Tb n w tab) {us : List Nat} (hus : ∀ s, s ∈ us ↔ Usf acc tab s) (k : Nat) : (fW w tab us k).countP (lgW acc tab) = aW w acc tab k := by
  unfold fW aW
  rw [List.countP_filter]
  refine List.countP_congr fun u hu => ?_
  rw [Bool.and_eq_true]
  refine ⟨fun z => z.1, fun z => ⟨z, ?_⟩⟩
  have hl := lw_lv u hu
  show decide (rn tab 0 u ∈ us) = true
  rw [decide_eq_true_eq, hus]
  exact ⟨word_rch tb u hl, word_lv tb (v := []) (tb.rn hl tb.p) Lw.nil z⟩
theorem fW_lay (tb : Tb n w tab) {us : List Nat} (hus : ∀ s, s ∈ us ↔ Usf acc tab s) {k : Nat} {ps : List (Nat × Int)} (t : Tel tab n ps (fW w tab us k)) : LayK w acc tab k ps := fun s => by
  rw [t.k]
  constructor
  · rintro ⟨u, hu, rfl⟩
    obtain ⟨h1, h2, h3⟩ := (mem_fW tb hus).mp hu
    exact ⟨u, h1, h2, rfl, h3⟩
  · rintro ⟨u, h1, h2, rfl, h3⟩
    exact ⟨u, (mem_fW tb hus).mpr ⟨h1, h2, h3⟩, rfl⟩
theorem fW_nil (tb : Tb n w tab) {us : List Nat} (hus : ∀ s, s ∈ us ↔ Usf acc tab s) {k : Nat} (h : fW w tab us k = []) : ∀ k', k ≤ k' → aW w acc tab k' = 0 := fun k' hk => by
  rcases Nat.eq_zero_or_pos (aW w acc tab k') with z | z
  · exact z
  · obtain ⟨v, hv, lv, ha⟩ := aW_pos.mp z
    have hl : Lw w (v.take k) := hv.take k
    have hs : rn tab 0 (v.take k) < n := tb.rn hl tb.p
    have : v.take k ∈ fW w tab us k := (mem_fW tb hus).mpr ⟨hl, by rw [List.length_take]; omega, word_lv tb (v := v.drop k) hs (fun x hx => hv x (List.mem_of_mem_drop hx)) (by rw [← rn_app, List.take_append_drop]; exact ha)⟩
    rw [h] at this
    exact nomatch this
end
section
variable (T : Txt K mg)
theorem rd_lay0 {tab : List (List Nat)} {n : Nat} {us : List Nat} {b : Bool} {w0 : Nat} {σ : L2.St} {H : Hp} {Q : VK} (n0 : 0 < n) (hb : b = usB us 0) (h : ∀ (l d : Addr) (ps : List (Nat × Int)) (H' : Hp), Ex H H' → H l = none → H' l = some (.lst [.ref d]) → H' d = some (.dK (encC ps)) → Tel tab n ps (fW w0 tab us 0) → Q (.ref l) H') :
    if b = true then tLst (tCons (tDisp [(tC (.int 0), tC (.int 1))]) tNil) σ H Q else tLst (tCons tDNewK tNil) σ H Q := by
  have hsl : 1000000 ≤ sizeLine := by decide
  have key : ∀ (d : Addr) (ps : List (Nat × Int)) (H1 : Hp), Ex H H1 → H1 d = some (.dK (encC ps)) → Tel tab n ps (fW w0 tab us 0) → ([V.ref d].length ≤ sizeLine ∧ ∀ p, H1 p = none → Q (.ref p) (upd H1 p (.lst [V.ref d]))) := fun d ps H1 e1 hd t => by
    refine ⟨by show 1 ≤ sizeLine; omega, fun p hp => h p d ps _ (ex_upd e1 hp) (Evl.fresh_back e1 hp) upd_same ?_ t⟩
    rw [upd_ne (fun z => by rw [z, hp] at hd; cases hd)]
    exact hd
  have ef : ∀ c, usB us 0 = c → fW w0 tab us 0 = if c = true then [[]] else [] := fun c hc => by
    show ([[]] : List (List Nat)).filter _ = _
    rw [List.filter_cons]
    show (if usB us 0 = true then _ else _) = _
    rw [hc]
    rfl
  cases hc : b with
  | true =>
    refine rd_iteT ?_
    rw [hc] at hb
    walk_at "rc"
    refine disp01 fun d H1 e1 _ hd => ?_
    walk_at "rc"
    exact key d _ H1 e1 hd (by rw [ef true hb.symm]; exact Tel.one n0)
  | false =>
    refine rd_iteF ?_
    rw [hc] at hb
    walk_at "rc"
    intro d hd
    walk_at "rc"
    exact key d [] _ (Evl.Ex.new hd) upd_same (by rw [ef false hb.symm]; exact Tel.nil)
def TextAt (ls : Str) (acc : List Bool) (tab : List (List Nat)) (p : Nat) (r : V) : Prop := (∃ v, r = .str (tx ls v) ∧ Lw ls.length v ∧ lgW acc tab v = true ∧ plc ls.length acc tab v = p) ∨ (r = .non ∧ ∃ k, sumN (aW ls.length acc tab) k ≤ p ∧ ∀ k', k ≤ k' → aW ls.length acc tab k' = 0)
def spTextAt : Sp := fun vs H Q _ => ∃ (m : Addr) (ls : Str) (acc : List Bool) (tab : List (List Nat)) (p : Nat), vs = [.ref m, .int (p : Int)] ∧ MachD K T.C_Machine H m ls acc tab ∧ GMw ls acc tab ∧ ls.length ≤ sizeLine ∧ acc.length * (p + 1) < 100000 ∧
  ∀ r H', Ex H H' → TextAt ls acc tab p r → Q r H'
theorem ok_text_at : FnOk P w K mg base CX0 4 T.a_text_at T.d_text_at ["machine", "place"] (spTextAt T) := by
  refine T.f_text_at.ok sc_text_at (fun vs H Q E h => ?_) (fun cdv A outer s H vs Q E hr h => ?_)
  · obtain ⟨_, _, _, _, _, rfl, _⟩ := h; rfl
  · obtain ⟨m, ls, acc, tab, p, rfl, hM, g, lsz, pb, q⟩ := h
    obtain ⟨dx, ta, tt, hm, hA, hT⟩ := id hM
    have hsl : 1000000 ≤ sizeLine := by decide
    have tb := gmw_tb g
    have gn := g.m.g.n
    have ge := g.m.e
    refine ⟨_, (pss_cons (ps_set (i := 2) sc_text_at.nd rfl (by first | exact Or.inl rfl | exact Or.inr rfl) (pe_dc (own := [("state", 3)]) (g := gName 3) (tt := tYes) (by rfl) sc_text_at.nd (kAny K rfl (pe_callE (ok_useful T) (hr.mono (by decide)) T.o_useful (pa_cons (pv 0) pa_nil))) (blkOk_by (own := [("state", 3)]) (N := ["machine", "place", "kept", "state", "layers", "left", "here", "longer"]) (sc := defScope s_text_at) (by decide +kernel)) (fun _ _ _ _ _ => (pg_name (i := 3) sc_text_at.nd rfl (by first | exact Or.inl rfl | exact Or.inr rfl))) (fun _ _ _ _ _ => pts_nil) (fun _ _ _ _ _ => (pv 3)) (fun _ _ _ _ _ => pe_bl)))
  (pss_cons (ps_set (i := 4) sc_text_at.nd rfl (by first | exact Or.inl rfl | exact Or.inr rfl) (pe_ifExp (pt_cmp (pc_din (hu_of hr) pe_int (pv 2))) (pe_lst (pa_cons (pe_disp (pps_cons pe_int pe_int pps_nil) (by rfl) (by rfl) (fun z => by cases z) (by decide)) pa_nil)) (pe_lst (pa_cons pe_dnewK pa_nil))))
  (pss_cons (ps_set (i := 5) sc_text_at.nd rfl (by first | exact Or.inl rfl | exact Or.inr rfl) (pv 1))
  (pss_cons (ps_while PassesOwn.never (pt_cmpR op_gtP (pe_callB (kLen K) (by rfl) T.nb_len (by decide +kernel) (pa_cons (pe_ix (kIx K) (pv 4) (pe_un un_neg pe_int) (fun _ _ => rfl)) pa_nil)) pe_int (by first | rfl | exact nomark _))
    (pss_cons (ps_set (i := 6) sc_text_at.nd rfl (by first | exact Or.inl rfl | exact Or.inr rfl) (pe_callE (ok__accepted T) (hr.mono (by decide)) T.o__accepted (pa_cons (pv 0) (pa_cons (pe_ix (kIx K) (pv 4) (pe_un un_neg pe_int) (fun _ _ => rfl)) pa_nil))))
  (pss_cons (ps_if (pt_cmpR op_ltP (pv 5) (pv 6) (by first | rfl | exact nomark _))
    (pss_one (ps_ret (pe_callE (ok__text_through T) (hr.mono (by decide)) T.o__text_through (pa_cons (pv 0) (pa_cons (pv 4) (pa_cons (pv 5) pa_nil))))))
    pss_nil)
  (pss_cons (ps_aug (i := 5) sc_text_at.nd rfl (by first | exact Or.inl rfl | exact Or.inr rfl) (pv 6) ip_sub)
  (pss_cons (ps_set (i := 7) sc_text_at.nd rfl (by first | exact Or.inl rfl | exact Or.inr rfl) (pe_callE (ok__longer T) (hr.mono (by decide)) T.o__longer (pa_cons (pv 0) (pa_cons (pe_ix (kIx K) (pv 4) (pe_un un_neg pe_int) (fun _ _ => rfl)) pa_nil))))
  (pss_one (ps_expr (kBm K rfl (pe_bm PySem.F.plainAttrs_list PySem.F.slot_list_append PySem.F.type_list_append mt_append (pv 4) (pa_cons (pe_lock (pe_dc (own := [("state", 3)]) (g := gName 3)  (by rfl) sc_text_at.nd (pi_keys (pv 7)) (blkOk_by (own := [("state", 3)]) (N := ["machine", "place", "kept", "state", "layers", "left", "here", "longer"]) (sc := defScope s_text_at) (by decide +kernel)) (fun _ _ _ _ _ => (pg_name (i := 3) sc_text_at.nd rfl (by first | exact Or.inl rfl | exact Or.inr rfl))) (fun _ _ _ _ _ => (pts_one (pt_cmp (pc_din (hu_of hr) (pv 3) (pv 2))))) (fun _ _ _ _ _ => (pv 3)) (fun _ _ _ _ _ => (pe_dget (hu_of hr) (pv 7) (pv 3) (fun _ _ => rfl))))) pa_nil))))))))))
  (pss_one (ps_ret pe_non)))))), ?_⟩
    walk_at "rc"
    refine rd_dc ?_
    refine rd_anyL' ?_
    walk_at "rc"
    refine ⟨m, ls, acc, tab, rfl, hM, g.m, fun lu us H1 e1 hlu0 hlu und hus => ?_⟩
    have ul : us.length ≤ acc.length := by
      have := nodup_leK us (List.range acc.length) (und.imp fun h => Nat.ne_of_lt h) fun s hs => List.mem_range.mpr (((hus s).mp hs).2.lt g.m)
      rw [List.length_range] at this
      exact this
    refine rd_itDL (Evl.Ex.refl H1) (.lst (SqL.of hlu) (dpAll_nats us)) fun J wJ => ?_
    refine dc_N (K := K) wJ (Evl.Ex.refl H1) (by omega) (fun v => rfl) (fun v => rfl) fun D kvs H2 e2 hD0 hD dn => ?_
    have hDu : ∀ s, (valV kvs (kI s)).isSome = usB us s := fun s => by
      unfold usB
      by_cases hs : s ∈ us
      · rw [dn.y s hs, decide_eq_true hs]; rfl
      · rw [dn.n s hs, decide_eq_false hs]; rfl
    have e12 := e1.trans e2
    walk_at "rc"
    refine rd_ife ?_
    walk_at "rc"
    refine ⟨D, _, rfl, DGet.k (k := kI 0) hD, ?_⟩
    rw [hDu]
    walk_at "rc"
    refine rd_lay0 (tab := tab) (w0 := ls.length) g.m.p rfl fun l d ps H3 e3 hl0 hl hd t => ?_
    have e13 := e12.trans e3
    have hlH : H l = none := Evl.fresh_back e12 hl0
    have hD3 := e3 _ _ hD
    walk_at "rc"
    walk_at "rs"
    refine rd_wh (fun mm σ H' => ∃ (ds : List Addr) (d : Addr) (pss : List (List (Nat × Int))) (ps : List (Nat × Int)) (lf : Nat) (k3 k6 k7 : Option V), σ = [some (.ref m), some (.int (p : Int)), some (.ref D), k3, some (.ref l), some (.int (lf : Int)), k6, k7] ∧ Ex H H' ∧ H' D = some (.dK kvs) ∧ H' l = some (.lst ((ds ++ [d]).map V.ref)) ∧ DAll H' (ds ++ [d]) (pss ++ [ps]) ∧ (∀ qs ∈ pss ++ [ps], Ct acc.length qs) ∧ (∀ i qs, (pss ++ [ps])[i]? = some qs → LayK ls.length acc tab i qs) ∧ Tel tab acc.length ps (fW ls.length tab us ds.length) ∧ sumN (aW ls.length acc tab) ds.length + lf = p ∧ ds.length ≤ acc.length * (p + 1) ∧ mm = acc.length * (p + 1) - ds.length)
      _ ⟨[], d, [], ps, p, _, _, _, rfl, e13, hD3, hl, .cons hd .nil, fun qs hq => by rw [List.mem_singleton.mp hq]; exact t.c, fun i qs hq => ?_, t, by show 0 + p = p; omega, Nat.zero_le _, rfl⟩ ?_
    · cases i with
      | zero =>
        have : ps = qs := by simpa using hq
        rw [← this]
        exact fW_lay tb hus t
      | succ i => simp at hq
    rintro mm σ H4 ⟨ds, d, pss, ps, lf, k3, k6, k7, rfl, e4, hD4, hl4, da, hct, hlk, t, hp, hk, rfl⟩
    have ew : (ds ++ [d]).map V.ref = ds.map V.ref ++ [V.ref d] := by rw [List.map_append]; rfl
    have dl : ds.length = pss.length := by have := da.len; simpa using this
    have hd4 : H4 d = some (.dK (encC ps)) := by
      obtain ⟨ps', h1, h2⟩ := da.get (i := ds.length) (d := d) (by rw [List.getElem?_append_right (Nat.le_refl _), Nat.sub_self]; rfl)
      rw [dl, List.getElem?_append_right (Nat.le_refl _), Nat.sub_self] at h1
      cases h1
      exact h2
    have hl4' := hl4
    rw [ew] at hl4'
    walk_at "rc"
    refine rd_neg1 ?_
    refine rd_ixL (SqL.of hl4') atI_neg1 ?_
    walk_at "rc"
    refine .inr ⟨d, _, rfl, hd4, ?_⟩
    walk_at "rc"
    refine rd_iteD (fun hgt => ?_) fun hng => ?_
    · have ct := hct ps (List.mem_append.mpr (.inr List.mem_cons_self))
      have hpos : ds.length < acc.length * (p + 1) := by
        have h0 : ps ≠ [] := fun z => by rw [z] at hgt; exact absurd hgt (by decide)
        obtain ⟨p0, hp0⟩ := List.exists_mem_of_ne_nil _ h0
        obtain ⟨u, hu, lu, _, lv⟩ := (fW_lay tb hus t p0.1).mp (List.mem_map.mpr ⟨p0, hp0, rfl⟩)
        have := far (acc := acc) tb rfl hu (by rw [‹rn tab 0 u = p0.1›]; exact lv)
        rw [lu] at this
        refine Nat.lt_of_lt_of_le this (Nat.mul_le_mul_left _ ?_)
        omega
      refine ⟨_, fun σ2 H2 z => z, ?_⟩
      walk_at "rc"
      refine rd_neg1 ?_
      refine rd_ixL (SqL.of hl4') atI_neg1 ?_
      walk_at "rc"
      refine ⟨m, d, ls, acc, tab, ps, rfl, hM.ex e4, g.m, hd4, ct, fun H5 e5 => ?_⟩
      rw [t.acc, fW_count tb hus]
      have e45 := e4.trans e5
      have hl5 := e5 _ _ hl4
      have hl5' := e5 _ _ hl4'
      have hD5 := e5 _ _ hD4
      have hd5 := e5 _ _ hd4
      have da5 := da.ex e5
      walk_at "rc"
      walk_at "rs"
      walk_at "rc"
      refine rd_iteD (fun hlt => ?_) fun hge => ?_
      · walk_at "rc"
        refine ⟨m, l, ls, acc, tab, ds ++ [d], pss ++ [ps], lf, rfl, hM.ex e45, g, lsz, hl5, da5, hct, hlk, by rw [List.length_append]; exact Nat.succ_pos _, by rw [List.length_append]; show ds.length + 1 ≤ 100000; omega, ?_, fun v H6 e6 hv lv hacc hcnt => ?_⟩
        · rw [List.length_append]
          show lf < aW ls.length acc tab (ds.length + 1 - 1)
          rw [Nat.add_sub_cancel]
          omega
        · refine q _ _ (e45.trans e6) (.inl ⟨v, rfl, hv, hacc, ?_⟩)
          unfold plc
          rw [List.length_append] at lv
          have lv : v.length = ds.length + 1 - 1 := lv
          rw [Nat.add_sub_cancel] at lv
          rw [lv, hcnt]
          exact hp
      · walk_at "rc"
        walk_at "rs"
        refine ⟨_, rfl, ?_⟩
        walk_at "rc"
        refine ⟨_, _, rfl, rfl, ?_⟩
        walk_at "rc"
        refine rd_neg1 ?_
        refine rd_ixL (SqL.of hl5') atI_neg1 ?_
        walk_at "rc"
        refine ⟨m, d, ls, acc, tab, ps, rfl, hM.ex e45, g.m, hd5, ct, fun l2 qs H6 e6 hl20 hl2 c2 v2 kk2 => ?_⟩
        have t2 := t.step tb c2 v2 kk2
        have e46 := e45.trans e6
        have hl6 := e6 _ _ hl5
        have hD6 := e6 _ _ hD5
        have hl2H : H l2 = none := Evl.fresh_back e45 hl20
        walk_at "rc"
        refine ⟨.inl ⟨rfl, _, SqL.of hl6⟩, ?_⟩
        walk_at "rc"
        refine ⟨l2, .dK (encC qs), hl2, trivial, fun od => ?_⟩
        have nl2 : l ≠ l2 := fun z => by rw [z, hl2] at hl6; cases hl6
        have nD2 : D ≠ l2 := fun z => by rw [z, hl20] at hD5; cases hD5
        have k0 : Kp [l2] H6 (upd H6 l2 (.frz od (.dK (encC qs)))) := Kp.put List.mem_cons_self
        have f0 : upd H6 l2 (.frz od (.dK (encC qs))) l2 = some (.frz od (.dK (encC qs))) := upd_same
        have hD7 : upd H6 l2 (.frz od (.dK (encC qs))) D = some (.dK kvs) := by rw [upd_ne nD2]; exact hD6
        generalize upd H6 l2 (.frz od (.dK (encC qs))) = H7 at k0 f0 hD7
        refine rd_dc ?_
        refine rd_keysI ?_
        walk_at "rc"
        refine ⟨l2, od, rfl, .inl ⟨encC qs, f0, ?_⟩⟩
        refine dc_keys c2 (by omega) f0 (fun v => rfl) (fun v => rfl) (usB us) (cof qs) (fun p0 hp0 Hc ec N hN => ?_) (fun p0 hp0 _ Hc ec N hN => ?_) fun D2 Hc ec hD20 hD2 => ?_
        · walk_at "rc"
          refine ⟨D, _, rfl, DGet.k (k := kI p0.1) (ec _ _ hD7), ?_⟩
          rw [hDu]
          walk_at "rc"
          exact hN _ (Evl.Ex.refl _)
        · walk_at "rc"
          refine ⟨l2, .int (cof qs p0.1), rfl, .inl ⟨encC qs, kI p0.1, .inr ⟨od, ec _ _ f0⟩, rfl, ?_⟩, hN _ (Evl.Ex.refl _)⟩
          rw [valV_enc, vof_cof (List.mem_map.mpr ⟨p0, hp0, rfl⟩)]; rfl
        · refine ⟨ec _ _ f0, ?_⟩
          have nDl : D2 ≠ l2 := fun z => by rw [z, f0] at hD20; cases hD20
          have e67 : Ex H6 (upd Hc l2 (.dK (encC qs))) := fun b o z => by
            by_cases e : b = l2
            · rw [e, hl2] at z
              rw [e, upd_same]
              exact z
            · rw [upd_ne e]
              exact ec _ _ (k0 b o (fun y => e (List.mem_singleton.mp y)) z)
          have hD2' : upd Hc l2 (.dK (encC qs)) D2 = some (.dK (encC (sift (usB us) (cof qs) qs))) := by rw [upd_ne nDl]; exact hD2
          generalize upd Hc l2 (.dK (encC qs)) = H8 at e67 hD2'
          have hl8 := e67 _ _ hl6
          have hD8 := e67 _ _ hD6
          have t3 := t2.sift (usB us)
          rw [fW_succ tb hus] at t3
          walk_at "rc"
          refine ⟨l, _, _, rfl, rfl, hl8, ?_, ?_⟩
          · rw [List.length_map, List.length_append]
            show ds.length + 1 < sizeLine
            omega
          have el : (ds ++ [d]).length = ds.length + 1 := by rw [List.length_append]; rfl
          have nDl3 : D ≠ l := fun z => by rw [z, hl8] at hD8; cases hD8
          refine ⟨acc.length * (p + 1) - (ds.length + 1), by omega, ds ++ [d], D2, pss ++ [ps], sift (usB us) (cof qs) qs, lf - aW ls.length acc tab ds.length, k3, some (.int ((aW ls.length acc tab ds.length : Nat) : Int)), some (.ref l2), ?_, Evl.Ex.mut (e46.trans e67) hlH, by rw [upd_ne nDl3]; exact hD8, by rw [upd_same, List.map_append (l₁ := ds ++ [d])]; rfl, DAll.upd hl8 (((da5.ex e6).ex e67).app (.cons hD2' .nil)), ?_, ?_, by rw [el]; exact t3, by rw [el, sumN_succ]; omega, by rw [el]; omega, by rw [el]⟩
          · rw [show ((lf - aW ls.length acc tab ds.length : Nat) : Int) = (lf : Int) - ((aW ls.length acc tab ds.length : Nat) : Int) from Int.ofNat_sub (by omega)]
            rfl
          · intro rs hrs
            rcases List.mem_append.mp hrs with z | z
            · exact hct rs z
            · rw [List.mem_singleton.mp z]
              exact t3.c
          · intro i rs hi
            rcases Nat.lt_or_ge i (pss ++ [ps]).length with z | z
            · rw [List.getElem?_append_left z] at hi
              exact hlk i rs hi
            · rw [List.getElem?_append_right z] at hi
              have hi0 : i - (pss ++ [ps]).length = 0 := by
                rcases Nat.eq_zero_or_pos (i - (pss ++ [ps]).length) with y | y
                · exact y
                · rw [List.getElem?_eq_none (by exact y)] at hi
                  exact nomatch hi
              rw [hi0] at hi
              have hi : sift (usB us) (cof qs) qs = rs := by simpa using hi
              rw [← hi]
              have : i = ds.length + 1 := by
                rw [List.length_append] at z hi0
                have z : pss.length + 1 ≤ i := z
                have hi0 : i - (pss.length + 1) = 0 := hi0
                omega
              rw [this]
              exact fW_lay tb hus t3
    · walk_at "rc"
      have h0 : ps = [] := by
        cases ps with
        | nil => rfl
        | cons a b =>
          refine absurd ?_ hng
          show (0 : Int) < (((encC (a :: b)).length : Nat) : Int)
          have : (encC (a :: b)).length = (a :: b).length := List.length_map ..
          rw [this, List.length_cons]
          omega
      have hF : fW ls.length tab us ds.length = [] := by
        rw [List.eq_nil_iff_forall_not_mem]
        intro u hu
        have := (t.k (rn tab 0 u)).mpr ⟨u, hu, rfl⟩
        rw [h0] at this
        exact nomatch this
      exact q _ _ e4 (.inr ⟨rfl, ds.length, by omega, fW_nil tb hus hF⟩)
end
section
variable (T : Txt K mg)
theorem lc_xf {σ : L2.St} {H : Hp} {Q : VK} {tt : TT} {te : TE} {J : It} {j n : Nat} {G : Hp → Prop} {Y : Nat → Hp → V → Hp → Prop} (wk : Walk J n G Y) (hG : ∀ Hc, Ex H Hc → G Hc) (hn : n < 100000) (hw : ∀ v : V, wipe ((wipe σ [j]).set j (some v)) [j] = wipe σ [j]) (keep : Nat → Bool) (f : Nat → V)
    (he : ∀ i x Hc H', i < n → Ex H Hc → Y i Hc x H' → H' = Hc ∧ (∀ N : Bool → Hp → Prop, (∀ H2, Ex Hc H2 → N (keep i) H2) → tt ((wipe σ [j]).set j (some x)) Hc N) ∧ ∀ H1, Ex Hc H1 → keep i = true → ∀ N : VK, (∀ H2, Ex H1 H2 → N (f i) H2) → te ((wipe σ [j]).set j (some x)) H1 N)
    (h : ∀ L Hc, Ex H Hc → H L = none → Hc L = some (.lst (((List.range n).filter keep).map f)) → Q (.ref L) Hc) : lcB (gName j) tt te [j] σ Q J H := by
  intro L hL
  have hz : 100000 ≤ sizeLine := by decide
  refine lc_it wk (fun i Hc => i ≤ n ∧ Ex H Hc ∧ Hc L = some (.lst (((List.range i).filter keep).map f))) ⟨Nat.zero_le _, Evl.Ex.new hL, upd_same⟩ (fun i Hc _ z => hG Hc z.2.1) (fun i x Hc H' hi z y => ?_) fun Hc z => h L Hc z.2.1 hL z.2.2
  obtain ⟨_, ec, gc⟩ := z
  obtain ⟨rfl, h1, h2⟩ := he i x Hc H' hi ec y
  have es : (List.range (i + 1)).filter keep = (List.range i).filter keep ++ (if keep i = true then [i] else []) := by
    rw [List.range_succ, List.filter_append, List.filter_cons]
    rfl
  refine ⟨hw _, h1 _ fun H1 e1 => rd_ite (fun hk => ?_) fun hk => ?_⟩
  · refine h2 H1 e1 hk _ fun H2 e2 => ⟨_, e2 _ _ (e1 _ _ gc), ?_, hi, Evl.Ex.mut ((ec.trans e1).trans e2) hL, ?_⟩
    · rw [List.length_map]
      have := List.length_filter_le keep (List.range i)
      rw [List.length_range] at this
      omega
    · rw [upd_same, es, if_pos hk, List.map_append]
      rfl
  · refine ⟨hi, ec.trans e1, ?_⟩
    rw [es, if_neg (by rw [hk]; decide), List.append_nil]
    exact e1 _ _ gc
/-- a list of integers told by a function -/
def fnL (n : Nat) (F : Nat → Int) : List V := (List.range n).map fun s => V.int (F s)
theorem fnL_len (n : Nat) (F : Nat → Int) : (fnL n F).length = n := by unfold fnL; rw [List.length_map, List.length_range]
theorem fnL_at {n s : Nat} {F : Nat → Int} (h : s < n) : (fnL n F)[s]? = some (.int (F s)) := by
  unfold fnL
  rw [List.getElem?_map, List.getElem?_range h]; rfl
theorem fnL_set {n t : Nat} {F : Nat → Int} {v : Int} : (fnL n F).set t (.int v) = fnL n fun s => if s = t then v else F s := by
  unfold fnL
  refine List.ext_getElem (by simp) fun i h1 h2 => ?_
  rw [List.getElem_set, List.getElem_map, List.getElem_range, List.getElem_map, List.getElem_range]
  by_cases e : t = i
  · rw [if_pos e]
    show _ = V.int (if i = t then v else F i)
    rw [if_pos e.symm]
  · rw [if_neg e]
    show _ = V.int (if i = t then v else F i)
    rw [if_neg (Ne.symm e)]
theorem fnL_congr {n : Nat} {F G : Nat → Int} (h : ∀ s, s < n → F s = G s) : fnL n F = fnL n G := by
  unfold fnL
  exact List.map_congr_left fun s hs => by rw [h s (List.mem_range.mp hs)]
theorem first_ways {n : Nat} (h : 0 < n) (tab : List (List Nat)) : [V.int 1] ++ ((List.range (n - 1)).map fun _ => V.int 0) = fnL n (cw tab [[]]) := by
  obtain ⟨m, rfl⟩ : ∃ m, n = m + 1 := ⟨n - 1, by omega⟩
  unfold fnL
  rw [List.range_succ_eq_map, List.map_cons, List.map_map]
  have e0 : cw tab [[]] 0 = 1 := by rw [cw_cons]; rfl
  rw [e0]
  show V.int 1 :: _ = V.int 1 :: _
  refine congrArg (V.int 1 :: ·) ?_
  rw [Nat.add_sub_cancel]
  refine List.map_congr_left fun s _ => ?_
  show V.int 0 = V.int (cw tab [[]] (s + 1))
  rw [cw_cons, if_neg (by show ¬ s + 1 = 0; omega)]
  rfl
theorem zeros_fn (n : Nat) : ((List.range n).map fun _ => V.int 0) = fnL n fun _ => 0 := rfl
/-- ways by one letter more, out of the first states and a row's front -/
def stG (tab : List (List Nat)) (F : Nat → Int) (a j : Nat) (t : Nat) : Int := ((List.range a).map fun s => F s * (((tab.getD s []).count t : Nat) : Int)).sum + F a * ((((tab.getD a []).take j).count t : Nat) : Int)
theorem stG_next {tab : List (List Nat)} {F : Nat → Int} {a w : Nat} (h : (tab.getD a []).length = w) (t : Nat) : stG tab F a w t = stG tab F (a + 1) 0 t := by
  unfold stG
  rw [List.range_succ, List.map_append, List.sum_append, ← h, List.take_length]
  simp
theorem stG_step {tab : List (List Nat)} {F : Nat → Int} {a j x : Nat} (h : (tab.getD a [])[j]? = some x) (t : Nat) : stG tab F a (j + 1) t = if t = x then stG tab F a j t + F a else stG tab F a j t := by
  unfold stG
  have tc : ((tab.getD a []).take (j + 1)).count t = ((tab.getD a []).take j).count t + if t = x then 1 else 0 := by
    rw [List.take_succ, h, List.count_append]
    congr 1
    by_cases e : t = x
    · rw [if_pos e, e]; simp
    · rw [if_neg e]
      exact List.count_eq_zero.mpr fun z => e (by simpa using z)
  rw [tc]
  by_cases e : t = x
  · rw [if_pos e, if_pos e, Int.natCast_add, Int.mul_add]
    show _ + (_ + F a * 1) = _
    omega
  · rw [if_neg e, if_neg e]; rfl
theorem stG_all {tab : List (List Nat)} {n w : Nat} (tb : Tb n w tab) {L : List (List Nat)} (hL : ∀ u ∈ L, rn tab 0 u < n) (t : Nat) : stG tab (cw tab L) n 0 t = cw tab (extW w L) t := by
  rw [cw_ext tb hL, sum_L (fun s => (((tab.getD s []).count t : Nat) : Int)) hL]
  unfold stG
  simp
theorem acc_sum {acc : List Bool} {tab : List (List Nat)} {L : List (List Nat)} {n : Nat} (hL : ∀ u ∈ L, rn tab 0 u < n) : (((List.range n).filter fun s => acc.getD s false).map (cw tab L)).sum = ((L.countP (lgW acc tab) : Nat) : Int) := by
  rw [← sum_countP (lgW acc tab) L]
  refine Eq.trans ?_ (sum_L (fun s => if acc.getD s false = true then 1 else 0) hL).symm
  have key : ∀ l : List Nat, ((l.filter fun s => acc.getD s false).map (cw tab L)).sum = (l.map fun s => cw tab L s * (if acc.getD s false = true then 1 else 0)).sum := by
    intro l
    induction l with
    | nil => rfl
    | cons a l ih =>
      rw [List.filter_cons, List.map_cons, List.sum_cons, ← ih]
      by_cases e : acc.getD a false = true
      · rw [if_pos e, if_pos e, List.map_cons, List.sum_cons, Int.mul_one]
      · rw [if_neg e, if_neg e, Int.mul_zero, Int.zero_add]
  exact key _
def spWays : Sp := fun vs H Q _ => ∃ (ls : Str) (va vt : V) (acc : List Bool) (tab : List (List Nat)) (k : Nat), vs = [.str ls, va, vt, .int (k : Int)] ∧ Dp K H va (.list (acc.map PyData.bool)) ∧ Dp K H vt (nL tab) ∧ GMw ls acc tab ∧ k ≤ 100000 ∧
  ∀ H', Ex H H' → Q (.int ((aW ls.length acc tab k : Nat) : Int)) H'
theorem ok_ways : FnOk P w K mg base CX0 1 T.a_ways T.d_ways ["letters", "accepting", "table", "length"] (spWays (K := K)) := by
  refine T.f_ways.ok sc_ways (fun vs H Q E h => ?_) (fun cdv A outer s H vs Q E hr h => ?_)
  · obtain ⟨_, _, _, _, _, _, rfl, _⟩ := h; rfl
  · obtain ⟨ls, va, vt, acc, tab, k, rfl, hA, hT, g, hk, q⟩ := h
    have hsl : 1000000 ≤ sizeLine := by decide
    have tb := gmw_tb g
    have gn := g.m.g.n
    have ge := g.m.e
    have gp := g.m.p
    refine ⟨_, (pss_cons (ps_set (i := 4) sc_ways.nd rfl (by first | exact Or.inl rfl | exact Or.inr rfl) (pe_op (kAdd K) (pe_lst (pa_cons pe_int pa_nil)) (pe_lc (own := [("k", 5)]) (g := gName 5) (tt := tYes) (by rfl) sc_ways.nd (pi_range1 (by rfl) T.nb_range (pa_cons (pe_op op_subP (pe_callB (kLen K) (by rfl) T.nb_len (by decide +kernel) (pa_cons (pv 2) pa_nil)) pe_int) pa_nil)) (blkOk_by (own := [("k", 5)]) (N := ["letters", "accepting", "table", "length", "ways", "k", "turn", "after", "at", "following"]) (sc := defScope s_ways) (by decide +kernel)) (fun _ _ _ _ _ => (pg_name (i := 5) sc_ways.nd rfl (by first | exact Or.inl rfl | exact Or.inr rfl))) (fun _ _ _ _ _ => pts_nil) (fun _ _ _ _ _ => pe_int))))
  (pss_cons (ps_for PassesOwn.never rfl (pi_range1 (by rfl) T.nb_range (pa_cons (pv 3) pa_nil)) (pg_name (i := 6) sc_ways.nd rfl (by first | exact Or.inl rfl | exact Or.inr rfl))
    (pss_cons (ps_setLc (i := 7) (own := [("k", 5)]) (g := gName 5) (tt := tYes) (by rfl) sc_ways.nd rfl rfl (sw_true rfl rfl rfl (by decide +kernel)) (pi_range1 (by rfl) T.nb_range (pa_cons (pe_callB (kLen K) (by rfl) T.nb_len (by decide +kernel) (pa_cons (pv 2) pa_nil)) pa_nil)) (blkOk_by (own := [("k", 5)]) (N := ["letters", "accepting", "table", "length", "ways", "k", "turn", "after", "at", "following"]) (sc := defScope s_ways) (by decide +kernel)) (fun _ _ _ _ _ => (pg_name (i := 5) sc_ways.nd rfl (by first | exact Or.inl rfl | exact Or.inr rfl))) (fun _ _ _ _ _ => pts_nil) (fun _ _ _ _ _ => pe_int))
  (pss_cons (ps_for PassesOwn.never rfl (pi_range1 (by rfl) T.nb_range (pa_cons (pe_callB (kLen K) (by rfl) T.nb_len (by decide +kernel) (pa_cons (pv 2) pa_nil)) pa_nil)) (pg_name (i := 8) sc_ways.nd rfl (by first | exact Or.inl rfl | exact Or.inr rfl))
    (pss_one (ps_for PassesOwn.never rfl (kAny K rfl (pe_ix (kIx K) (pv 2) (pv 8) (fun _ _ => rfl))) (pg_name (i := 9) sc_ways.nd rfl (by first | exact Or.inl rfl | exact Or.inr rfl))
    (pss_one (ps_asg (pe_op (kAdd K) (pe_ix (kIx K) (pv 7) (pv 9) (fun _ _ => rfl)) (pe_ix (kIx K) (pv 4) (pv 8) (fun _ _ => rfl))) (pg_sub (pv 7) (pv 9) set_list))))))
  (pss_one (ps_set (i := 4) sc_ways.nd rfl (by first | exact Or.inl rfl | exact Or.inr rfl) (pv 7))))))
  (pss_one (ps_ret (pe_callB (kSum K) (by rfl) T.nb_sum (by decide +kernel) (pa_cons (pe_lc (own := [("k", 5)]) (g := gName 5)  (by rfl) sc_ways.nd (pi_range1 (by rfl) T.nb_range (pa_cons (pe_callB (kLen K) (by rfl) T.nb_len (by decide +kernel) (pa_cons (pv 2) pa_nil)) pa_nil)) (blkOk_by (own := [("k", 5)]) (N := ["letters", "accepting", "table", "length", "ways", "k", "turn", "after", "at", "following"]) (sc := defScope s_ways) (by decide +kernel)) (fun _ _ _ _ _ => (pg_name (i := 5) sc_ways.nd rfl (by first | exact Or.inl rfl | exact Or.inr rfl))) (fun _ _ _ _ _ => (pts_one (pt_val (pe_ix (kIx K) (pv 1) (pv 5) (fun _ _ => rfl))))) (fun _ _ _ _ _ => (pe_ix (kIx K) (pv 4) (pv 5) (fun _ _ => rfl)))) pa_nil)))))), ?_⟩
    walk_at "rc"
    refine ⟨by show 1 ≤ sizeLine; omega, fun l1 hl1 => ?_⟩
    have e1 := Evl.Ex.new (o := .lst [.int 1]) hl1
    have h1 : upd H l1 (.lst [.int 1]) l1 = some (.lst [.int 1]) := upd_same
    generalize upd H l1 (.lst [.int 1]) = H1 at e1 h1
    walk_at "rc"
    refine rd_lenDL e1 hT ?_
    rw [List.length_map]
    walk_at "rc"
    refine ⟨_, rfl, by omega, by omega, ?_⟩
    refine lc_x (j := 5) walk_range0 (fun _ _ => True.intro) (by omega) (fun v => rfl) (fun _ => .int 0) (fun i x Hc H' hi ec y => ?_) fun L H2 e2 hL hl2 => ?_
    · obtain ⟨rfl, rfl⟩ := y
      exact ⟨rfl, fun N hN => hN _ (Evl.Ex.refl _)⟩
    walk_at "rc"
    rw [show ((tab.length : Int) - 1).toNat = acc.length - 1 by omega] at hl2
    refine rd_cat (e2 _ _ h1) hl2 (by simp; omega) fun l3 hl3 => ?_
    have e12 := e1.trans e2
    have hl3H : H l3 = none := Evl.fresh_back e12 hl3
    have e3 := ex_upd (o := .lst ([V.int 1] ++ (List.range (acc.length - 1)).map fun _ => V.int 0)) e12 hl3
    have h3 : upd H2 l3 (.lst ([V.int 1] ++ (List.range (acc.length - 1)).map fun _ => V.int 0)) l3 = some (.lst (fnL acc.length (cw tab [[]]))) := by rw [upd_same, first_ways gp]
    generalize upd H2 l3 (.lst ([V.int 1] ++ (List.range (acc.length - 1)).map fun _ => V.int 0)) = H3 at e3 h3
    walk_at "rc"
    walk_at "rs"
    walk_at "rc"
    refine ⟨_, rfl, by omega, by omega, ?_⟩
    rw [Int.toNat_natCast]
    refine fo_range (fun i σ H' => ∃ (A : Addr) (k5 k6 k7 k8 k9 : Option V), σ = [some (.str ls), some va, some vt, some (.int (k : Int)), some (.ref A), k5, k6, k7, k8, k9] ∧ Ex H H' ∧ H' A = some (.lst (fnL acc.length (cw tab (lvW ls.length i)))))
      ⟨l3, _, _, _, _, _, rfl, e3, h3⟩ ?_ ?_
    · rintro i σ H4 hi ⟨A, k5, k6, k7, k8, k9, rfl, e4, h4⟩
      have hLb : ∀ u ∈ lvW ls.length i, rn tab 0 u < acc.length := fun u hu => tb.rn (lw_lv u hu) tb.p
      walk_at "rc"
      refine rd_lenDL e4 hT ?_
      rw [List.length_map]
      refine ⟨_, rfl, by omega, by omega, ?_⟩
      rw [Int.toNat_natCast]
      refine lc_x (j := 5) walk_range0 (fun _ _ => True.intro) (by omega) (fun v => rfl) (fun _ => .int 0) (fun i x Hc H' hi ec y => ?_) fun B H5 e5 hB hB2 => ?_
      · obtain ⟨rfl, rfl⟩ := y
        exact ⟨rfl, fun N hN => hN _ (Evl.Ex.refl _)⟩
      have hBH : H B = none := Evl.fresh_back e4 hB
      have e45 := e4.trans e5
      have h5 := e5 _ _ h4
      have nAB : A ≠ B := fun z => by rw [z, hB] at h4; cases h4
      rw [zeros_fn, ge] at hB2
      walk_at "rc"
      walk_at "rs"
      walk_at "rc"
      refine rd_lenDL e45 hT ?_
      rw [List.length_map]
      refine ⟨_, rfl, by omega, by omega, ?_⟩
      rw [Int.toNat_natCast, ge]
      refine fo_range (fun a σ H' => ∃ (k5 k8 k9 : Option V), σ = [some (.str ls), some va, some vt, some (.int (k : Int)), some (.ref A), k5, some (.int (i : Int)), some (.ref B), k8, k9] ∧ Ex H H' ∧ H' A = some (.lst (fnL acc.length (cw tab (lvW ls.length i)))) ∧ H' B = some (.lst (fnL acc.length (stG tab (cw tab (lvW ls.length i)) a 0))))
        ⟨_, _, _, rfl, e45, h5, ?_⟩ ?_ ?_
      · rw [hB2]
        refine congrArg (fun l => some (HO.lst l)) (fnL_congr fun s hs => ?_)
        unfold stG
        simp
      · rintro a σ H6 ha ⟨k5, k8, k9, rfl, e6, hA6, hB6⟩
        obtain ⟨row, hr⟩ := getQ (l := tab) (i := a) (by rw [ge]; exact ha)
        have er : tab.getD a [] = row := by rw [List.getD_eq_getElem?_getD, hr]; rfl
        have hrw := g.w row (List.mem_of_getElem? hr)
        walk_at "rc"
        refine rd_anyL' ?_
        walk_at "rc"
        refine rd_ixDL e6 hT (d := .list (row.map nI)) (by rw [List.getElem?_map, hr]; rfl) fun rv hrv => ?_
        refine rd_itDL e6 hrv fun J wJ => ?_
        refine fo_D wJ (fun j σ H' => ∃ (k9 : Option V), σ = [some (.str ls), some va, some vt, some (.int (k : Int)), some (.ref A), k5, some (.int (i : Int)), some (.ref B), some (.int (a : Int)), k9] ∧ Ex H H' ∧ H' A = some (.lst (fnL acc.length (cw tab (lvW ls.length i)))) ∧ H' B = some (.lst (fnL acc.length (stG tab (cw tab (lvW ls.length i)) a j))))
          ⟨_, rfl, e6, hA6, hB6⟩ (fun _ _ _ _ ⟨_, _, z, _⟩ => z) ?_ ?_
        · rintro j dd v σ H7 hdd hv ⟨k9, rfl, e7, hA7, hB7⟩
          rw [List.getElem?_map] at hdd
          obtain ⟨x, hx, rfl⟩ := Option.map_eq_some_iff.mp hdd
          cases Dp.int_iff hv
          have hxl : x < acc.length := by
            have hj := ltQ hx
            obtain ⟨row2, x2, h1, h2, h3, h4, h5⟩ := g.at' ha (j := j) (by omega)
            rw [hr] at h1
            cases h1
            rw [hx] at h2
            cases h2
            exact h5
          walk_at "rc"
          refine rd_ixL (SqL.of hB7) (atI_nat (j := x) (fnL_at hxl)) ?_
          walk_at "rc"
          refine rd_ixL (SqL.of hA7) (atI_nat (j := a) (fnL_at ha)) ?_
          walk_at "rc"
          refine ⟨B, _, (x : Int), x, rfl, rfl, hB7, ixN_nat (by rw [fnL_len]; exact hxl), ?_⟩
          walk_at "rc"
          refine ⟨_, rfl, Evl.Ex.mut e7 hBH, by rw [upd_ne nAB]; exact hA7, ?_⟩
          rw [upd_same, fnL_set]
          refine congrArg (fun l => some (HO.lst l)) (fnL_congr fun t ht => ?_)
          rw [stG_step (by rw [er]; exact hx)]
          by_cases e : t = x
          · rw [if_pos e, if_pos e, e]
          · rw [if_neg e, if_neg e]
        · rintro σ H7 ⟨k9, rfl, e7, hA7, hB7⟩
          refine ⟨_, _, _, rfl, e7, hA7, ?_⟩
          rw [hB7, List.length_map]
          exact congrArg (fun l => some (HO.lst l)) (fnL_congr fun t ht => stG_next (by rw [er]) t)
      · rintro σ H6 ⟨k5, k8, k9, rfl, e6, hA6, hB6⟩
        walk_at "rc"
        refine ⟨B, _, _, _, _, _, rfl, e6, ?_⟩
        rw [hB6]
        exact congrArg (fun l => some (HO.lst l)) (fnL_congr fun t ht => stG_all tb hLb t)
    · rintro σ H4 ⟨A, k5, k6, k7, k8, k9, rfl, e4, h4⟩
      have hLb : ∀ u ∈ lvW ls.length k, rn tab 0 u < acc.length := fun u hu => tb.rn (lw_lv u hu) tb.p
      walk_at "rc"
      refine rd_lenDL e4 hT ?_
      rw [List.length_map]
      refine ⟨_, rfl, by omega, by omega, ?_⟩
      rw [Int.toNat_natCast, ge]
      refine lc_xf (j := 5) walk_range0 (fun _ _ => True.intro) (by omega) (fun v => rfl) (fun s => acc.getD s false) (fun s => .int (cw tab (lvW ls.length k) s)) (fun i x Hc H' hi ec y => ?_) fun L2 H5 e5 hL2 hl25 => ?_
      · obtain ⟨rfl, rfl⟩ := y
        refine ⟨rfl, fun N hN => ?_, fun H1 e1 _ N hN => ?_⟩
        · walk_at "rc"
          refine rd_ixDL (e4.trans ec) hA (i := i) (d := .bool (acc.getD i false)) (by rw [List.getElem?_map, List.getD_eq_getElem?_getD, List.getElem?_eq_getElem hi]; rfl) fun v hv => ?_
          cases Dp.bl_iff hv
          walk_at "rc"
          exact hN _ (Evl.Ex.refl _)
        · walk_at "rc"
          refine rd_ixL (SqL.of ((ec.trans e1) _ _ h4)) (atI_nat (j := i) (fnL_at hi)) ?_
          exact hN _ (Evl.Ex.refl _)
      · walk_at "rc"
        refine ⟨L2, ((List.range acc.length).filter fun s => acc.getD s false).map (cw tab (lvW ls.length k)), rfl, SqL.of (by rw [hl25, List.map_map]; rfl), ?_⟩
        rw [acc_sum hLb]
        exact q _ (e4.trans e5)
end
section
variable (T : Txt K mg)
def waZ (acc : List Bool) (tab : List (List Nat)) (m : Nat) : Nat → Int := fun s => ((wa acc tab m s : Nat) : Int)
def WAll (acc : List Bool) (tab : List (List Nat)) (H : Hp) (as : List Addr) : Prop := ∀ i a, as[i]? = some a → H a = some (.lst (fnL acc.length (waZ acc tab i)))
theorem WAll.ex {acc : List Bool} {tab : List (List Nat)} {H H' : Hp} {as : List Addr} (h : WAll acc tab H as) (e : Ex H H') : WAll acc tab H' as := fun i a z => e _ _ (h i a z)
theorem row_sum {acc : List Bool} {tab : List (List Nat)} (m : Nat) (row : List Nat) : (row.map fun t => waZ acc tab m t).sum = (((row.map fun t => wa acc tab m t).sum : Nat) : Int) := sum_castN _ row
theorem range_row {row : List Nat} {F : Nat → Int} : ((List.range row.length).map fun i => V.int (F (row.getD i 0))) = (row.map F).map V.int := by
  conv => rhs; rw [row_map (w := row.length) (row := row) rfl, List.map_map, List.map_map]
  rfl
theorem cutT {xs : List V} {j : Nat} (hj : j ≤ xs.length) : cutV xs none (some (j : Int)) = xs.take j := by
  show List.take (HT.sIx xs.length xs.length (some (j : Int)) - HT.sIx xs.length 0 none) (List.drop (HT.sIx xs.length 0 none) xs) = _
  rw [HT.sIx_nat, HT.sIx_none, Nat.min_eq_left hj, List.drop_zero, Nat.sub_zero]
theorem sumN_cast (f : Nat → Nat) (k : Nat) : ((List.range k).map fun i => ((f i : Nat) : Int)).sum = ((sumN f k : Nat) : Int) := sum_castN f _
def spBefore : Sp := fun vs H Q _ => ∃ (ls : Str) (va vt : V) (acc : List Bool) (tab : List (List Nat)) (u : List Nat), vs = [.str ls, va, vt, .str (tx ls u)] ∧ Dp K H va (.list (acc.map PyData.bool)) ∧ Dp K H vt (nL tab) ∧ GMw ls acc tab ∧ ls.cps.toList.Nodup ∧ Lw ls.length u ∧ u.length ≤ 10000 ∧
  ∀ H', Ex H H' → Q (.int ((plc ls.length acc tab u : Nat) : Int)) H'
theorem ok_before : FnOk P w K mg base CX0 1 T.a_before T.d_before ["letters", "accepting", "table", "text"] (spBefore (K := K)) := by
  refine T.f_before.ok sc_before (fun vs H Q E h => ?_) (fun cdv A outer s H vs Q E hr h => ?_)
  · obtain ⟨_, _, _, _, _, _, rfl, _⟩ := h; rfl
  · obtain ⟨ls, va, vt, acc, tab, u, rfl, hA, hT, g, nd, hu, lu, q⟩ := h
    have hsl : 1000000 ≤ sizeLine := by decide
    have tb := gmw_tb g
    have gn := g.m.g.n
    have ge := g.m.e
    have gp := g.m.p
    have tl := tx_len ls u
    refine ⟨_, (pss_cons (ps_set (i := 4) sc_before.nd rfl (by first | exact Or.inl rfl | exact Or.inr rfl) (pe_lst (pa_cons (pe_lc (own := [("each", 5)]) (g := gName 5) (tt := tYes) (by rfl) sc_before.nd (kAny K rfl (pv 1)) (blkOk_by (own := [("each", 5)]) (N := ["letters", "accepting", "table", "text", "ways", "each", "k", "following", "row", "found", "at", "place"]) (sc := defScope s_before) (by decide +kernel)) (fun _ _ _ _ _ => (pg_name (i := 5) sc_before.nd rfl (by first | exact Or.inl rfl | exact Or.inr rfl))) (fun _ _ _ _ _ => pts_nil) (fun _ _ _ _ _ => (pe_callTy call_intP (by rfl) T.nb_int (by decide +kernel) (pa_cons (pv 5) pa_nil)))) pa_nil)))
  (pss_cons (ps_for PassesOwn.never rfl (pi_range1 (by rfl) T.nb_range (pa_cons (pe_callB (kLen K) (by rfl) T.nb_len (by decide +kernel) (pa_cons (pv 3) pa_nil)) pa_nil)) (pg_name (i := 6) sc_before.nd rfl (by first | exact Or.inl rfl | exact Or.inr rfl))
    (pss_one (ps_expr (kBm K rfl (pe_bm PySem.F.plainAttrs_list PySem.F.slot_list_append PySem.F.type_list_append mt_append (pv 4) (pa_cons (pe_lc (own := [("row", 8)]) (g := gName 8) (tt := tYes) (by rfl) sc_before.nd (kAny K rfl (pv 2)) (blkOk_by (own := [("row", 8)]) (N := ["letters", "accepting", "table", "text", "ways", "each", "k", "following", "row", "found", "at", "place"]) (sc := defScope s_before) (by decide +kernel)) (fun _ _ _ _ _ => (pg_name (i := 8) sc_before.nd rfl (by first | exact Or.inl rfl | exact Or.inr rfl))) (fun _ _ _ _ _ => pts_nil) (fun _ _ _ _ _ => (pe_callB (kSum K) (by rfl) T.nb_sum (by decide +kernel) (pa_cons (pe_lc (own := [("following", 7)]) (g := gName 7) (tt := tYes) (by rfl) sc_before.nd (kAny K rfl (pv 8)) (by exact blkOk_in (N := ["letters", "accepting", "table", "text", "ways", "each", "k", "following", "row", "found", "at", "place"]) rfl (by decide +kernel)) (fun _ _ _ _ _ => (pg_name (i := 7) sc_before.nd rfl (by first | exact Or.inl rfl | exact Or.inr rfl))) (fun _ _ _ _ _ => pts_nil) (fun _ _ _ _ _ => (pe_ix (kIx K) (pe_ix (kIx K) (pv 4) (pv 6) (fun _ _ => rfl)) (pv 7) (fun _ _ => rfl)))) pa_nil)))) pa_nil))))))
  (pss_cons (ps_set (i := 9) sc_before.nd rfl (by first | exact Or.inl rfl | exact Or.inr rfl) (pe_callB (kSum K) (by rfl) T.nb_sum (by decide +kernel) (pa_cons (pe_lc (own := [("row", 8)]) (g := gName 8) (tt := tYes) (by rfl) sc_before.nd (kAny K rfl (pe_slice (kSl K) (pv 4) po_none (po_some (pe_callB (kLen K) (by rfl) T.nb_len (by decide +kernel) (pa_cons (pv 3) pa_nil))))) (blkOk_by (own := [("row", 8)]) (N := ["letters", "accepting", "table", "text", "ways", "each", "k", "following", "row", "found", "at", "place"]) (sc := defScope s_before) (by decide +kernel)) (fun _ _ _ _ _ => (pg_name (i := 8) sc_before.nd rfl (by first | exact Or.inl rfl | exact Or.inr rfl))) (fun _ _ _ _ _ => pts_nil) (fun _ _ _ _ _ => (pe_ix (kIx K) (pv 8) pe_int (fun _ _ => rfl)))) pa_nil)))
  (pss_cons (ps_set (i := 10) sc_before.nd rfl (by first | exact Or.inl rfl | exact Or.inr rfl) pe_int)
  (pss_cons (ps_for PassesOwn.never rfl (pi_range1 (by rfl) T.nb_range (pa_cons (pe_callB (kLen K) (by rfl) T.nb_len (by decide +kernel) (pa_cons (pv 3) pa_nil)) pa_nil)) (pg_name (i := 6) sc_before.nd rfl (by first | exact Or.inl rfl | exact Or.inr rfl))
    (pss_cons (ps_set (i := 11) sc_before.nd rfl (by first | exact Or.inl rfl | exact Or.inr rfl) (kBm K rfl (pe_bm PySem.F.plainAttrs_str PySem.F.slot_str_index PySem.F.type_str_index mt_strIdx (pv 0) (pa_cons (pe_ix (kIx K) (pv 3) (pv 6) (fun _ _ => rfl)) pa_nil))))
  (pss_cons (ps_set (i := 9) sc_before.nd rfl (by first | exact Or.inl rfl | exact Or.inr rfl) (pe_op (kAdd K) (pv 9) (pe_callB (kSum K) (by rfl) T.nb_sum (by decide +kernel) (pa_cons (pe_lc (own := [("following", 7)]) (g := gName 7) (tt := tYes) (by rfl) sc_before.nd (kAny K rfl (pe_slice (kSl K) (pe_ix (kIx K) (pv 2) (pv 10) (fun _ _ => rfl)) po_none (po_some (pv 11)))) (blkOk_by (own := [("following", 7)]) (N := ["letters", "accepting", "table", "text", "ways", "each", "k", "following", "row", "found", "at", "place"]) (sc := defScope s_before) (by decide +kernel)) (fun _ _ _ _ _ => (pg_name (i := 7) sc_before.nd rfl (by first | exact Or.inl rfl | exact Or.inr rfl))) (fun _ _ _ _ _ => pts_nil) (fun _ _ _ _ _ => (pe_ix (kIx K) (pe_ix (kIx K) (pv 4) (pe_op op_subP (pe_op op_subP (pe_callB (kLen K) (by rfl) T.nb_len (by decide +kernel) (pa_cons (pv 3) pa_nil)) (pv 6)) pe_int) (fun _ _ => rfl)) (pv 7) (fun _ _ => rfl)))) pa_nil))))
  (pss_one (ps_set (i := 10) sc_before.nd rfl (by first | exact Or.inl rfl | exact Or.inr rfl) (pe_ix (kIx K) (pe_ix (kIx K) (pv 2) (pv 10) (fun _ _ => rfl)) (pv 11) (fun _ _ => rfl)))))))
  (pss_one (ps_ret (pv 9)))))))), ?_⟩
    walk_at "rc"
    refine rd_anyL' ?_
    walk_at "rc"
    refine rd_itDL (Evl.Ex.refl H) hA fun J wJ => ?_
    refine lc_x (j := 5) wJ (fun _ e => e) (by rw [List.length_map]; omega) (fun v => rfl) (fun s => .int (waZ acc tab 0 s)) (fun i x Hc H' hi ec y => ?_) fun L0 H1 e1 hL0 hl1 => ?_
    · obtain ⟨rfl, dd, hdd, hx⟩ := y
      rw [List.getElem?_map] at hdd
      obtain ⟨b, hb, rfl⟩ := Option.map_eq_some_iff.mp hdd
      cases Dp.bl_iff hx
      refine ⟨rfl, fun N hN => ?_⟩
      walk_at "rc"
      refine .inr ⟨b, rfl, ?_⟩
      have := hN _ (Evl.Ex.refl _)
      have e : waZ acc tab 0 i = if b = true then 1 else 0 := by
        show (((if acc.getD i false = true then 1 else 0 : Nat)) : Int) = _
        rw [List.getD_eq_getElem?_getD, hb]
        cases b <;> rfl
      rw [← e]
      exact this
    rw [List.length_map] at hl1
    have hl1 : H1 L0 = some (.lst (fnL acc.length (waZ acc tab 0))) := hl1
    walk_at "rc"
    refine ⟨by show 1 ≤ sizeLine; omega, fun l hl => ?_⟩
    have hlH : H l = none := Evl.fresh_back e1 hl
    have e2 := ex_upd (o := .lst [V.ref L0]) e1 hl
    have h20 : upd H1 l (.lst [V.ref L0]) L0 = some (.lst (fnL acc.length (waZ acc tab 0))) := by rw [upd_ne (fun z => by rw [z, hl] at hl1; cases hl1)]; exact hl1
    have h2 : upd H1 l (.lst [V.ref L0]) l = some (.lst [V.ref L0]) := upd_same
    generalize upd H1 l (.lst [V.ref L0]) = H2 at e2 h20 h2
    walk_at "rc"
    walk_at "rs"
    walk_at "rc"
    refine rd_lenS (by rw [tl]; omega) ?_
    rw [tl]
    refine ⟨_, rfl, by omega, by omega, ?_⟩
    rw [Int.toNat_natCast]
    refine fo_range (fun k σ H' => ∃ (as : List Addr) (k5 k6 k7 k8 k9 k10 k11 : Option V), σ = [some (.str ls), some va, some vt, some (.str (tx ls u)), some (.ref l), k5, k6, k7, k8, k9, k10, k11] ∧ Ex H H' ∧ H' l = some (.lst (as.map V.ref)) ∧ as.length = k + 1 ∧ WAll acc tab H' as ∧ l ∉ as)
      ⟨[L0], _, _, _, _, _, _, _, rfl, e2, h2, rfl, fun i a h => ?_, fun z => ?_⟩ ?_ ?_
    · cases i with
      | zero =>
        have : L0 = a := by simpa using h
        rw [← this]; exact h20
      | succ i => simp at h
    · rw [List.mem_singleton.mp z, hl1] at hl; cases hl
    · rintro k σ H3 hk ⟨as, k5, k6, k7, k8, k9, k10, k11, rfl, e3, h3, las, wal, nla⟩
      obtain ⟨ak, hak⟩ := getQ (l := as) (i := k) (by omega)
      have hakL := wal k ak hak
      walk_at "rc"
      refine ⟨.inl ⟨rfl, _, SqL.of h3⟩, ?_⟩
      walk_at "rc"
      refine rd_anyL' ?_
      walk_at "rc"
      refine rd_itDL e3 hT fun J wJ => ?_
      refine lc_x (j := 8) wJ (fun Hc e => e3.trans e) (by rw [List.length_map]; omega) (fun v => rfl) (fun s => .int (waZ acc tab (k + 1) s)) (fun i x Hc H' hi ec y => ?_) fun L1 H4 e4 hL1 hl4 => ?_
      · obtain ⟨rfl, dd, hdd, hx⟩ := y
        rw [List.getElem?_map] at hdd
        obtain ⟨row, hr, rfl⟩ := Option.map_eq_some_iff.mp hdd
        have er : tab.getD i [] = row := by rw [List.getD_eq_getElem?_getD, hr]; rfl
        have hrw := g.w row (List.mem_of_getElem? hr)
        have r100 := g.m.w row (List.mem_of_getElem? hr)
        refine ⟨rfl, fun N hN => ?_⟩
        walk_at "rc"
        refine rd_anyL' ?_
        walk_at "rc"
        refine rd_itDL (e3.trans ec) hx fun J2 w2 => ?_
        refine lc_x (j := 7) w2 (fun Hc2 e => (e3.trans ec).trans e) (by rw [List.length_map]; omega) (fun v => rfl) (fun j => .int (waZ acc tab k (row.getD j 0))) (fun j x Hc2 H' hj ec2 y => ?_) fun L2 H5 e5 hL2 hl5 => ?_
        · obtain ⟨rfl, dd, hdd, hx⟩ := y
          rw [List.getElem?_map] at hdd
          obtain ⟨t, ht, rfl⟩ := Option.map_eq_some_iff.mp hdd
          cases Dp.int_iff hx
          have htl : t < acc.length := by
            rw [← ge]
            exact g.m.g.b row (List.mem_of_getElem? hr) t (List.mem_of_getElem? ht)
          refine ⟨rfl, fun N hN => ?_⟩
          have ek := ec.trans ec2
          walk_at "rc"
          refine rd_ixL (SqL.of (ek _ _ h3)) (atI_nat (j := k) (by rw [List.getElem?_map, hak]; rfl)) ?_
          walk_at "rc"
          refine rd_ixL (SqL.of (ek _ _ hakL)) (atI_nat (j := t) (fnL_at htl)) ?_
          have := hN _ (Evl.Ex.refl _)
          rw [List.getD_eq_getElem?_getD, ht] at this
          exact this
        · walk_at "rc"
          refine ⟨L2, row.map (waZ acc tab k), rfl, SqL.of (by rw [hl5, List.length_map, range_row]), ?_⟩
          have e : (row.map (waZ acc tab k)).sum = waZ acc tab (k + 1) i := by
            rw [row_sum]
            show _ = (((tab.getD i []).map fun t => wa acc tab k t).sum : Int)
            rw [er]
          rw [e]
          exact hN _ e5
      · rw [List.length_map, ge] at hl4
        have hl4 : H4 L1 = some (.lst (fnL acc.length (waZ acc tab (k + 1)))) := hl4
        have h4 := e4 _ _ h3
        walk_at "rc"
        refine ⟨l, _, _, rfl, rfl, h4, by rw [List.length_map]; omega, ?_⟩
        have nl1 : L1 ≠ l := fun z => by rw [z, h3] at hL1; cases hL1
        refine ⟨as ++ [L1], _, _, _, _, _, _, _, rfl, Evl.Ex.mut (e3.trans e4) hlH, by rw [upd_same, List.map_append]; rfl, by rw [List.length_append, las]; rfl, fun i a h => ?_, fun z => ?_⟩
        · rcases app_at h with z | ⟨z1, z2⟩
          · rw [upd_ne (fun y => nla (by rw [← y]; exact List.mem_of_getElem? z))]
            exact e4 _ _ (wal i a z)
          · rw [← z2, upd_ne nl1, z1, las]
            exact hl4
        · rcases List.mem_append.mp z with z | z
          · exact nla z
          · exact nl1 (List.mem_singleton.mp z).symm
    · rintro σ H3 ⟨as, k5, k6, k7, k8, k9, k10, k11, rfl, e3, h3, las, wal, nla⟩
      walk_at "rc"
      refine rd_anyL' ?_
      walk_at "rc"
      refine rd_lenS (by rw [tl]; omega) ?_
      rw [tl]
      walk_at "rc"
      refine .inl ⟨l, _, rfl, SqL.of h3, fun p hp => ?_⟩
      rw [cutT (by rw [List.length_map]; omega)]
      have hpH : H p = none := Evl.fresh_back e3 hp
      have e4 := ex_upd (o := .lst ((as.map V.ref).take u.length)) e3 hp
      have e34 := Evl.Ex.new (o := .lst ((as.map V.ref).take u.length)) hp
      have wal4 := wal.ex e34
      have h4 := e34 _ _ h3
      have hp4 : upd H3 p (.lst ((as.map V.ref).take u.length)) p = some (.lst ((as.map V.ref).take u.length)) := upd_same
      generalize upd H3 p (.lst ((as.map V.ref).take u.length)) = H4 at e4 e34 wal4 h4 hp4
      refine ⟨p, rfl, ⟨_, SqL.of hp4⟩, ?_⟩
      have tkl : ((as.map V.ref).take u.length).length = u.length := by rw [List.length_take, List.length_map]; omega
      refine lc_x (j := 8) walk_list (fun Hc e => SqL.of (e _ _ hp4)) (by rw [tkl]; omega) (fun v => rfl) (fun i => .int (waZ acc tab i 0)) (fun i x Hc H' hi ec y => ?_) fun L5 H5 e5 hL5 hl5 => ?_
      · obtain ⟨rfl, hx⟩ := y
        rw [tkl] at hi
        rw [List.getElem?_take, if_pos hi, List.getElem?_map] at hx
        obtain ⟨a, ha, rfl⟩ := Option.map_eq_some_iff.mp hx
        refine ⟨rfl, fun N hN => ?_⟩
        walk_at "rc"
        refine rd_ixL (SqL.of (ec _ _ (wal4 i a ha))) (atI_nat (j := 0) (fnL_at gp)) ?_
        exact hN _ (Evl.Ex.refl _)
      rw [tkl] at hl5
      walk_at "rc"
      refine ⟨L5, (List.range u.length).map fun i => waZ acc tab i 0, rfl, SqL.of (by rw [hl5, List.map_map]; rfl), ?_⟩
      have esum : ((List.range u.length).map fun i => waZ acc tab i 0).sum = ((sumN (aW ls.length acc tab) u.length : Nat) : Int) := by
        rw [← sumN_cast]
        exact congrArg List.sum (List.map_congr_left fun i _ => by rw [aW_wa tb]; rfl)
      rw [esum]
      have e45 := e4.trans e5
      have wal5 := wal4.ex e5
      have h5 := e5 _ _ h4
      walk_at "rc"
      walk_at "rs"
      walk_at "rc"
      refine rd_lenS (by rw [tl]; omega) ?_
      rw [tl]
      refine ⟨_, rfl, by omega, by omega, ?_⟩
      rw [Int.toNat_natCast]
      refine fo_range (fun k σ H' => ∃ (k5 k6 k7 k8 k11 : Option V), σ = [some (.str ls), some va, some vt, some (.str (tx ls u)), some (.ref l), k5, k6, k7, k8, some (.int ((sumN (aW ls.length acc tab) u.length + wsum acc tab (u.length - k) (lsW ls.length (u.take k)) : Nat) : Int)), some (vI (rn tab 0 (u.take k))), k11] ∧ Ex H H' ∧ H' l = some (.lst (as.map V.ref)) ∧ WAll acc tab H' as)
        ⟨_, _, _, _, _, rfl, e45, h5, wal5⟩ ?_ ?_
      · rintro k σ H6 hk ⟨k5, k6, k7, k8, k11, rfl, e6, h6, wal6⟩
        obtain ⟨j, hj⟩ := getQ (l := u) (i := k) hk
        have hjl : j < ls.length := hu j (List.mem_of_getElem? hj)
        have hul := hu.take k
        have hs : rn tab 0 (u.take k) < acc.length := tb.rn hul tb.p
        have eu : u.take (k + 1) = u.take k ++ [j] := by rw [List.take_succ, hj]; rfl
        obtain ⟨hmj, hix⟩ := idx_of nd (j := j) hjl
        obtain ⟨row, x, hr, hx, er, ex, hxl⟩ := g.at' hs hjl
        have hrw := g.w row (List.mem_of_getElem? hr)
        have r100 := g.m.w row (List.mem_of_getElem? hr)
        have eu1 : u.length - k = u.length - k - 1 + 1 := by omega
        obtain ⟨am, ham⟩ := getQ (l := as) (i := u.length - k - 1) (by omega)
        walk_at "rc"
        refine ⟨rfl, ?_⟩
        walk_at "rc"
        refine rd_ixS (c := ls.cps.toList.getD j 0) (by rw [tl]; omega) (atI_nat (j := k) (by rw [tx_list, List.getElem?_map, hj]; rfl)) ?_
        walk_at "rc"
        refine rd_idx hmj ?_
        rw [hix]
        walk_at "rc"
        refine rd_anyL' ?_
        walk_at "rc"
        refine rd_ixDL e6 hT (d := .list (row.map nI)) (by rw [List.getElem?_map, hr]; rfl) fun rv hrv => ?_
        walk_at "rc"
        refine rd_sl0L e6 hrv (by omega) fun v7 H7 e7 hv7 => ?_
        have e67 := e6.trans e7
        have h7 := e7 _ _ h6
        have wal7 := wal6.ex e7
        refine rd_itDL (Evl.Ex.refl H7) hv7 fun J2 w2 => ?_
        have l7 : ((row.take j).map nI).length = j := by rw [List.length_map, List.length_take]; omega
        refine lc_x (j := 7) w2 (fun Hc e => e) (by rw [l7]; omega) (fun v => rfl) (fun i => .int (waZ acc tab (u.length - k - 1) (dl tab (rn tab 0 (u.take k)) i))) (fun i x Hc2 H' hi ec2 y => ?_) fun L8 H8 e8 hL8 hl8 => ?_
        · obtain ⟨rfl, dd, hdd, hx⟩ := y
          rw [l7] at hi
          rw [List.getElem?_map, List.getElem?_take, if_pos hi] at hdd
          obtain ⟨t, ht, rfl⟩ := Option.map_eq_some_iff.mp hdd
          cases Dp.int_iff hx
          have htl : t < acc.length := by
            rw [← ge]
            exact g.m.g.b row (List.mem_of_getElem? hr) t (List.mem_of_getElem? ht)
          have edl : dl tab (rn tab 0 (u.take k)) i = t := by
            unfold dl
            rw [er, List.getD_eq_getElem?_getD, ht]; rfl
          refine ⟨rfl, fun N hN => ?_⟩
          walk_at "rc"
          refine rd_lenS (by rw [tl]; omega) ?_
          rw [tl]
          walk_at "rc"
          rw [show ((u.length : Nat) : Int) - (k : Int) - 1 = ((u.length - k - 1 : Nat) : Int) by omega]
          refine rd_ixL (SqL.of (ec2 _ _ h7)) (atI_nat (j := u.length - k - 1) (by rw [List.getElem?_map, ham]; rfl)) ?_
          walk_at "rc"
          refine rd_ixL (SqL.of (ec2 _ _ (wal7 _ am ham))) (atI_nat (j := t) (fnL_at htl)) ?_
          have := hN _ (Evl.Ex.refl _)
          rw [edl] at this
          exact this
        rw [l7] at hl8
        have e68 := e67.trans e8
        walk_at "rc"
        refine ⟨L8, (List.range j).map fun i => waZ acc tab (u.length - k - 1) (dl tab (rn tab 0 (u.take k)) i), rfl, SqL.of (by rw [hl8, List.map_map]; rfl), ?_⟩
        have esm : ((List.range j).map fun i => waZ acc tab (u.length - k - 1) (dl tab (rn tab 0 (u.take k)) i)).sum = ((((List.range j).map fun i => wa acc tab (u.length - k - 1) (dl tab (rn tab 0 (u.take k)) i)).sum : Nat) : Int) := sum_castN _ _
        rw [esm]
        walk_at "rc"
        refine rd_ixDL e68 hT (d := .list (row.map nI)) (by rw [List.getElem?_map, hr]; rfl) fun rv2 hrv2 => ?_
        walk_at "rc"
        refine rd_ixDL e68 hrv2 (d := nI x) (by rw [List.getElem?_map, hx]; rfl) fun v9 hv9 => ?_
        cases Dp.int_iff hv9
        walk_at "rc"
        have ev : rn tab 0 (u.take (k + 1)) = x := by rw [eu, rn_snoc, ← ex]
        have en : sumN (aW ls.length acc tab) u.length + wsum acc tab (u.length - (k + 1)) (lsW ls.length (u.take (k + 1))) = sumN (aW ls.length acc tab) u.length + wsum acc tab (u.length - k) (lsW ls.length (u.take k)) + ((List.range j).map fun i => wa acc tab (u.length - k - 1) (dl tab (rn tab 0 (u.take k)) i)).sum := by
          rw [eu, ws_snoc tb _ hul]
          have e1 : u.length - (k + 1) + 1 = u.length - k := by omega
          have e2 : u.length - (k + 1) = u.length - k - 1 := by omega
          rw [e1, e2, Nat.add_assoc]
        refine ⟨k5, some (.int (k : Int)), k7, k8, some (vI j), ?_, e68, e8 _ _ h7, wal7.ex e8⟩
        rw [en, ev, Int.natCast_add]
        rfl
      · rintro σ H6 ⟨k5, k6, k7, k8, k11, rfl, e6, h6, wal6⟩
        walk_at "rc"
        rw [Nat.sub_self, List.take_length, ← plc_ws]
        exact q _ e6
end
section
variable (T : Txt K mg)
/-! ### drawn machines -/
def partsN (acc : List Bool) (tab : List (List Nat)) : PyData := .tuple [.list (acc.map PyData.bool), nL tab]
def spParts : Sp := fun vs H Q _ => ∃ (p : Addr) (ls : Str) (most : Nat) (S : List Addr), vs = [.str ls, .ref p, .int (most : Int)] ∧ 0 < ls.length ∧ ls.length ≤ 10 ∧ 0 < most ∧ most ≤ 10 ∧ StAt H p ∧ p ∈ S ∧ (∀ b ∈ S, ∃ o, H b = some o) ∧
  ∀ (v : V) (acc : List Bool) (tab : List (List Nat)) (H' : Hp), Dp K (hid S H') v (partsN acc tab) → GM acc tab → acc.length ≤ most → (∀ row ∈ tab, row.length = ls.length) → Dr p H H' → Q v H'
theorem ok_parts : FnOk P w K mg base CX0 3 T.a_parts T.d_parts ["letters", "state", "most"] (spParts (K := K)) := by
  refine T.f_parts.ok sc_parts (fun vs H Q E h => ?_) (fun cdv A outer s H vs Q E hr h => ?_)
  · obtain ⟨_, _, _, _, rfl, _⟩ := h; rfl
  · obtain ⟨p, ls, most, S, rfl, l0, l1, m0, m1, hS, hp, hs, q⟩ := h
    refine ⟨_, (pss_cons (ps_set (i := 3) sc_parts.nd rfl (by first | exact Or.inl rfl | exact Or.inr rfl) (pe_op (kAdd K) pe_int (pe_callE (ok_next T) (hr.mono (by decide)) T.o_next (pa_cons (pv 1) (pa_cons (pv 2) pa_nil)))))
  (pss_cons (ps_setLc (i := 4) (own := [("k", 5)]) (g := gName 5) (tt := tYes) (by rfl) sc_parts.nd rfl rfl (sw_true rfl rfl rfl (by decide +kernel)) (pi_range1 (by rfl) T.nb_range (pa_cons (pv 3) pa_nil)) (blkOk_by (own := [("k", 5)]) (N := ["letters", "state", "most", "many", "accepting", "k", "table", "letter"]) (sc := defScope s_parts) (by decide +kernel)) (fun _ _ _ _ _ => (pg_name (i := 5) sc_parts.nd rfl (by first | exact Or.inl rfl | exact Or.inr rfl))) (fun _ _ _ _ _ => pts_nil) (fun _ _ _ _ _ => (pe_cmpR (kEq K rfl hr.units) (pe_callE (ok_next T) (hr.mono (by decide)) T.o_next (pa_cons (pv 1) (pa_cons pe_int pa_nil))) pe_int (by first | rfl | exact nomark _))))
  (pss_cons (ps_setLc (i := 6) (own := [("k", 5)]) (g := gName 5) (tt := tYes) (by rfl) sc_parts.nd rfl rfl (sw_true rfl rfl rfl (by decide +kernel)) (pi_range1 (by rfl) T.nb_range (pa_cons (pv 3) pa_nil)) (blkOk_by (own := [("k", 5)]) (N := ["letters", "state", "most", "many", "accepting", "k", "table", "letter"]) (sc := defScope s_parts) (by decide +kernel)) (fun _ _ _ _ _ => (pg_name (i := 5) sc_parts.nd rfl (by first | exact Or.inl rfl | exact Or.inr rfl))) (fun _ _ _ _ _ => pts_nil) (fun _ _ _ _ _ => (pe_lc (own := [("letter", 7)]) (g := gName 7) (tt := tYes) (by rfl) sc_parts.nd (kAny K rfl (pv 0)) (by exact blkOk_in (N := ["letters", "state", "most", "many", "accepting", "k", "table", "letter"]) rfl (by decide +kernel)) (fun _ _ _ _ _ => (pg_name (i := 7) sc_parts.nd rfl (by first | exact Or.inl rfl | exact Or.inr rfl))) (fun _ _ _ _ _ => pts_nil) (fun _ _ _ _ _ => (pe_callE (ok_next T) (hr.mono (by decide)) T.o_next (pa_cons (pv 1) (pa_cons (pv 3) pa_nil)))))))
  (pss_one (ps_ret (pe_tup (pa_cons (pv 4) (pa_cons (pv 6) pa_nil)))))))), ?_⟩
    walk_at "rc"
    refine ⟨p, most, rfl, by omega, hS, fun n0 H1 r0 r1 S1 o1 i1 => ?_⟩
    have d1 : Dr p H H1 := ⟨S1, o1, i1.2⟩
    obtain ⟨n1, rfl⟩ := Int.eq_ofNat_of_zero_le r0
    have en : (1 : Int) + (n1 : Int) = ((1 + n1 : Nat) : Int) := by omega
    refine rd_addI ?_
    rw [en]
    have hn : 1 + n1 ≤ 10 := by omega
    have hn0 : 1 + n1 ≤ most := by omega
    generalize hnn : 1 + n1 = n at hn hn0
    have n0 : 0 < n := by omega
    have hs1 : ∀ b ∈ S, ∃ o, H1 b = some o := fun b hb => d1.st' (hs b hb)
    walk_at "rc"
    refine ⟨(n : Int), rfl, by omega, by omega, ?_⟩
    rw [Int.toNat_natCast]
    refine lc_R (K := K) (S := S) (P := fun i x => x = V.int (i : Nat)) (tr_dr S1 hp) hs1 walk_range0 rng_Y (by omega) (fun _ _ => True.intro) (fun i d => ∃ b : Bool, d = .bool b ∧ True) (hg_name fun v => rfl) (fun L i σ2 Hc hi p2 hL nL dc hs up N hN => ?_) fun Lf uf H2 ds d2 hLf nLf huf hdf hlf hRf => ?_
    · obtain ⟨v, rfl, rfl⟩ := p2
      walk_at "rc"
      refine ⟨p, 3, rfl, by decide, dc.st, fun r H3 q0 q1 S3 o3 i3 => ?_⟩
      have d3 : Dr p Hc H3 := ⟨S3, o3, i3.2⟩
      walk_at "rc"
      exact hN _ _ _ d3 (.bl _) ⟨_, rfl, True.intro⟩
    obtain ⟨acc, rfl, _⟩ := map_ofD (f := PyData.bool) ds hRf
    rw [List.length_map] at hlf
    have dH2 := d1.trans d2
    have S2 := d2.st
    have hs2 : ∀ b ∈ S, ∃ o, H2 b = some o := fun b hb => d2.st' (hs1 b hb)
    have fF : Dp K (hid S H2) (.ref Lf) (.list (acc.map PyData.bool)) := Dp.frz huf nLf hdf
    walk_at "rc"
    refine ⟨(n : Int), rfl, by omega, by omega, ?_⟩
    rw [Int.toNat_natCast]
    refine lc_R (K := K) (S := S) (P := fun i x => x = V.int (i : Nat)) (tr_dr S2 hp) hs2 walk_range0 rng_Y (by omega) (fun _ _ => True.intro) (fun i d => ∃ row : List Nat, d = .list (row.map nI) ∧ row.length = ls.length ∧ ∀ x ∈ row, x < n) (hg_name fun v => rfl) (fun L i σ2 Hc hi p2 hL nL dc hsL up N hN => ?_) fun Lt ut H3 ds d3 hLt nLt hut hdt hlt hRt => ?_
    · obtain ⟨v, rfl, rfl⟩ := p2
      have hp1 : p ∈ L :: S := List.mem_cons_of_mem _ hp
      walk_at "rc"
      refine rd_anyS (fun Q q => ⟨_, rfl, q⟩) ?_
      refine lc_R (K := K) (S := L :: S) (P := fun i x => ∃ c, ls.cps.toList[i]? = some c ∧ x = V.str ⟨#[c]⟩) (tr_dr dc.st hp1) hsL walk_str str_Y (by show ls.length < 100000; omega) (fun _ _ => True.intro) (fun i d => ∃ x : Nat, d = nI x ∧ x < n) (hg_name fun v => rfl) (fun L2 i σ2 Hc2 hi2 p2 hL2 nL2 dc2 hsL2 up2 N2 hN2 => ?_) fun Lr ur H4 ds d4 hLr nLr hur hdr hlr hRr => ?_
      · obtain ⟨v, ⟨c, _, rfl⟩, rfl⟩ := p2
        walk_at "rc"
        refine ⟨p, (n : Int), rfl, by omega, dc2.st, fun r H5 q0 q1 S5 o5 i5 => ?_⟩
        have d5 : Dr p Hc2 H5 := ⟨S5, o5, i5.2⟩
        obtain ⟨x, rfl⟩ := Int.eq_ofNat_of_zero_le q0
        exact hN2 _ _ _ d5 (.int _) ⟨x, rfl, by omega⟩
      · obtain ⟨row, rfl, hrow⟩ := map_ofD (f := nI) ds hRr
        rw [List.length_map] at hlr
        exact hN _ _ _ d4 (Dp.frz hur nLr hdr) ⟨row, rfl, hlr, hrow⟩
    obtain ⟨tab, rfl, htab⟩ := map_ofD (f := fun row : List Nat => PyData.list (row.map nI)) ds hRt
    rw [List.length_map] at hlt
    have fT : Dp K (hid S H3) (.ref Lt) (nL tab) := Dp.frz hut nLt hdt
    have dH3 := dH2.trans d3
    walk_at "rc"
    refine ⟨by show 2 ≤ sizeLine; decide, fun qa hqa => ?_⟩
    have nq : qa ∉ S := notin_of (fun b hb => d3.st' (hs2 b hb)) hqa
    have hD : Dp K (hid S (upd H3 qa (.tup [.ref Lf, .ref Lt]))) (.ref qa) (partsN acc tab) := Dp.newT hqa nq (.cons (fF.ex (d3.kp hp).ex) (.cons fT .nil))
    refine q _ acc tab _ hD ⟨by omega, by omega, ⟨by omega, fun row hr x hx => ?_⟩, fun row hr => ?_⟩ (by omega) (fun row hr => (htab row hr).1) (dH3.put hS (dH3.back hS hqa))
    · have := (htab row hr).2 x hx
      omega
    · have := (htab row hr).1
      omega
end
section
/-! ### all texts of few letters, in order -/
theorem len_lvW (w : Nat) : ∀ n, (lvW w n).length = w ^ n
  | 0 => rfl
  | n + 1 => by
    show ((lvW w n).flatMap _).length = _
    rw [List.length_flatMap, Nat.pow_succ, ← len_lvW w n]
    generalize lvW w n = l
    induction l with
    | nil => simp
    | cons u l ih => rw [List.map_cons, List.sum_cons, ih, List.length_map, List.length_range, List.length_cons, Nat.succ_mul]; omega
theorem len_rowsW {w b : Nat} (hw : w ≤ b) (b0 : 0 < b) : ∀ n, (rowsW w n).length ≤ (n + 1) * b ^ n
  | 0 => by show 1 ≤ _; simp
  | n + 1 => by
    show (rowsW w n ++ lvW w (n + 1)).length ≤ _
    rw [List.length_append, len_lvW]
    have h1 := len_rowsW hw b0 n
    have h2 : w ^ (n + 1) ≤ b ^ (n + 1) := Nat.pow_le_pow_left hw _
    have h3 : (n + 1) * b ^ n ≤ (n + 1) * b ^ (n + 1) := Nat.mul_le_mul_left _ (Nat.pow_le_pow_right b0 (Nat.le_succ n))
    rw [Nat.succ_mul (n + 1)]
    omega
theorem map_getD {α β : Type} (l : List α) (d : α) (f : α → β) : (List.range l.length).map (fun j => f (l.getD j d)) = l.map f := by
  refine List.ext_getElem (by simp) fun i h1 h2 => ?_
  rw [List.getElem_map, List.getElem_range, List.getElem_map, List.getD_eq_getElem?_getD, List.getElem?_eq_getElem (by simpa using h2)]
  rfl
theorem longer (ls : Str) (u : List Nat) : (ls.cps.toList.map fun c => tx ls u ++ (⟨#[c]⟩ : Str)) = ((List.range ls.length).map fun j => u ++ [j]).map (tx ls) := by
  rw [List.map_map, ← map_getD ls.cps.toList 0 fun c => tx ls u ++ (⟨#[c]⟩ : Str)]
  refine List.map_congr_left fun j _ => ?_
  show _ = tx ls (u ++ [j])
  rw [tx_snoc]
def spTextsX : Sp := fun vs H Q _ => ∃ (ls : Str) (most b : Nat), vs = [.str ls, .int (most : Int)] ∧ ls.length ≤ b ∧ 0 < b ∧ b ≤ 3 ∧ most ≤ 9 ∧ ∀ (p : Addr) (H' : Hp), Ex H H' → H' p = some (.lst (((rowsW ls.length most).map (tx ls)).map V.str)) → Q (.ref p) H'
theorem pow_le3 {l k m : Nat} (h : l ≤ 3) (hk : k ≤ m) : l ^ k ≤ 3 ^ m := Nat.le_trans (Nat.pow_le_pow_left h k) (Nat.pow_le_pow_right (by decide) hk)
theorem ok_texts (T : Txt K mg) : FnOk P w K mg base CX0 1 T.a_texts T.d_texts ["letters", "most"] spTextsX := by
  refine T.f_texts.ok sc_texts (fun vs H Q E h => ?_) (fun cdv A outer s H vs Q E hr h => ?_)
  · obtain ⟨_, _, _, rfl, _⟩ := h; rfl
  · obtain ⟨ls, most, b, rfl, lb, b0, b3, m9, q⟩ := h
    have l3 : ls.length ≤ 3 := Nat.le_trans lb b3
    have sl : sizeLine ≥ 1000000 := by decide
    have p9 : (3 : Nat) ^ 9 = 19683 := by decide
    have lvB : ∀ k, k ≤ 9 → (lvW ls.length k).length ≤ 19683 := fun k hk => by rw [len_lvW, ← p9]; exact pow_le3 l3 hk
    have rowB : ∀ k, k ≤ 9 → (rowsW ls.length k).length ≤ 10 * 19683 := fun k hk => Nat.le_trans (len_rowsW lb b0 k) (Nat.mul_le_mul (by omega) (p9 ▸ pow_le3 b3 hk))
    refine ⟨_, (pss_cons (ps_set (i := 2) sc_texts.nd rfl (by first | exact Or.inl rfl | exact Or.inr rfl) (pe_lst (pa_cons pe_str pa_nil)))
  (pss_cons (ps_set (i := 3) sc_texts.nd rfl (by first | exact Or.inl rfl | exact Or.inr rfl) (pe_lst (pa_cons pe_str pa_nil)))
  (pss_cons (ps_for PassesOwn.never rfl (pi_range1 (by rfl) T.nb_range (pa_cons (pv 1) pa_nil)) (pg_name (i := 4) sc_texts.nd rfl (by first | exact Or.inl rfl | exact Or.inr rfl))
    (pss_cons (ps_set (i := 5) sc_texts.nd rfl (by first | exact Or.inl rfl | exact Or.inr rfl) (pe_lst pa_nil))
  (pss_cons (ps_for PassesOwn.never rfl (kAny K rfl (pv 2)) (pg_name (i := 6) sc_texts.nd rfl (by first | exact Or.inl rfl | exact Or.inr rfl))
    (pss_one (ps_set (i := 5) sc_texts.nd rfl (by first | exact Or.inl rfl | exact Or.inr rfl) (pe_op (kAdd K) (pv 5) (pe_lc (own := [("letter", 7)]) (g := gName 7) (tt := tYes) (by rfl) sc_texts.nd (kAny K rfl (pv 0)) (blkOk_by (own := [("letter", 7)]) (N := ["letters", "most", "last", "rows", "k", "longer", "text", "letter"]) (sc := defScope s_texts) (by decide +kernel)) (fun _ _ _ _ _ => (pg_name (i := 7) sc_texts.nd rfl (by first | exact Or.inl rfl | exact Or.inr rfl))) (fun _ _ _ _ _ => pts_nil) (fun _ _ _ _ _ => (pe_op (kAdd K) (pv 6) (pv 7))))))))
  (pss_cons (ps_set (i := 2) sc_texts.nd rfl (by first | exact Or.inl rfl | exact Or.inr rfl) (pv 5))
  (pss_one (ps_set (i := 3) sc_texts.nd rfl (by first | exact Or.inl rfl | exact Or.inr rfl) (pe_op (kAdd K) (pv 3) (pv 2))))))))
  (pss_one (ps_ret (pv 3)))))), ?_⟩
    walk_at "rc"
    refine ⟨by decide, fun p1 hp1 => ?_⟩
    have e1 : Ex H (upd H p1 (.lst [.str ""])) := Evl.Ex.new hp1
    have h1 : upd H p1 (.lst [.str ""]) p1 = some (.lst (((lvW ls.length 0).map (tx ls)).map V.str)) := upd_same
    generalize upd H p1 (.lst [.str ""]) = H1 at e1 h1
    walk_at "rc"
    refine ⟨by decide, fun p2 hp2 => ?_⟩
    have e2 : Ex H1 (upd H1 p2 (.lst [.str ""])) := Evl.Ex.new hp2
    have h2 : upd H1 p2 (.lst [.str ""]) p2 = some (.lst (((rowsW ls.length 0).map (tx ls)).map V.str)) := upd_same
    generalize upd H1 p2 (.lst [.str ""]) = H2 at e2 h2
    walk_at "rc"
    walk_at "rs"
    walk_at "rc"
    refine ⟨(most : Int), rfl, by omega, by omega, fo_range (n := (most : Int).toNat) (fun k σ H' => ∃ (la ro : Addr) (k4 k5 k6 k7 : Option V), σ = [some (.str ls), some (.int (most : Int)), some (.ref la), some (.ref ro), k4, k5, k6, k7] ∧ Ex H H' ∧ H' la = some (.lst (((lvW ls.length k).map (tx ls)).map V.str)) ∧ H' ro = some (.lst (((rowsW ls.length k).map (tx ls)).map V.str)))
      ⟨p1, p2, _, _, _, _, rfl, e1.trans e2, e2 _ _ h1, h2⟩ ?_ ?_⟩
    · rintro k σ H3 hk ⟨la, ro, k4, k5, k6, k7, rfl, e3, hla, hro⟩
      have hk9 : k < 9 := by omega
      walk_at "rc"
      refine ⟨by decide, fun lo hlo => ?_⟩
      have e4 : Ex H3 (upd H3 lo (.lst [])) := Evl.Ex.new hlo
      have h4 : upd H3 lo (.lst []) lo = some (.lst (([] : List Str).map V.str)) := upd_same
      generalize upd H3 lo (.lst []) = H4 at e4 h4
      walk_at "rc"
      walk_at "rs"
      walk_at "rc"
      refine rd_anyL (fun Q q => ⟨_, rfl, q⟩) (SqL.of (e4 _ _ hla)) (fo_list (fun i σ H' => ∃ (lo : Addr) (k6 k7 : Option V), σ = [some (.str ls), some (.int (most : Int)), some (.ref la), some (.ref ro), some (.int (k : Nat)), some (.ref lo), k6, k7] ∧ Ex H3 H' ∧ H' lo = some (.lst (((((lvW ls.length k).take i).flatMap fun u => (List.range ls.length).map fun j => u ++ [j]).map (tx ls)).map V.str)) ∧
          (((lvW ls.length k).take i).flatMap fun u => (List.range ls.length).map fun j => u ++ [j]).length ≤ i * 3)
        ⟨lo, _, _, rfl, e4, h4, by simp⟩ (fun i σ H' _ ⟨_, _, _, _, e, _⟩ => SqL.of (e _ _ hla)) ?_ ?_)
      · rintro i x σ H5 hi ⟨lo, k6, k7, rfl, e5, hlo5, lu⟩
        rw [List.getElem?_map, List.getElem?_map] at hi
        obtain ⟨t, ht, rfl⟩ := Option.map_eq_some_iff.mp hi
        obtain ⟨u, hu, rfl⟩ := Option.map_eq_some_iff.mp ht
        have hul := (mem_lvW.mp (List.mem_of_getElem? hu)).2
        have hiw := (List.getElem?_eq_some_iff.mp hu).1
        have hi9 := lvB k (by omega)
        walk_at "rc"
        refine rd_anyS (fun Q q => ⟨_, rfl, q⟩) ?_
        refine lc_F (K := K) (S := []) (P := fun i x => ∃ c, ls.cps.toList[i]? = some c ∧ x = V.str ⟨#[c]⟩) tr_ex (fun b hb => nomatch hb) walk_str str_Y (by show ls.length < 100000; omega) (fun _ _ => True.intro) (fun _ => true) (fun i => .str (tx ls u ++ (⟨#[ls.cps.toList.getD i 0]⟩ : Str))) (hg_name fun v => rfl) (fun L i σ2 Hc hi p2 hL nL t1 hs1 up N hN => rd_yes (hN Hc (Evl.Ex.refl Hc))) (fun L i σ2 Hc hi p2 hp2 hL nL t1 hs1 up N hN => ?_) fun L vs H6 e6 hL nL hvs hds => ?_
        · obtain ⟨x, ⟨c, hc, rfl⟩, rfl⟩ := p2
          walk_at "rc"
          have e : ls.cps.toList.getD i 0 = c := by rw [List.getD_eq_getElem?_getD, hc]; rfl
          refine rd_addS (x := tx ls u) (y := ⟨#[c]⟩) (by show (tx ls u).length + 1 ≤ sizeLine; rw [tx_len]; omega) ?_
          refine hN _ Hc (Evl.Ex.refl Hc) ?_
          rw [e]
          exact .str _
        · have ev : ((List.range ls.cps.size).filter (fun _ => true)).map (fun i => PyData.str (tx ls u ++ (⟨#[ls.cps.toList.getD i 0]⟩ : Str))) = (((List.range ls.length).map fun j => u ++ [j]).map (tx ls)).map PyData.str := by
            rw [List.filter_eq_self.mpr (fun _ _ => rfl), ← longer, List.map_map]
            exact map_getD ls.cps.toList 0 fun c => PyData.str (tx ls u ++ (⟨#[c]⟩ : Str))
          rw [ev] at hds
          have ee := dp_strs hds
          subst ee
          have snoc : ((lvW ls.length k).take (i + 1)).flatMap (fun u => (List.range ls.length).map fun j => u ++ [j]) = ((lvW ls.length k).take i).flatMap (fun u => (List.range ls.length).map fun j => u ++ [j]) ++ (List.range ls.length).map fun j => u ++ [j] := by
            rw [List.take_succ, hu, List.flatMap_append]
            simp
          refine rd_cat (e6 _ _ hlo5) hvs (by simp only [List.length_map, List.length_range]; omega) fun p7 hp7 => ?_
          walk_at "rc"
          refine ⟨p7, _, _, rfl, ex_upd (e5.trans e6) hp7, by rw [upd_same, snoc, List.map_append, List.map_append], ?_⟩
          rw [snoc, List.length_append, List.length_map, List.length_range]
          omega
      · rintro σ H5 ⟨lo, k6, k7, rfl, e5, hlo5, lu⟩
        rw [List.length_map, List.length_map, List.take_length] at hlo5 lu
        walk_at "rc"
        have hro5 := e5 _ _ hro
        have b1 := rowB k (by omega)
        have b2 := lvB (k + 1) (by omega)
        refine rd_cat hro5 hlo5 (by rw [List.length_map, List.length_map, List.length_map, List.length_map]; show _ + (lvW ls.length (k + 1)).length ≤ _; omega) fun p6 hp6 => ?_
        walk_at "rc"
        refine ⟨lo, p6, _, _, _, _, rfl, ex_upd (e3.trans e5) hp6, at_upd hp6 hlo5, ?_⟩
        rw [upd_same]
        show _ = some (HO.lst (((rowsW ls.length k ++ lvW ls.length (k + 1)).map (tx ls)).map V.str))
        rw [List.map_append, List.map_append]
        rfl
    · rintro σ H3 ⟨la, ro, k4, k5, k6, k7, rfl, e3, hla, hro⟩
      rw [Int.toNat_natCast] at hro
      walk_at "rc"
      exact q ro H3 e3 hro
end
section
/-! ### what the law keeps -/
theorem stAt_hidT {p : Addr} {H : Hp} (s : StAt H p) : ∀ b ∈ [p], (∃ C dx fs, H b = some (.ins C dx fs)) ∨ ∃ xs, H b = some (.lst xs) := fun b hb => by
  obtain ⟨l, ns, pl, h1, _⟩ := s
  rw [List.mem_singleton.mp hb]
  exact .inr ⟨_, h1⟩
theorem nT_no {tab : List (List Nat)} : noList (nT tab) = true := by
  refine noList_all fun d hd => ?_
  obtain ⟨row, _, rfl⟩ := List.mem_map.mp hd
  refine noList_all fun d hd => ?_
  obtain ⟨b, _, rfl⟩ := List.mem_map.mp hd
  rfl
theorem bools_no {acc : List Bool} : noList (.tuple (acc.map PyData.bool)) = true := by
  refine noList_all fun d hd => ?_
  obtain ⟨b, _, rfl⟩ := List.mem_map.mp hd
  rfl
theorem machD_hidP {C m p : Addr} {H : Hp} {ls : Str} {acc : List Bool} {tab : List (List Nat)} (M : MachD K C H m ls acc tab) (s : StAt H p) : MachD K C (hid [p] H) m ls acc tab := by
  obtain ⟨dx, ta, tt, h1, h2, h3⟩ := M
  obtain ⟨l, ns, pl, g1, _⟩ := id s
  refine ⟨dx, ta, tt, ?_, Dp.hidT (stAt_hidT s) _ bools_no h2, Dp.hidT (stAt_hidT s) _ nT_no h3⟩
  rw [hid_at fun z => ?_]
  · exact h1
  · rw [List.mem_singleton.mp z, g1] at h1; cases h1
structure Kq (T : Txt K mg) (p x : Addr) (va vt : V) (ls : Str) (acc : List Bool) (tab : List (List Nat)) (H : Hp) : Prop where
  s : StAt H p
  a : Dp K (hid [p] H) va (.list (acc.map PyData.bool))
  t : Dp K (hid [p] H) vt (nL tab)
  m : MachD K T.C_Machine (hid [p] H) x ls acc tab
section
variable {T : Txt K mg} {p x : Addr} {va vt : V} {ls : Str} {acc : List Bool} {tab : List (List Nat)} {H H' : Hp}
theorem Kq.ex (h : Kq T p x va vt ls acc tab H) (e : Ex H H') : Kq T p x va vt ls acc tab H' := ⟨h.s.ex e, h.a.ex (Ex.hid e), h.t.ex (Ex.hid e), h.m.ex (Ex.hid e)⟩
theorem Kq.dr (h : Kq T p x va vt ls acc tab H) (d : Dr p H H') : Kq T p x va vt ls acc tab H' :=
  ⟨d.st, h.a.ex (d.kp (S := [p]) List.mem_cons_self).ex, h.t.ex (d.kp (S := [p]) List.mem_cons_self).ex, h.m.ex (d.kp (S := [p]) List.mem_cons_self).ex⟩
theorem Kq.A (h : Kq T p x va vt ls acc tab H) : Dp K H va (.list (acc.map PyData.bool)) := h.a.ex hid_ex
theorem Kq.T' (h : Kq T p x va vt ls acc tab H) : Dp K H vt (nL tab) := h.t.ex hid_ex
theorem Kq.M (h : Kq T p x va vt ls acc tab H) : MachD K T.C_Machine H x ls acc tab := h.m.ex hid_ex
end
end
section
variable {w : Nat} {acc : List Bool} {tab : List (List Nat)}
theorem rows_len_count : ∀ {m l : Nat}, l ≤ m → ((rowsW w m).countP fun u => lgW acc tab u && decide (u.length = l)) = aW w acc tab l := by
  have lvl : ∀ k l, ((lvW w k).countP fun u => lgW acc tab u && decide (u.length = l)) = if k = l then aW w acc tab l else 0 := by
    intro k l
    by_cases e : k = l
    · rw [if_pos e]
      unfold aW
      rw [← e]
      refine List.countP_congr fun u hu => ?_
      rw [Bool.and_eq_true, decide_eq_true_eq]
      exact ⟨fun z => z.1, fun z => ⟨z, (mem_lvW.mp hu).2⟩⟩
    · rw [if_neg e, List.countP_eq_zero]
      intro u hu z
      rw [Bool.and_eq_true, decide_eq_true_eq] at z
      exact e ((mem_lvW.mp hu).2.symm.trans z.2)
  have big : ∀ m l, m < l → ((rowsW w m).countP fun u => lgW acc tab u && decide (u.length = l)) = 0 := by
    intro m l h
    rw [List.countP_eq_zero]
    intro u hu z
    rw [Bool.and_eq_true, decide_eq_true_eq] at z
    have := (mem_rowsW.mp hu).2
    omega
  intro m l h
  induction m with
  | zero =>
    have e := lvl 0 l
    rw [if_pos (by omega)] at e
    exact e
  | succ m ih =>
    show List.countP _ (rowsW w m ++ lvW w (m + 1)) = _
    rw [List.countP_append, lvl]
    by_cases e : m + 1 = l
    · rw [if_pos e, big m l (by omega), Nat.zero_add]
    · rw [if_neg e, ih (by omega), Nat.add_zero]
theorem sumN_const {f : Nat → Nat} {k : Nat} (h : ∀ k', k ≤ k' → f k' = 0) : ∀ m, sumN f m ≤ sumN f k := by
  intro m
  rcases Nat.le_total m k with z | z
  · exact sumN_mono f z
  · induction z with
    | refl => exact Nat.le_refl _
    | step z ih =>
      rw [sumN_succ, h _ z]
      exact ih
end
section
variable (T : Txt K mg)
abbrev lvLaw := 10
def spLaw (K : PySem.W.Frag) : Sp := fun vs H Q _ => ∃ (a : Addr) (ns : List Int), vs = [.ref a] ∧ SqL K H a (ns.map V.int) ∧ ns.length ≤ 63 ∧ ∀ H', Q (.bl true) H'
theorem rd_ite46 {l : Nat} {σ : L2.St} {H : Hp} {Q : VK} (h : ∀ n : Nat, n ≤ 6 → Q (.int (n : Int)) H) : if decide ((l : Int) = 3) = true then tC (.int 4) σ H Q else tC (.int 6) σ H Q := by
  by_cases e : (l : Int) = 3
  · rw [decide_eq_true e]
    exact rd_iteT (h 4 (by decide))
  · rw [decide_eq_false e]
    exact rd_iteF (h 6 (by decide))
theorem ok_law : FnOk P w K mg base CX0 lvLaw T.a_law T.d_law ["script"] (spLaw K) := by
  refine T.f_law.ok sc_law (fun vs H Q E h => ?_) (fun cdv A outer s H vs Q E hr h => ?_)
  · obtain ⟨_, _, rfl, _⟩ := h; rfl
  · obtain ⟨a, ns, rfl, hs, hn, q⟩ := h
    have sz : 1000000 ≤ sizeLine := by decide
    refine ⟨_, (pss_cons (ps_set (i := 1) sc_law.nd rfl (by first | exact Or.inl rfl | exact Or.inr rfl) (pe_callE (ok_state T) (hr.mono (by decide)) T.o_state (pa_cons (pv 0) (pa_cons pe_int (pa_cons pe_int pa_nil)))))
  (pss_cons (ps_set (i := 2) sc_law.nd rfl (by first | exact Or.inl rfl | exact Or.inr rfl) (pe_callE (ok_letters T) (hr.mono (by decide)) T.o_letters (pa_cons (pv 1) (pa_cons pe_int pa_nil))))
  (pss_cons (ps_set (i := 3) sc_law.nd rfl (by first | exact Or.inl rfl | exact Or.inr rfl) (pe_ifExp (pt_cmpR (kEq K rfl hr.units) (pe_callB (kLen K) (by rfl) T.nb_len (by decide +kernel) (pa_cons (pv 2) pa_nil)) pe_int (by first | rfl | exact nomark _)) pe_int pe_int))
  (pss_cons (ps_asg (pe_callE (ok_parts T) (hr.mono (by decide)) T.o_parts (pa_cons (pv 2) (pa_cons (pv 1) (pa_cons pe_int pa_nil)))) (kGt K rfl (pg_tup (n := 2) (by rfl) (pgs_cons (pg_name (i := 4) sc_law.nd rfl (by first | exact Or.inl rfl | exact Or.inr rfl)) (pgs_cons (pg_name (i := 5) sc_law.nd rfl (by first | exact Or.inl rfl | exact Or.inr rfl)) pgs_nil)))))
  (pss_cons (ps_set (i := 6) sc_law.nd rfl (by first | exact Or.inl rfl | exact Or.inr rfl) (pe_makeR T.mk_Machine (ok_Machine_init T) (hr.mono (by decide)) T.g_Machine T.b_Machine_init takes0 (pa_cons (pv 2) (pa_cons (pv 4) (pa_cons (pv 5) pa_nil)))))
  (pss_cons (ps_set (i := 7) sc_law.nd rfl (by first | exact Or.inl rfl | exact Or.inr rfl) pe_int)
  (pss_cons (ps_setLc (i := 8) (own := [("k", 9)]) (g := gName 9) (tt := tYes) (by rfl) sc_law.nd rfl rfl (sw_true rfl rfl rfl (by decide +kernel)) (pi_range1 (by rfl) T.nb_range (pa_cons (pe_op (kAdd K) (pv 3) pe_int) pa_nil)) (blkOk_by (own := [("k", 9)]) (N := ["script", "state", "letters", "most", "accepting", "table", "machine", "before", "lengths", "k", "text", "length", "long", "total", "place", "told"]) (sc := defScope s_law) (by decide +kernel)) (fun _ _ _ _ _ => (pg_name (i := 9) sc_law.nd rfl (by first | exact Or.inl rfl | exact Or.inr rfl))) (fun _ _ _ _ _ => pts_nil) (fun _ _ _ _ _ => pe_int))
  (pss_cons (ps_for PassesOwn.never rfl (kAny K rfl (pe_callE (ok_texts T) (hr.mono (by decide)) T.o_texts (pa_cons (pv 2) (pa_cons (pv 3) pa_nil)))) (pg_name (i := 10) sc_law.nd rfl (by first | exact Or.inl rfl | exact Or.inr rfl))
    (pss_cons (ps_if (pt_cmpR (kNe K rfl hr.units) (pe_callE (ok_place_of T) (hr.mono (by decide)) T.o_place_of (pa_cons (pv 6) (pa_cons (pv 10) pa_nil))) (pv 7) (by first | rfl | exact nomark _))
    (pss_one (ps_ret pe_bl))
    pss_nil)
  (pss_one (ps_if (pt_val (pe_callE (ok_accepts T) (hr.mono (by decide)) T.o_accepts (pa_cons (pv 2) (pa_cons (pv 4) (pa_cons (pv 5) (pa_cons (pv 10) pa_nil))))))
    (pss_cons (ps_if (PW.pt (pw_and (pt_cmpR op_leP (pv 7) pe_int (by first | rfl | exact nomark _)) (pw_and1 (pt_cmpR (kNe K rfl hr.units) (pe_callE (ok_text_at T) (hr.mono (by decide)) T.o_text_at (pa_cons (pv 6) (pa_cons (pv 7) pa_nil))) (pv 10) (by first | rfl | exact nomark _)))))
    (pss_one (ps_ret pe_bl))
    pss_nil)
  (pss_cons (ps_set (i := 7) sc_law.nd rfl (by first | exact Or.inl rfl | exact Or.inr rfl) (pe_op (kAdd K) (pv 7) pe_int))
  (pss_one (ps_asg (pe_op (kAdd K) (pe_ix (kIx K) (pv 8) (pe_callB (kLen K) (by rfl) T.nb_len (by decide +kernel) (pa_cons (pv 10) pa_nil)) (fun _ _ => rfl)) pe_int) (pg_sub (pv 8) (pe_callB (kLen K) (by rfl) T.nb_len (by decide +kernel) (pa_cons (pv 10) pa_nil)) set_list)))))
    pss_nil))))
  (pss_cons (ps_if (pt_cmpR (kNe K rfl hr.units) (pe_lc (own := [("length", 11)]) (g := gName 11) (tt := tYes) (by rfl) sc_law.nd (pi_range1 (by rfl) T.nb_range (pa_cons (pe_op (kAdd K) (pv 3) pe_int) pa_nil)) (blkOk_by (own := [("length", 11)]) (N := ["script", "state", "letters", "most", "accepting", "table", "machine", "before", "lengths", "k", "text", "length", "long", "total", "place", "told"]) (sc := defScope s_law) (by decide +kernel)) (fun _ _ _ _ _ => (pg_name (i := 11) sc_law.nd rfl (by first | exact Or.inl rfl | exact Or.inr rfl))) (fun _ _ _ _ _ => pts_nil) (fun _ _ _ _ _ => (pe_callE (ok_count T) (hr.mono (by decide)) T.o_count (pa_cons (pv 6) (pa_cons (pv 11) pa_nil))))) (pv 8) (by first | rfl | exact nomark _))
    (pss_one (ps_ret pe_bl))
    pss_nil)
  (pss_cons (ps_set (i := 11) sc_law.nd rfl (by first | exact Or.inl rfl | exact Or.inr rfl) (pe_callE (ok_next T) (hr.mono (by decide)) T.o_next (pa_cons (pv 1) (pa_cons pe_int pa_nil))))
  (pss_cons (ps_if (pt_cmpR (kNe K rfl hr.units) (pe_callE (ok_count T) (hr.mono (by decide)) T.o_count (pa_cons (pv 6) (pa_cons (pv 11) pa_nil))) (pe_callE (ok_ways T) (hr.mono (by decide)) T.o_ways (pa_cons (pv 2) (pa_cons (pv 4) (pa_cons (pv 5) (pa_cons (pv 11) pa_nil))))) (by first | rfl | exact nomark _))
    (pss_one (ps_ret pe_bl))
    pss_nil)
  (pss_cons (ps_set (i := 12) sc_law.nd rfl (by first | exact Or.inl rfl | exact Or.inr rfl) (kBm K rfl (pe_bm PySem.F.plainAttrs_str PySem.F.slot_str_join PySem.F.type_str_join (kJoin K) pe_str (pa_cons (pe_lc (own := [("k", 9)]) (g := gName 9) (tt := tYes) (by rfl) sc_law.nd (pi_range1 (by rfl) T.nb_range (pa_cons (pv 11) pa_nil)) (blkOk_by (own := [("k", 9)]) (N := ["script", "state", "letters", "most", "accepting", "table", "machine", "before", "lengths", "k", "text", "length", "long", "total", "place", "told"]) (sc := defScope s_law) (by decide +kernel)) (fun _ _ _ _ _ => (pg_name (i := 9) sc_law.nd rfl (by first | exact Or.inl rfl | exact Or.inr rfl))) (fun _ _ _ _ _ => pts_nil) (fun _ _ _ _ _ => (pe_ix (kIx K) (pv 2) (pe_op op_modP (pe_callTy call_intP (by rfl) T.nb_int (by decide +kernel) (pa_cons (pe_op (kAdd K) (pe_op op_mulPP (pv 11) (pv 9)) (pe_op op_divP (pe_op op_mulPP (pv 9) (pv 9)) pe_int)) pa_nil)) (pe_callB (kLen K) (by rfl) T.nb_len (by decide +kernel) (pa_cons (pv 2) pa_nil))) (fun _ _ => rfl)))) pa_nil))))
  (pss_cons (ps_if (pt_cmpR (kNe K rfl hr.units) (pe_callE (ok_place_of T) (hr.mono (by decide)) T.o_place_of (pa_cons (pv 6) (pa_cons (pv 12) pa_nil))) (pe_callE (ok_before T) (hr.mono (by decide)) T.o_before (pa_cons (pv 2) (pa_cons (pv 4) (pa_cons (pv 5) (pa_cons (pv 12) pa_nil))))) (by first | rfl | exact nomark _))
    (pss_one (ps_ret pe_bl))
    pss_nil)
  (pss_cons (ps_set (i := 13) sc_law.nd rfl (by first | exact Or.inl rfl | exact Or.inr rfl) (pe_callB (kSum K) (by rfl) T.nb_sum (by decide +kernel) (pa_cons (pe_lc (own := [("k", 9)]) (g := gName 9) (tt := tYes) (by rfl) sc_law.nd (pi_range1 (by rfl) T.nb_range (pa_cons (pe_op op_mulPP pe_int (pe_callB (kLen K) (by rfl) T.nb_len (by decide +kernel) (pa_cons (pv 5) pa_nil))) pa_nil)) (blkOk_by (own := [("k", 9)]) (N := ["script", "state", "letters", "most", "accepting", "table", "machine", "before", "lengths", "k", "text", "length", "long", "total", "place", "told"]) (sc := defScope s_law) (by decide +kernel)) (fun _ _ _ _ _ => (pg_name (i := 9) sc_law.nd rfl (by first | exact Or.inl rfl | exact Or.inr rfl))) (fun _ _ _ _ _ => pts_nil) (fun _ _ _ _ _ => (pe_callE (ok_ways T) (hr.mono (by decide)) T.o_ways (pa_cons (pv 2) (pa_cons (pv 4) (pa_cons (pv 5) (pa_cons (pv 9) pa_nil))))))) pa_nil)))
  (pss_cons (ps_set (i := 14) sc_law.nd rfl (by first | exact Or.inl rfl | exact Or.inr rfl) (pe_callE (ok_next T) (hr.mono (by decide)) T.o_next (pa_cons (pv 1) (pa_cons (pe_callB (call_min2 (by rfl)) (by rfl) T.nb_min (by decide +kernel) (pa_cons pe_int (pa_cons (pe_op op_divP pe_int (pe_callB (kLen K) (by rfl) T.nb_len (by decide +kernel) (pa_cons (pv 5) pa_nil))) pa_nil))) pa_nil))))
  (pss_cons (ps_set (i := 15) sc_law.nd rfl (by first | exact Or.inl rfl | exact Or.inr rfl) (pe_callE (ok_text_at T) (hr.mono (by decide)) T.o_text_at (pa_cons (pv 6) (pa_cons (pv 14) pa_nil))))
  (pss_cons (ps_if (pt_cmpR op_isN (pv 15) pe_non (by first | rfl | exact nomark _))
    (pss_one (ps_ret (pe_and (pe_cmpR op_leP (pv 13) (pv 14) (by first | rfl | exact nomark _)) (pe_one (pe_cmpR (kEq K rfl hr.units) (pe_callB (kSum K) (by rfl) T.nb_sum (by decide +kernel) (pa_cons (pe_lc (own := [("k", 9)]) (g := gName 9) (tt := tYes) (by rfl) sc_law.nd (pi_range1 (by rfl) T.nb_range (pa_cons (pe_callB (kLen K) (by rfl) T.nb_len (by decide +kernel) (pa_cons (pv 5) pa_nil)) pa_nil)) (blkOk_by (own := [("k", 9)]) (N := ["script", "state", "letters", "most", "accepting", "table", "machine", "before", "lengths", "k", "text", "length", "long", "total", "place", "told"]) (sc := defScope s_law) (by decide +kernel)) (fun _ _ _ _ _ => (pg_name (i := 9) sc_law.nd rfl (by first | exact Or.inl rfl | exact Or.inr rfl))) (fun _ _ _ _ _ => pts_nil) (fun _ _ _ _ _ => (pe_callE (ok_ways T) (hr.mono (by decide)) T.o_ways (pa_cons (pv 2) (pa_cons (pv 4) (pa_cons (pv 5) (pa_cons (pe_op (kAdd K) (pv 9) (pe_callB (kLen K) (by rfl) T.nb_len (by decide +kernel) (pa_cons (pv 5) pa_nil))) pa_nil))))))) pa_nil)) pe_int (by first | rfl | exact nomark _))))))
    pss_nil)
  (pss_one (ps_ret (pe_and (pe_callE (ok_accepts T) (hr.mono (by decide)) T.o_accepts (pa_cons (pv 2) (pa_cons (pv 4) (pa_cons (pv 5) (pa_cons (pv 15) pa_nil))))) (pe_one (pe_cmpR (kEq K rfl hr.units) (pe_callE (ok_place_of T) (hr.mono (by decide)) T.o_place_of (pa_cons (pv 6) (pa_cons (pv 15) pa_nil))) (pv 14) (by first | rfl | exact nomark _))))))))))))))))))))))), ?_⟩
    walk_at "rc"
    refine ⟨a, ns, 0, 5, rfl, hs, by decide, by decide, by decide, by decide, fun p H1 hp e1 S1 => ?_⟩
    walk_at "rc"
    refine ⟨p, 3, rfl, by decide, by decide, S1, fun ls H2 al d2 => ?_⟩
    have l0 := al.l0
    have l1 := al.l1
    have nd := al.nd
    have S2 := d2.st
    walk_at "rc"
    refine rd_ife ?_
    walk_at "rc"
    refine rd_lenS (by omega) ?_
    walk_at "rc"
    refine rd_ite46 fun most hmost => ?_
    walk_at "rc"
    refine ⟨p, ls, 5, [p], rfl, l0, by omega, by decide, by decide, S2, List.mem_cons_self, st1 S2.some.choose_spec, fun v acc tab H3 hv gm an hw d3 => ?_⟩
    have g : GMw ls acc tab := ⟨gm, hw⟩
    have tb := gmw_tb g
    have ge := gm.e
    have gp := gm.p
    have S3 := d3.st
    refine rd_gtD hid_ex hv rfl fun xs hxs => ?_
    obtain ⟨va, vt, rfl, hA, hT⟩ := dp2 hxs
    walk_at "rc"
    intro x dx hx hdx ne
    refine made_D T hx hdx ne l0 (by omega) (hA.ex hid_ex) (hT.ex hid_ex) gm hw fun H4 e4 hm4 => ⟨rfl, ?_⟩
    have S4 := S3.ex e4
    have Q4 : Kq T p x va vt ls acc tab H4 := ⟨S4, hA.ex (Ex.hid e4), hT.ex (Ex.hid e4), machD_hidP hm4 S4⟩
    clear hp e1 S1 d2 S2 hv d3 hxs hA hT hx hdx ne e4 hm4 S4 S3
    walk_at "rc"
    refine ⟨_, rfl, by omega, by omega, ?_⟩
    rw [show ((most : Int) + 1).toNat = most + 1 by omega]
    refine lc_x (j := 9) walk_range0 (fun _ _ => True.intro) (by omega) (fun v => rfl) (fun _ => .int 0) (fun i x Hc H' hi ec y => ?_) fun M H5 e5 hM hM5 => ?_
    · obtain ⟨rfl, rfl⟩ := y
      exact ⟨rfl, fun N hN => hN _ (Evl.Ex.refl _)⟩
    rw [zeros_fn] at hM5
    walk_at "rc"
    walk_at "rs"
    walk_at "rc"
    refine rd_anyL' ?_
    walk_at "rc"
    refine ⟨ls, most, 3, rfl, by omega, by decide, by decide, by omega, fun pt H6 e6 hpt => ?_⟩
    have nMp : M ≠ pt := fun z => by
      have := e6 _ _ hM5
      rw [z, hpt] at this
      have := HO.lst.inj (Option.some.inj this)
      have l1 := congrArg List.length this
      have l2 : (fnL (most + 1) fun _ => 0)[0]? = some (.int 0) := fnL_at (by omega)
      rw [← this] at l2
      rw [List.getElem?_map] at l2
      obtain ⟨z1, _, z2⟩ := Option.map_eq_some_iff.mp l2
      cases z2
    refine ⟨pt, rfl, ⟨_, SqL.of hpt⟩, ?_⟩
    have e46 := e5.trans e6
    refine fo_list (xs := ((rowsW ls.length most).map (tx ls)).map V.str) (fun i σ H' => ∃ (k9 k10 : Option V), σ = [some (.ref a), some (.ref p), some (.str ls), some (.int (most : Int)), some va, some vt, some (.ref x), some (.int ((((rowsW ls.length most).take i).countP (lgW acc tab) : Nat) : Int)), some (.ref M), k9, k10, none, none, none, none, none] ∧ Ex H4 H' ∧ H' pt = some (.lst (((rowsW ls.length most).map (tx ls)).map V.str)) ∧ H' M = some (.lst (fnL (most + 1) fun l => ((((rowsW ls.length most).take i).countP fun u => lgW acc tab u && decide (u.length = l) : Nat) : Int))))
      ⟨_, _, rfl, e46, hpt, e6 _ _ hM5⟩ (fun _ _ _ _ ⟨_, _, _, _, z, _⟩ => SqL.of z) ?_ ?_
    · rintro i x1 σ H7 hx1 ⟨k9, k10, rfl, e7, hp7, hM7⟩
      rw [List.getElem?_map, List.getElem?_map] at hx1
      obtain ⟨z, hz, rfl⟩ := Option.map_eq_some_iff.mp hx1
      obtain ⟨u, hu, rfl⟩ := Option.map_eq_some_iff.mp hz
      obtain ⟨lu, ll⟩ := mem_rowsW.mp (List.mem_of_getElem? hu)
      have hpl := rows_at (acc := acc) (tab := tab) hu
      have Q7 := Q4.ex e7
      have tk : ∀ f : List Nat → Bool, ((rowsW ls.length most).take (i + 1)).countP f = ((rowsW ls.length most).take i).countP f + if f u = true then 1 else 0 := fun f => by
        rw [List.take_succ, hu, List.countP_append]
        show _ + List.countP f [u] = _
        rw [List.countP_cons, List.countP_nil, Nat.zero_add]
      walk_at "rc"
      walk_at "rs"
      walk_at "rc"
      refine ⟨x, ls, acc, tab, u, rfl, Q7.M, g, nd, lu, fun H8 e8 => ?_⟩
      rw [hpl]
      have e78 := e7.trans e8
      walk_at "rc"
      refine rd_iteN (fun z => absurd rfl z) fun _ => ?_
      have Q8 := Q4.ex e78
      have hp8 := e8 _ _ hp7
      have hM8 := e8 _ _ hM7
      walk_at "rc"
      refine ⟨ls, va, vt, acc, tab, u, rfl, Q8.A, Q8.T', g, nd, lu, ?_⟩
      have eac : acM acc (u.foldl (nxM tab) (.i 0)) = lgW acc tab u := by rw [rn_M]; rfl
      rw [eac]
      refine ⟨_, rfl, ?_⟩
      refine rd_ite (fun hl => ?_) fun hl => ?_
      · refine rd_cut (fun σ H' => σ = [some (.ref a), some (.ref p), some (.str ls), some (.int (most : Int)), some va, some vt, some (.ref x), some (.int ((((rowsW ls.length most).take i).countP (lgW acc tab) : Nat) : Int)), some (.ref M), k9, some (.str (tx ls u)), none, none, none, none, none] ∧ Ex H8 H') (fun N hN => ?_) ?_
        · walk_at "rc"
          refine rd_iteD (fun hle => ?_) fun _ => rd_iteF (by walk_at "rc"; exact hN _ _ ⟨rfl, Evl.Ex.refl _⟩)
          walk_at "rc"
          refine ⟨x, ls, acc, tab, _, rfl, Q8.M, g, by omega, ?_, fun r H9 e9 hr => ?_⟩
          · have : acc.length * (((rowsW ls.length most).take i).countP (lgW acc tab) + 1) ≤ 5 * 101 := Nat.mul_le_mul (by omega) (by omega)
            omega
          have er : r = .str (tx ls u) := by
            rcases hr with ⟨v, rfl, hv1, hv2, hv3⟩ | ⟨_, k, hk1, hk2⟩
            · rw [plc_inj hv1 lu hv2 hl (hv3.trans hpl.symm)]
            · exfalso
              have h1 : 0 < aW ls.length acc tab u.length := aW_pos.mpr ⟨u, lu, rfl, hl⟩
              have h2 : u.length < k := by
                rcases Nat.lt_or_ge u.length k with z | z
                · exact z
                · rw [hk2 _ z] at h1; omega
              have h3 := plc_lt lu hl
              have h4 := sumN_mono (aW ls.length acc tab) h2
              rw [hpl] at h3
              have h5 : u.length + 1 ≤ k := h2
              have h6 := sumN_mono (aW ls.length acc tab) h5
              omega
          rw [er]
          walk_at "rc"
          refine rd_iteN (fun z => absurd rfl z) fun _ => ?_
          walk_at "rc"
          exact hN _ _ ⟨rfl, e9⟩
        · rintro σ H9 ⟨rfl, e9⟩
          have e89 := e78.trans e9
          have hp9 := e9 _ _ hp8
          have hM9 := e9 _ _ hM8
          walk_at "rc"
          refine rd_lenS (by rw [tx_len]; omega) ?_
          rw [tx_len]
          refine rd_ixL (SqL.of hM9) (atI_nat (j := u.length) (fnL_at (by omega))) ?_
          walk_at "rc"
          refine rd_lenS (by rw [tx_len]; omega) ?_
          rw [tx_len]
          refine ⟨M, _, (u.length : Int), u.length, rfl, rfl, hM9, ixN_nat (by rw [fnL_len]; omega), ?_⟩
          refine ⟨k9, some (.str (tx ls u)), ?_, Evl.Ex.mut e89 hM, by rw [upd_ne (Ne.symm nMp)]; exact hp9, ?_⟩
          · rw [tk, if_pos hl]; rfl
          · rw [upd_same, fnL_set]
            refine congrArg (fun l => some (HO.lst l)) (fnL_congr fun t ht => ?_)
            rw [tk]
            by_cases e : t = u.length
            · rw [if_pos e, if_pos (by rw [hl, decide_eq_true e.symm]; rfl), e]; rfl
            · rw [if_neg e, if_neg (by rw [hl, decide_eq_false (Ne.symm e)]; decide)]; rfl
      · walk_at "rc"
        refine ⟨k9, some (.str (tx ls u)), ?_, e78, hp8, ?_⟩
        · rw [tk, if_neg (by rw [hl]; decide)]; rfl
        · rw [hM8]
          refine congrArg (fun l => some (HO.lst l)) (fnL_congr fun t ht => ?_)
          rw [tk, if_neg (by rw [hl]; exact fun z => nomatch z)]; rfl
    · rintro σ H7 ⟨k9, k10, rfl, e7, hp7, hM7⟩
      have Q7 := Q4.ex e7
      have eM : (fnL (most + 1) fun l => ((((rowsW ls.length most).take (((rowsW ls.length most).map (tx ls)).map V.str).length).countP fun u => lgW acc tab u && decide (u.length = l) : Nat) : Int)) = fnL (most + 1) fun l => ((aW ls.length acc tab l : Nat) : Int) := fnL_congr fun l hl => by
        rw [List.length_map, List.length_map, List.take_length, rows_len_count (by omega)]
      rw [eM] at hM7
      clear e5 e6 hM hM5 hpt hp7 e46 eM nMp Q4
      walk_at "rc"
      walk_at "rs"
      walk_at "rc"
      refine ⟨_, rfl, by omega, by omega, ?_⟩
      rw [show ((most : Int) + 1).toNat = most + 1 by omega]
      refine lc_x (j := 11) walk_range0 (fun _ _ => True.intro) (by omega) (fun v => rfl) (fun i => .int ((aW ls.length acc tab i : Nat) : Int)) (fun i x1 Hc H' hi ec y => ?_) fun C H8 e8 hC hC8 => ?_
      · obtain ⟨rfl, rfl⟩ := y
        refine ⟨rfl, fun N hN => ?_⟩
        walk_at "rc"
        exact ⟨x, ls, acc, tab, i, rfl, (Q7.ex ec).M, g, by omega, fun H2 e2 => hN H2 e2⟩
      have hC8 : H8 C = some (.lst (fnL (most + 1) fun l => ((aW ls.length acc tab l : Nat) : Int))) := hC8
      have Q8 := Q7.ex e8
      have hM8 := e8 _ _ hM7
      have fl : (fnL (most + 1) fun l => ((aW ls.length acc tab l : Nat) : Int)).all flat1 = true := by
        rw [List.all_eq_true]
        intro v hv
        obtain ⟨i, _, rfl⟩ := List.mem_map.mp hv
        rfl
      walk_at "rc"
      refine rd_neL (SqL.of hC8) (SqL.of hM8) fl ?_
      walk_at "rc"
      have S8 := Q8.s
      refine ⟨p, 301, rfl, by decide, S8, fun r H9 r0 r1 S9 o9 i9 => ?_⟩
      obtain ⟨len, rfl⟩ := Int.eq_ofNat_of_zero_le r0
      have Q9 := Q8.dr ⟨S9, o9, i9.2⟩
      clear Q7 e7 hM7 e8 hC hC8 Q8 hM8 fl S8 o9 i9 S9
      walk_at "rc"
      walk_at "rs"
      walk_at "rc"
      refine ⟨x, ls, acc, tab, len, rfl, Q9.M, g, by omega, fun H10 e10 => ?_⟩
      have Q10 := Q9.ex e10
      walk_at "rc"
      refine ⟨ls, va, vt, acc, tab, len, rfl, Q10.A, Q10.T', g, by omega, fun H11 e11 => ?_⟩
      have Q11 := Q10.ex e11
      walk_at "rc"
      refine rd_iteN (fun z => absurd rfl z) fun _ => ?_
      clear Q9 e10 Q10 e11
      walk_at "rc"
      refine ⟨rfl, ?_⟩
      walk_at "rc"
      refine ⟨_, rfl, by omega, by omega, ?_⟩
      rw [Int.toNat_natCast]
      obtain ⟨u, hu⟩ : ∃ u : List Nat, u = (List.range len).map fun k => (len * k + k * k / 3) % ls.length := ⟨_, rfl⟩
      have lu : Lw ls.length u := fun j hj => by
        rw [hu] at hj
        obtain ⟨k, _, rfl⟩ := List.mem_map.mp hj
        exact Nat.mod_lt _ l0
      have ul : u.length = len := by rw [hu, List.length_map, List.length_range]
      refine lc_x (j := 9) walk_range0 (fun _ _ => True.intro) (by omega) (fun v => rfl) (fun k => .str ⟨#[ls.cps.toList.getD ((len * k + k * k / 3) % ls.length) 0]⟩) (fun i x1 Hc H' hi ec y => ?_) fun C H12 e12 hC hC12 => ?_
      · obtain ⟨rfl, rfl⟩ := y
        refine ⟨rfl, fun N hN => ?_⟩
        have en : ((len : Int) * (i : Int) + ((i : Int) * (i : Int)).fdiv 3).fmod ((ls.length : Nat) : Int) = (((len * i + i * i / 3) % ls.length : Nat) : Int) := by
          rw [Int.fdiv_eq_ediv_of_nonneg _ (by decide), Int.fmod_eq_emod_of_nonneg _ (by omega)]
          push_cast
          rfl
        have hml : (len * i + i * i / 3) % ls.length < ls.length := Nat.mod_lt _ l0
        have hcl : ls.cps.toList[(len * i + i * i / 3) % ls.length]? = some (ls.cps.toList.getD ((len * i + i * i / 3) % ls.length) 0) := by
          have hx : (len * i + i * i / 3) % ls.length < ls.cps.toList.length := hml
          rw [List.getD_eq_getElem?_getD, List.getElem?_eq_getElem hx]; rfl
        walk_at "rc"
        refine rd_mulN (.inl ⟨by omega, by omega⟩) ?_
        walk_at "rc"
        refine rd_mulN (.inl ⟨by omega, by omega⟩) ?_
        walk_at "rc"
        refine rd_divI ⟨by decide, by decide⟩ ?_
        walk_at "rc"
        refine rd_lenS (by omega) ?_
        refine rd_modI (by omega) ?_
        rw [en]
        refine rd_ixS (by omega) (atI_nat hcl) ?_
        exact hN _ (Evl.Ex.refl _)
      have hC12 : H12 C = some (.lst ((chS ls u).map V.str)) := by
        rw [hC12]
        unfold chS
        rw [hu, List.map_map, List.map_map]
        rfl
      have Q12 := Q11.ex e12
      walk_at "rc"
      refine ⟨"", C, chS ls u, rfl, rfl, .inl (SqL.of hC12), ?_, ?_⟩
      · have e : chS ls u = ((u.map fun j => ls.cps.toList.getD j 0).map fun c => (⟨#[c]⟩ : Str)) := by unfold chS; rw [List.map_map]; rfl
        rw [e, sum_signs, List.length_map, List.length_map, List.length_map]
        have e0 : (Str.ofString "").length = 0 := by decide +kernel
        rw [e0]
        omega
      rw [join_chS]
      clear Q11 e12 hC hC12
      walk_at "rc"
      walk_at "rs"
      walk_at "rc"
      refine ⟨x, ls, acc, tab, u, rfl, Q12.M, g, nd, lu, fun H13 e13 => ?_⟩
      have Q13 := Q12.ex e13
      walk_at "rc"
      refine ⟨ls, va, vt, acc, tab, u, rfl, Q13.A, Q13.T', g, nd, lu, by omega, fun H14 e14 => ?_⟩
      have Q14 := Q13.ex e14
      walk_at "rc"
      refine rd_iteN (fun z => absurd rfl z) fun _ => ?_
      clear Q12 e13 Q13 e14
      walk_at "rc"
      refine rd_lenDL (Evl.Ex.refl H14) Q14.T' ?_
      rw [List.length_map, ge]
      refine rd_mulN (.inl ⟨by decide, by decide⟩) ?_
      refine ⟨_, rfl, by omega, by omega, ?_⟩
      rw [show ((2 : Int) * (acc.length : Nat)).toNat = 2 * acc.length by omega]
      refine lc_x (j := 9) walk_range0 (fun _ _ => True.intro) (by omega) (fun v => rfl) (fun k => .int ((aW ls.length acc tab k : Nat) : Int)) (fun i x1 Hc H' hi ec y => ?_) fun C H15 e15 hC hC15 => ?_
      · obtain ⟨rfl, rfl⟩ := y
        refine ⟨rfl, fun N hN => ?_⟩
        walk_at "rc"
        exact ⟨ls, va, vt, acc, tab, i, rfl, (Q14.ex ec).A, (Q14.ex ec).T', g, by omega, fun H2 e2 => hN H2 e2⟩
      have Q15 := Q14.ex e15
      walk_at "rc"
      refine ⟨C, (List.range (2 * acc.length)).map fun k => ((aW ls.length acc tab k : Nat) : Int), rfl, SqL.of (by rw [hC15, List.map_map]; rfl), ?_⟩
      rw [sumN_cast]
      clear Q14 e15 hC hC15
      walk_at "rc"
      refine rd_lenDL (Evl.Ex.refl H15) Q15.T' ?_
      rw [List.length_map, ge]
      refine rd_divI ⟨by omega, by omega⟩ ?_
      refine ⟨_, _, rfl, ?_⟩
      have mb : 0 < (if (295 : Int).fdiv ((acc.length : Nat) : Int) < 101 then (295 : Int).fdiv ((acc.length : Nat) : Int) else 101) ∧ (if (295 : Int).fdiv ((acc.length : Nat) : Int) < 101 then (295 : Int).fdiv ((acc.length : Nat) : Int) else 101) ≤ 101 := by
        have : acc.length = 1 ∨ acc.length = 2 ∨ acc.length = 3 ∨ acc.length = 4 ∨ acc.length = 5 := by omega
        rcases this with h | h | h | h | h <;> rw [h] <;> decide
      refine ⟨p, _, rfl, mb.1, Q15.s, fun r H16 r0 r1 S16 o16 i16 => ?_⟩
      obtain ⟨pl, rfl⟩ := Int.eq_ofNat_of_zero_le r0
      have pl1 : pl < 101 := by
        have := mb.2
        omega
      have Q16 := Q15.dr ⟨S16, o16, i16.2⟩
      clear Q15 S16 o16 i16 r1 mb
      walk_at "rc"
      refine ⟨x, ls, acc, tab, pl, rfl, Q16.M, g, by omega, ?_, fun r H17 e17 hr => ?_⟩
      · have : acc.length * (pl + 1) ≤ 5 * 101 := Nat.mul_le_mul (by omega) (by omega)
        omega
      have Q17 := Q16.ex e17
      clear Q16 e17
      walk_at "rc"
      walk_at "rs"
      walk_at "rc"
      rcases hr with ⟨v, rfl, hv1, hv2, hv3⟩ | ⟨rfl, k, hk1, hk2⟩
      · rw [decide_eq_false (fun z => nomatch z)]
        refine rd_iteF ?_
        walk_at "rc"
        refine rd_andV ?_
        walk_at "rc"
        refine ⟨ls, va, vt, acc, tab, v, rfl, Q17.A, Q17.T', g, nd, hv1, ?_⟩
        have eac : acM acc (v.foldl (nxM tab) (.i 0)) = true := by rw [rn_M]; exact hv2
        rw [eac]
        refine ⟨_, rfl, rd_iteT ?_⟩
        walk_at "rc"
        refine ⟨x, ls, acc, tab, v, rfl, Q17.M, g, nd, hv1, fun H18 e18 => ?_⟩
        rw [hv3]
        walk_at "rc"
        rw [decide_eq_true rfl]
        exact q _
      · rw [decide_eq_true rfl]
        refine rd_iteT ?_
        walk_at "rc"
        refine rd_andV ?_
        walk_at "rc"
        have h2 := sumN_const hk2 (2 * acc.length)
        have hle : ((sumN (aW ls.length acc tab) (2 * acc.length) : Nat) : Int) ≤ (pl : Int) := by omega
        rw [decide_eq_true hle]
        refine rd_iteT ?_
        walk_at "rc"
        refine rd_lenDL (Evl.Ex.refl H17) Q17.T' ?_
        have tl : (tab.map fun row => PyData.list (row.map nI)).length = acc.length := by rw [List.length_map]; exact ge
        rw [tl]
        refine ⟨_, rfl, by omega, by omega, ?_⟩
        rw [Int.toNat_natCast]
        have z0 : ∀ i, aW ls.length acc tab (i + acc.length) = 0 := fun i => by
          rcases Nat.eq_zero_or_pos (aW ls.length acc tab (i + acc.length)) with z | z
          · exact z
          · obtain ⟨u2, h1, h2, h3⟩ := aW_pos.mp z
            obtain ⟨v, h4, h5, h6⟩ := pump tb h1 (by omega) h3 k
            have h7 : 0 < aW ls.length acc tab v.length := aW_pos.mpr ⟨v, h4, rfl, h6⟩
            rw [hk2 _ h5] at h7
            omega
        refine lc_x (j := 9) walk_range0 (fun _ _ => True.intro) (by omega) (fun v => rfl) (fun _ => .int 0) (fun i x1 Hc H' hi ec y => ?_) fun C H18 e18 hC hC18 => ?_
        · obtain ⟨rfl, rfl⟩ := y
          refine ⟨rfl, fun N hN => ?_⟩
          walk_at "rc"
          refine rd_lenDL ec Q17.T' ?_
          rw [tl]
          walk_at "rc"
          rw [show (i : Int) + ((acc.length : Nat) : Int) = ((i + acc.length : Nat) : Int) by omega]
          refine ⟨ls, va, vt, acc, tab, i + acc.length, rfl, (Q17.ex ec).A, (Q17.ex ec).T', g, by omega, fun H2 e2 => ?_⟩
          rw [z0]
          exact hN H2 e2
        walk_at "rc"
        refine ⟨C, (List.range acc.length).map fun _ => 0, rfl, SqL.of (by rw [hC18, List.map_map]; rfl), ?_⟩
        have e0 : ((List.range acc.length).map fun _ => (0 : Int)).sum = 0 := by
          have : ∀ l : List Nat, (l.map fun _ => (0 : Int)).sum = 0 := by
            intro l
            induction l with
            | nil => rfl
            | cons a l ih => rw [List.map_cons, List.sum_cons, ih]; rfl
          exact this _
        rw [e0]
        walk_at "rc"
        rw [decide_eq_true rfl]
        exact q _
end
end
theorem all_mk {l : PySem.W.OpenLaw} {w : World} {K : PySem.W.Frag} {h : Heap} {mg : Str → Option Value} {fa : Addr} (X : K.In h) (G : h.Ns mainGlobals mg) (hfa : mg "law" = some (.ref fa))
    {a__wall : Addr} {od__wall an__wall : Option Addr} {sl__wall : Array (Option Value)} {oc__wall kV__wall dc__wall pm__wall cd__wall ct__wall : Value}
    {a_ways_back : Addr} {od_ways_back an_ways_back : Option Addr} {sl_ways_back : Array (Option Value)} {oc_ways_back kV_ways_back dc_ways_back pm_ways_back cd_ways_back ct_ways_back : Value}
    {a_reached : Addr} {od_reached an_reached : Option Addr} {sl_reached : Array (Option Value)} {oc_reached kV_reached dc_reached pm_reached cd_reached ct_reached : Value}
    {a_useful : Addr} {od_useful an_useful : Option Addr} {sl_useful : Array (Option Value)} {oc_useful kV_useful dc_useful pm_useful cd_useful ct_useful : Value}
    {a_count : Addr} {od_count an_count : Option Addr} {sl_count : Array (Option Value)} {oc_count kV_count dc_count pm_count cd_count ct_count : Value}
    {a_place_of : Addr} {od_place_of an_place_of : Option Addr} {sl_place_of : Array (Option Value)} {oc_place_of kV_place_of dc_place_of pm_place_of cd_place_of ct_place_of : Value}
    {a_text_at : Addr} {od_text_at an_text_at : Option Addr} {sl_text_at : Array (Option Value)} {oc_text_at kV_text_at dc_text_at pm_text_at cd_text_at ct_text_at : Value}
    {a__longer : Addr} {od__longer an__longer : Option Addr} {sl__longer : Array (Option Value)} {oc__longer kV__longer dc__longer pm__longer cd__longer ct__longer : Value}
    {a__accepted : Addr} {od__accepted an__accepted : Option Addr} {sl__accepted : Array (Option Value)} {oc__accepted kV__accepted dc__accepted pm__accepted cd__accepted ct__accepted : Value}
    {a__text_through : Addr} {od__text_through an__text_through : Option Addr} {sl__text_through : Array (Option Value)} {oc__text_through kV__text_through dc__text_through pm__text_through cd__text_through ct__text_through : Value}
    {a__ends_behind : Addr} {od__ends_behind an__ends_behind : Option Addr} {sl__ends_behind : Array (Option Value)} {oc__ends_behind kV__ends_behind dc__ends_behind pm__ends_behind cd__ends_behind ct__ends_behind : Value}
    {a__sums_of_next : Addr} {od__sums_of_next an__sums_of_next : Option Addr} {sl__sums_of_next : Array (Option Value)} {oc__sums_of_next kV__sums_of_next dc__sums_of_next pm__sums_of_next cd__sums_of_next ct__sums_of_next : Value}
    {a_cell : Addr} {od_cell an_cell : Option Addr} {sl_cell : Array (Option Value)} {oc_cell kV_cell dc_cell pm_cell cd_cell ct_cell : Value}
    {a_numbers : Addr} {od_numbers an_numbers : Option Addr} {sl_numbers : Array (Option Value)} {oc_numbers kV_numbers dc_numbers pm_numbers cd_numbers ct_numbers : Value}
    {a_state : Addr} {od_state an_state : Option Addr} {sl_state : Array (Option Value)} {oc_state kV_state dc_state pm_state cd_state ct_state : Value}
    {a_next : Addr} {od_next an_next : Option Addr} {sl_next : Array (Option Value)} {oc_next kV_next dc_next pm_next cd_next ct_next : Value}
    {a_letters : Addr} {od_letters an_letters : Option Addr} {sl_letters : Array (Option Value)} {oc_letters kV_letters dc_letters pm_letters cd_letters ct_letters : Value}
    {a_texts : Addr} {od_texts an_texts : Option Addr} {sl_texts : Array (Option Value)} {oc_texts kV_texts dc_texts pm_texts cd_texts ct_texts : Value}
    {a_parts : Addr} {od_parts an_parts : Option Addr} {sl_parts : Array (Option Value)} {oc_parts kV_parts dc_parts pm_parts cd_parts ct_parts : Value}
    {a_accepts : Addr} {od_accepts an_accepts : Option Addr} {sl_accepts : Array (Option Value)} {oc_accepts kV_accepts dc_accepts pm_accepts cd_accepts ct_accepts : Value}
    {a_ways : Addr} {od_ways an_ways : Option Addr} {sl_ways : Array (Option Value)} {oc_ways kV_ways dc_ways pm_ways cd_ways ct_ways : Value}
    {a_before : Addr} {od_before an_before : Option Addr} {sl_before : Array (Option Value)} {oc_before kV_before dc_before pm_before cd_before ct_before : Value}
    {a_law : Addr} {od_law an_law : Option Addr} {sl_law : Array (Option Value)} {oc_law kV_law dc_law pm_law cd_law ct_law : Value}
    {C_AnytextError C_MachineError C_BadMachine : Addr}
    {a_init T_init : Addr} {od_init an_init : Option Addr} {sl_init : Array (Option Value)} {oc_init kV_init dc_init pm_init cd_init ct_init : Value} {dd_init : Option Addr} {nn_init : Nat} {sm_init : Array (Option Value)} {oc2_init : Value}
    {nm_BadMachine q_BadMachine : Str} {N_BadMachine : Addr} {bs_BadMachine : List Value} {sn_BadMachine : List Str} {sb_BadMachine : List Value} {ab_BadMachine : Bool} {col_BadMachine : Option Bool} {dd_BadMachine : Option Addr} {m0_BadMachine m1_BadMachine m2_BadMachine m3_BadMachine m5_BadMachine : Option Value}
    {C_Machine : Addr}
    {a_Machine_init : Addr} {od_Machine_init an_Machine_init : Option Addr} {sl_Machine_init : Array (Option Value)} {oc_Machine_init kV_Machine_init dc_Machine_init pm_Machine_init cd_Machine_init ct_Machine_init : Value}
    {a_Machine_check : Addr} {od_Machine_check an_Machine_check : Option Addr} {sl_Machine_check : Array (Option Value)} {oc_Machine_check kV_Machine_check dc_Machine_check pm_Machine_check cd_Machine_check ct_Machine_check : Value}
    {a_Machine_run : Addr} {od_Machine_run an_Machine_run : Option Addr} {sl_Machine_run : Array (Option Value)} {oc_Machine_run kV_Machine_run dc_Machine_run pm_Machine_run cd_Machine_run ct_Machine_run : Value}
    {a_Machine_run_from : Addr} {od_Machine_run_from an_Machine_run_from : Option Addr} {sl_Machine_run_from : Array (Option Value)} {oc_Machine_run_from kV_Machine_run_from dc_Machine_run_from pm_Machine_run_from cd_Machine_run_from ct_Machine_run_from : Value}
    {a_Machine_accepts : Addr} {od_Machine_accepts an_Machine_accepts : Option Addr} {sl_Machine_accepts : Array (Option Value)} {oc_Machine_accepts kV_Machine_accepts dc_Machine_accepts pm_Machine_accepts cd_Machine_accepts ct_Machine_accepts : Value}
    {a_Machine_picture : Addr} {od_Machine_picture an_Machine_picture : Option Addr} {sl_Machine_picture : Array (Option Value)} {oc_Machine_picture kV_Machine_picture dc_Machine_picture pm_Machine_picture cd_Machine_picture ct_Machine_picture : Value}
    (n__wall : PySem.W.nsIn K mainGlobals "_wall" = some (some (.ref a__wall)))
    (l__wall : K.lookup a__wall = some ⟨oc__wall, od__wall, .func (PySem.W.fnOf "_wall" "_wall" (defArgs s__wall) (defBody s__wall) (defScope s__wall) .none kV__wall dc__wall pm__wall an__wall cd__wall ct__wall), sl__wall⟩)
    (c__wall : PySem.W.codeIn K cd__wall "_wall" = true)
    (k__wall : PySem.W.keepIn K (.ref a__wall) = true)
    (n_ways_back : PySem.W.nsIn K mainGlobals "ways_back" = some (some (.ref a_ways_back)))
    (l_ways_back : K.lookup a_ways_back = some ⟨oc_ways_back, od_ways_back, .func (PySem.W.fnOf "ways_back" "ways_back" (defArgs s_ways_back) (defBody s_ways_back) (defScope s_ways_back) .none kV_ways_back dc_ways_back pm_ways_back an_ways_back cd_ways_back ct_ways_back), sl_ways_back⟩)
    (c_ways_back : PySem.W.codeIn K cd_ways_back "ways_back" = true)
    (k_ways_back : PySem.W.keepIn K (.ref a_ways_back) = true)
    (n_reached : PySem.W.nsIn K mainGlobals "reached" = some (some (.ref a_reached)))
    (l_reached : K.lookup a_reached = some ⟨oc_reached, od_reached, .func (PySem.W.fnOf "reached" "reached" (defArgs s_reached) (defBody s_reached) (defScope s_reached) .none kV_reached dc_reached pm_reached an_reached cd_reached ct_reached), sl_reached⟩)
    (c_reached : PySem.W.codeIn K cd_reached "reached" = true)
    (k_reached : PySem.W.keepIn K (.ref a_reached) = true)
    (n_useful : PySem.W.nsIn K mainGlobals "useful" = some (some (.ref a_useful)))
    (l_useful : K.lookup a_useful = some ⟨oc_useful, od_useful, .func (PySem.W.fnOf "useful" "useful" (defArgs s_useful) (defBody s_useful) (defScope s_useful) .none kV_useful dc_useful pm_useful an_useful cd_useful ct_useful), sl_useful⟩)
    (c_useful : PySem.W.codeIn K cd_useful "useful" = true)
    (k_useful : PySem.W.keepIn K (.ref a_useful) = true)
    (n_count : PySem.W.nsIn K mainGlobals "count" = some (some (.ref a_count)))
    (l_count : K.lookup a_count = some ⟨oc_count, od_count, .func (PySem.W.fnOf "count" "count" (defArgs s_count) (defBody s_count) (defScope s_count) .none kV_count dc_count pm_count an_count cd_count ct_count), sl_count⟩)
    (c_count : PySem.W.codeIn K cd_count "count" = true)
    (k_count : PySem.W.keepIn K (.ref a_count) = true)
    (n_place_of : PySem.W.nsIn K mainGlobals "place_of" = some (some (.ref a_place_of)))
    (l_place_of : K.lookup a_place_of = some ⟨oc_place_of, od_place_of, .func (PySem.W.fnOf "place_of" "place_of" (defArgs s_place_of) (defBody s_place_of) (defScope s_place_of) .none kV_place_of dc_place_of pm_place_of an_place_of cd_place_of ct_place_of), sl_place_of⟩)
    (c_place_of : PySem.W.codeIn K cd_place_of "place_of" = true)
    (k_place_of : PySem.W.keepIn K (.ref a_place_of) = true)
    (n_text_at : PySem.W.nsIn K mainGlobals "text_at" = some (some (.ref a_text_at)))
    (l_text_at : K.lookup a_text_at = some ⟨oc_text_at, od_text_at, .func (PySem.W.fnOf "text_at" "text_at" (defArgs s_text_at) (defBody s_text_at) (defScope s_text_at) .none kV_text_at dc_text_at pm_text_at an_text_at cd_text_at ct_text_at), sl_text_at⟩)
    (c_text_at : PySem.W.codeIn K cd_text_at "text_at" = true)
    (k_text_at : PySem.W.keepIn K (.ref a_text_at) = true)
    (n__longer : PySem.W.nsIn K mainGlobals "_longer" = some (some (.ref a__longer)))
    (l__longer : K.lookup a__longer = some ⟨oc__longer, od__longer, .func (PySem.W.fnOf "_longer" "_longer" (defArgs s__longer) (defBody s__longer) (defScope s__longer) .none kV__longer dc__longer pm__longer an__longer cd__longer ct__longer), sl__longer⟩)
    (c__longer : PySem.W.codeIn K cd__longer "_longer" = true)
    (k__longer : PySem.W.keepIn K (.ref a__longer) = true)
    (n__accepted : PySem.W.nsIn K mainGlobals "_accepted" = some (some (.ref a__accepted)))
    (l__accepted : K.lookup a__accepted = some ⟨oc__accepted, od__accepted, .func (PySem.W.fnOf "_accepted" "_accepted" (defArgs s__accepted) (defBody s__accepted) (defScope s__accepted) .none kV__accepted dc__accepted pm__accepted an__accepted cd__accepted ct__accepted), sl__accepted⟩)
    (c__accepted : PySem.W.codeIn K cd__accepted "_accepted" = true)
    (k__accepted : PySem.W.keepIn K (.ref a__accepted) = true)
    (n__text_through : PySem.W.nsIn K mainGlobals "_text_through" = some (some (.ref a__text_through)))
    (l__text_through : K.lookup a__text_through = some ⟨oc__text_through, od__text_through, .func (PySem.W.fnOf "_text_through" "_text_through" (defArgs s__text_through) (defBody s__text_through) (defScope s__text_through) .none kV__text_through dc__text_through pm__text_through an__text_through cd__text_through ct__text_through), sl__text_through⟩)
    (c__text_through : PySem.W.codeIn K cd__text_through "_text_through" = true)
    (k__text_through : PySem.W.keepIn K (.ref a__text_through) = true)
    (n__ends_behind : PySem.W.nsIn K mainGlobals "_ends_behind" = some (some (.ref a__ends_behind)))
    (l__ends_behind : K.lookup a__ends_behind = some ⟨oc__ends_behind, od__ends_behind, .func (PySem.W.fnOf "_ends_behind" "_ends_behind" (defArgs s__ends_behind) (defBody s__ends_behind) (defScope s__ends_behind) .none kV__ends_behind dc__ends_behind pm__ends_behind an__ends_behind cd__ends_behind ct__ends_behind), sl__ends_behind⟩)
    (c__ends_behind : PySem.W.codeIn K cd__ends_behind "_ends_behind" = true)
    (k__ends_behind : PySem.W.keepIn K (.ref a__ends_behind) = true)
    (n__sums_of_next : PySem.W.nsIn K mainGlobals "_sums_of_next" = some (some (.ref a__sums_of_next)))
    (l__sums_of_next : K.lookup a__sums_of_next = some ⟨oc__sums_of_next, od__sums_of_next, .func (PySem.W.fnOf "_sums_of_next" "_sums_of_next" (defArgs s__sums_of_next) (defBody s__sums_of_next) (defScope s__sums_of_next) .none kV__sums_of_next dc__sums_of_next pm__sums_of_next an__sums_of_next cd__sums_of_next ct__sums_of_next), sl__sums_of_next⟩)
    (c__sums_of_next : PySem.W.codeIn K cd__sums_of_next "_sums_of_next" = true)
    (k__sums_of_next : PySem.W.keepIn K (.ref a__sums_of_next) = true)
    (n_cell : PySem.W.nsIn K mainGlobals "_law_cell" = some (some (.ref a_cell)))
    (l_cell : K.lookup a_cell = some ⟨oc_cell, od_cell, .func (PySem.W.fnOf "_law_cell" "_law_cell" (defArgs s_cell) (defBody s_cell) (defScope s_cell) .none kV_cell dc_cell pm_cell an_cell cd_cell ct_cell), sl_cell⟩)
    (c_cell : PySem.W.codeIn K cd_cell "_law_cell" = true)
    (k_cell : PySem.W.keepIn K (.ref a_cell) = true)
    (n_numbers : PySem.W.nsIn K mainGlobals "_law_numbers" = some (some (.ref a_numbers)))
    (l_numbers : K.lookup a_numbers = some ⟨oc_numbers, od_numbers, .func (PySem.W.fnOf "_law_numbers" "_law_numbers" (defArgs s_numbers) (defBody s_numbers) (defScope s_numbers) .none kV_numbers dc_numbers pm_numbers an_numbers cd_numbers ct_numbers), sl_numbers⟩)
    (c_numbers : PySem.W.codeIn K cd_numbers "_law_numbers" = true)
    (k_numbers : PySem.W.keepIn K (.ref a_numbers) = true)
    (n_state : PySem.W.nsIn K mainGlobals "_law_state" = some (some (.ref a_state)))
    (l_state : K.lookup a_state = some ⟨oc_state, od_state, .func (PySem.W.fnOf "_law_state" "_law_state" (defArgs s_state) (defBody s_state) (defScope s_state) .none kV_state dc_state pm_state an_state cd_state ct_state), sl_state⟩)
    (c_state : PySem.W.codeIn K cd_state "_law_state" = true)
    (k_state : PySem.W.keepIn K (.ref a_state) = true)
    (n_next : PySem.W.nsIn K mainGlobals "_law_next" = some (some (.ref a_next)))
    (l_next : K.lookup a_next = some ⟨oc_next, od_next, .func (PySem.W.fnOf "_law_next" "_law_next" (defArgs s_next) (defBody s_next) (defScope s_next) .none kV_next dc_next pm_next an_next cd_next ct_next), sl_next⟩)
    (c_next : PySem.W.codeIn K cd_next "_law_next" = true)
    (k_next : PySem.W.keepIn K (.ref a_next) = true)
    (n_letters : PySem.W.nsIn K mainGlobals "_law_letters" = some (some (.ref a_letters)))
    (l_letters : K.lookup a_letters = some ⟨oc_letters, od_letters, .func (PySem.W.fnOf "_law_letters" "_law_letters" (defArgs s_letters) (defBody s_letters) (defScope s_letters) .none kV_letters dc_letters pm_letters an_letters cd_letters ct_letters), sl_letters⟩)
    (c_letters : PySem.W.codeIn K cd_letters "_law_letters" = true)
    (k_letters : PySem.W.keepIn K (.ref a_letters) = true)
    (n_texts : PySem.W.nsIn K mainGlobals "_law_texts" = some (some (.ref a_texts)))
    (l_texts : K.lookup a_texts = some ⟨oc_texts, od_texts, .func (PySem.W.fnOf "_law_texts" "_law_texts" (defArgs s_texts) (defBody s_texts) (defScope s_texts) .none kV_texts dc_texts pm_texts an_texts cd_texts ct_texts), sl_texts⟩)
    (c_texts : PySem.W.codeIn K cd_texts "_law_texts" = true)
    (k_texts : PySem.W.keepIn K (.ref a_texts) = true)
    (n_parts : PySem.W.nsIn K mainGlobals "_law_parts" = some (some (.ref a_parts)))
    (l_parts : K.lookup a_parts = some ⟨oc_parts, od_parts, .func (PySem.W.fnOf "_law_parts" "_law_parts" (defArgs s_parts) (defBody s_parts) (defScope s_parts) .none kV_parts dc_parts pm_parts an_parts cd_parts ct_parts), sl_parts⟩)
    (c_parts : PySem.W.codeIn K cd_parts "_law_parts" = true)
    (k_parts : PySem.W.keepIn K (.ref a_parts) = true)
    (n_accepts : PySem.W.nsIn K mainGlobals "_law_accepts" = some (some (.ref a_accepts)))
    (l_accepts : K.lookup a_accepts = some ⟨oc_accepts, od_accepts, .func (PySem.W.fnOf "_law_accepts" "_law_accepts" (defArgs s_accepts) (defBody s_accepts) (defScope s_accepts) .none kV_accepts dc_accepts pm_accepts an_accepts cd_accepts ct_accepts), sl_accepts⟩)
    (c_accepts : PySem.W.codeIn K cd_accepts "_law_accepts" = true)
    (k_accepts : PySem.W.keepIn K (.ref a_accepts) = true)
    (n_ways : PySem.W.nsIn K mainGlobals "_law_ways" = some (some (.ref a_ways)))
    (l_ways : K.lookup a_ways = some ⟨oc_ways, od_ways, .func (PySem.W.fnOf "_law_ways" "_law_ways" (defArgs s_ways) (defBody s_ways) (defScope s_ways) .none kV_ways dc_ways pm_ways an_ways cd_ways ct_ways), sl_ways⟩)
    (c_ways : PySem.W.codeIn K cd_ways "_law_ways" = true)
    (k_ways : PySem.W.keepIn K (.ref a_ways) = true)
    (n_before : PySem.W.nsIn K mainGlobals "_law_before" = some (some (.ref a_before)))
    (l_before : K.lookup a_before = some ⟨oc_before, od_before, .func (PySem.W.fnOf "_law_before" "_law_before" (defArgs s_before) (defBody s_before) (defScope s_before) .none kV_before dc_before pm_before an_before cd_before ct_before), sl_before⟩)
    (c_before : PySem.W.codeIn K cd_before "_law_before" = true)
    (k_before : PySem.W.keepIn K (.ref a_before) = true)
    (n_law : PySem.W.nsIn K mainGlobals "law" = some (some (.ref a_law)))
    (l_law : K.lookup a_law = some ⟨oc_law, od_law, .func (PySem.W.fnOf "law" "law" (defArgs s_law) (defBody s_law) (defScope s_law) .none kV_law dc_law pm_law an_law cd_law ct_law), sl_law⟩)
    (c_law : PySem.W.codeIn K cd_law "law" = true)
    (k_law : PySem.W.keepIn K (.ref a_law) = true)
    (n_AnytextError : PySem.W.nsIn K mainGlobals "AnytextError" = some (some (.ref C_AnytextError)))
    (n_MachineError : PySem.W.nsIn K mainGlobals "MachineError" = some (some (.ref C_MachineError)))
    (n_BadMachine : PySem.W.nsIn K mainGlobals "BadMachine" = some (some (.ref C_BadMachine)))
    (ini_BadMachine : PySem.W.findIn K (.ref C_BadMachine) "__init__" = some (some (.ref a_init)))
    (l_init : K.lookup a_init = some ⟨oc_init, od_init, .func (PySem.W.fnOf "__init__" "AnytextError.__init__" (defArgs s_init) (defBody s_init) (defScope s_init) (.ref T_init) kV_init dc_init pm_init an_init cd_init ct_init), sl_init⟩)
    (c_init : PySem.W.codeIn K cd_init "AnytextError.__init__" = true)
    (k_init : PySem.W.keepIn K (.ref a_init) = true)
    (ti_init : PySem.W.typeIn K (.ref a_init) = some (.type "function"))
    (lt_init : K.lookup T_init = some ⟨oc2_init, dd_init, .seq #[.none] nn_init, sm_init⟩)
    (l_BadMachine : K.lookup C_BadMachine = some (excClassObj nm_BadMachine q_BadMachine C_BadMachine N_BadMachine bs_BadMachine [.ref C_MachineError, .ref C_AnytextError, .type "ValueError", .type "Exception", .type "BaseException", .type "object"] true sn_BadMachine sb_BadMachine ab_BadMachine col_BadMachine dd_BadMachine m0_BadMachine m1_BadMachine m2_BadMachine m3_BadMachine m5_BadMachine "ValueError.__new__"))
    (sa_BadMachine : PySem.W.findIn K (.ref C_BadMachine) "__setattr__" = some (some (.builtin "object.__setattr__")))
    (ga_BadMachine : PySem.W.findIn K (.ref C_BadMachine) "__getattribute__" = some (some (.builtin "BaseException.__getattribute__")))
    (gg_BadMachine : PySem.W.findIn K (.ref C_BadMachine) "__getattr__" = some none)
    (nw_BadMachine : PySem.W.findIn K (.ref C_BadMachine) "what" = some none)
    (cc_BadMachine : PySem.W.findIn K (.ref C_BadMachine) "__class__" = some (some (.builtin "object.__class__")))
    (mo_BadMachine : PySem.W.mroIn K C_BadMachine (.type "object") = some true)
    (se_BadMachine : PySem.W.subIn K (.ref C_BadMachine) (.ref C_BadMachine) = some true)
    (kC_BadMachine : PySem.W.keepIn K (.ref C_BadMachine) = true)
    (i_BadMachine : PySem.W.isClsIn K C_BadMachine = true)
    (t_BadMachine : PySem.W.typeIn K (.ref C_BadMachine) = some (.type "type"))
    (e_BadMachine : PySem.W.subIn K (.ref C_BadMachine) (.type "BaseException") = some true)
    (h_BadMachine : PySem.W.hasDictIn K C_BadMachine = true)
    (sp_B : PySem.W.specialIn K (.builtin "object.__class__") "__get__" = some (some (.builtin "getset_descriptor.__get__")))
    (tk_B : PySem.W.takesIn K (.builtin "object.__class__") = some true)
    (n_Machine : PySem.W.nsIn K mainGlobals "Machine" = some (some (.ref C_Machine)))
    (pg_Machine : PySem.W.plainGet K C_Machine Str.empty = true)
    (hd_Machine : PySem.W.hasDictIn K C_Machine = true)
    (po_Machine : PySem.W.plainOver K C_Machine = true)
    (sa_Machine : PySem.W.findIn K (.ref C_Machine) "__setattr__" = some (some (.builtin "object.__setattr__")))
    (mk_Machine : PySem.W.makesIn K C_Machine = true)
    (kc_Machine : PySem.W.keepIn K (.ref C_Machine) = true)
    (na_Machine_letters : PySem.W.findIn K (.ref C_Machine) "letters" = some none)
    (na_Machine_accepting : PySem.W.findIn K (.ref C_Machine) "accepting" = some none)
    (na_Machine_table : PySem.W.findIn K (.ref C_Machine) "table" = some none)
    (i_Machine_init : PySem.W.findIn K (.ref C_Machine) "__init__" = some (some (.ref a_Machine_init)))
    (q_Machine_init : PySem.W.isFn K (.ref a_Machine_init) = true)
    (l_Machine_init : K.lookup a_Machine_init = some ⟨oc_Machine_init, od_Machine_init, .func (PySem.W.fnOf "__init__" "Machine.__init__" (defArgs s_Machine_init) (defBody s_Machine_init) (defScope s_Machine_init) .none kV_Machine_init dc_Machine_init pm_Machine_init an_Machine_init cd_Machine_init ct_Machine_init), sl_Machine_init⟩)
    (c_Machine_init : PySem.W.codeIn K cd_Machine_init "Machine.__init__" = true)
    (k_Machine_init : PySem.W.keepIn K (.ref a_Machine_init) = true)
    (i_Machine_check : PySem.W.findIn K (.ref C_Machine) "check" = some (some (.ref a_Machine_check)))
    (q_Machine_check : PySem.W.isFn K (.ref a_Machine_check) = true)
    (l_Machine_check : K.lookup a_Machine_check = some ⟨oc_Machine_check, od_Machine_check, .func (PySem.W.fnOf "check" "Machine.check" (defArgs s_Machine_check) (defBody s_Machine_check) (defScope s_Machine_check) .none kV_Machine_check dc_Machine_check pm_Machine_check an_Machine_check cd_Machine_check ct_Machine_check), sl_Machine_check⟩)
    (c_Machine_check : PySem.W.codeIn K cd_Machine_check "Machine.check" = true)
    (k_Machine_check : PySem.W.keepIn K (.ref a_Machine_check) = true)
    (i_Machine_run : PySem.W.findIn K (.ref C_Machine) "run" = some (some (.ref a_Machine_run)))
    (q_Machine_run : PySem.W.isFn K (.ref a_Machine_run) = true)
    (l_Machine_run : K.lookup a_Machine_run = some ⟨oc_Machine_run, od_Machine_run, .func (PySem.W.fnOf "run" "Machine.run" (defArgs s_Machine_run) (defBody s_Machine_run) (defScope s_Machine_run) .none kV_Machine_run dc_Machine_run pm_Machine_run an_Machine_run cd_Machine_run ct_Machine_run), sl_Machine_run⟩)
    (c_Machine_run : PySem.W.codeIn K cd_Machine_run "Machine.run" = true)
    (k_Machine_run : PySem.W.keepIn K (.ref a_Machine_run) = true)
    (i_Machine_run_from : PySem.W.findIn K (.ref C_Machine) "run_from" = some (some (.ref a_Machine_run_from)))
    (q_Machine_run_from : PySem.W.isFn K (.ref a_Machine_run_from) = true)
    (l_Machine_run_from : K.lookup a_Machine_run_from = some ⟨oc_Machine_run_from, od_Machine_run_from, .func (PySem.W.fnOf "run_from" "Machine.run_from" (defArgs s_Machine_run_from) (defBody s_Machine_run_from) (defScope s_Machine_run_from) .none kV_Machine_run_from dc_Machine_run_from pm_Machine_run_from an_Machine_run_from cd_Machine_run_from ct_Machine_run_from), sl_Machine_run_from⟩)
    (c_Machine_run_from : PySem.W.codeIn K cd_Machine_run_from "Machine.run_from" = true)
    (k_Machine_run_from : PySem.W.keepIn K (.ref a_Machine_run_from) = true)
    (i_Machine_accepts : PySem.W.findIn K (.ref C_Machine) "accepts" = some (some (.ref a_Machine_accepts)))
    (q_Machine_accepts : PySem.W.isFn K (.ref a_Machine_accepts) = true)
    (l_Machine_accepts : K.lookup a_Machine_accepts = some ⟨oc_Machine_accepts, od_Machine_accepts, .func (PySem.W.fnOf "accepts" "Machine.accepts" (defArgs s_Machine_accepts) (defBody s_Machine_accepts) (defScope s_Machine_accepts) .none kV_Machine_accepts dc_Machine_accepts pm_Machine_accepts an_Machine_accepts cd_Machine_accepts ct_Machine_accepts), sl_Machine_accepts⟩)
    (c_Machine_accepts : PySem.W.codeIn K cd_Machine_accepts "Machine.accepts" = true)
    (k_Machine_accepts : PySem.W.keepIn K (.ref a_Machine_accepts) = true)
    (i_Machine_picture : PySem.W.findIn K (.ref C_Machine) "picture" = some (some (.ref a_Machine_picture)))
    (q_Machine_picture : PySem.W.isFn K (.ref a_Machine_picture) = true)
    (l_Machine_picture : K.lookup a_Machine_picture = some ⟨oc_Machine_picture, od_Machine_picture, .func (PySem.W.fnOf "picture" "Machine.picture" (defArgs s_Machine_picture) (defBody s_Machine_picture) (defScope s_Machine_picture) .none kV_Machine_picture dc_Machine_picture pm_Machine_picture an_Machine_picture cd_Machine_picture ct_Machine_picture), sl_Machine_picture⟩)
    (c_Machine_picture : PySem.W.codeIn K cd_Machine_picture "Machine.picture" = true)
    (k_Machine_picture : PySem.W.keepIn K (.ref a_Machine_picture) = true)
    (z_abs : PySem.W.nsIn K mainGlobals "abs" = some none)
    (z_enumerate : PySem.W.nsIn K mainGlobals "enumerate" = some none)
    (z_int : PySem.W.nsIn K mainGlobals "int" = some none)
    (z_len : PySem.W.nsIn K mainGlobals "len" = some none)
    (z_list : PySem.W.nsIn K mainGlobals "list" = some none)
    (z_max : PySem.W.nsIn K mainGlobals "max" = some none)
    (z_min : PySem.W.nsIn K mainGlobals "min" = some none)
    (z_range : PySem.W.nsIn K mainGlobals "range" = some none)
    (z_reversed : PySem.W.nsIn K mainGlobals "reversed" = some none)
    (z_sum : PySem.W.nsIn K mainGlobals "sum" = some none)
    (z_tuple : PySem.W.nsIn K mainGlobals "tuple" = some none)
    : ∃ fd : FuncData, (∀ (s : Shared) (v : Value), BindsTo s fd ⟨[v], []⟩ [("script", v)]) ∧ ∀ base : Heap, K.In base → base.Ns mainGlobals mg → FnOk l.prog w K mg base CX0 lvLaw fa fd ["script"] (spLaw K) := by
  have e := hfa.symm.trans (PySem.W.mg_of X G n_law)
  cases e
  have f__wall := fun_mk (st := s__wall) l__wall c__wall k__wall
  have b__wall := f__wall.binds (ps := ["k"]) fun _ _ _ _ _ _ us hl => match us, hl with | [_], _ => rfl
  have f_ways_back := fun_mk (st := s_ways_back) l_ways_back c_ways_back k_ways_back
  have b_ways_back := f_ways_back.binds (ps := ["nexts"]) fun _ _ _ _ _ _ us hl => match us, hl with | [_], _ => rfl
  have f_reached := fun_mk (st := s_reached) l_reached c_reached k_reached
  have b_reached := f_reached.binds (ps := ["starts", "nexts"]) fun _ _ _ _ _ _ us hl => match us, hl with | [_, _], _ => rfl
  have f_useful := fun_mk (st := s_useful) l_useful c_useful k_useful
  have b_useful := f_useful.binds (ps := ["machine"]) fun _ _ _ _ _ _ us hl => match us, hl with | [_], _ => rfl
  have f_count := fun_mk (st := s_count) l_count c_count k_count
  have b_count := f_count.binds (ps := ["machine", "length"]) fun _ _ _ _ _ _ us hl => match us, hl with | [_, _], _ => rfl
  have f_place_of := fun_mk (st := s_place_of) l_place_of c_place_of k_place_of
  have b_place_of := f_place_of.binds (ps := ["machine", "text"]) fun _ _ _ _ _ _ us hl => match us, hl with | [_, _], _ => rfl
  have f_text_at := fun_mk (st := s_text_at) l_text_at c_text_at k_text_at
  have b_text_at := f_text_at.binds (ps := ["machine", "place"]) fun _ _ _ _ _ _ us hl => match us, hl with | [_, _], _ => rfl
  have f__longer := fun_mk (st := s__longer) l__longer c__longer k__longer
  have b__longer := f__longer.binds (ps := ["machine", "many"]) fun _ _ _ _ _ _ us hl => match us, hl with | [_, _], _ => rfl
  have f__accepted := fun_mk (st := s__accepted) l__accepted c__accepted k__accepted
  have b__accepted := f__accepted.binds (ps := ["machine", "many"]) fun _ _ _ _ _ _ us hl => match us, hl with | [_, _], _ => rfl
  have f__text_through := fun_mk (st := s__text_through) l__text_through c__text_through k__text_through
  have b__text_through := f__text_through.binds (ps := ["machine", "layers", "left"]) fun _ _ _ _ _ _ us hl => match us, hl with | [_, _, _], _ => rfl
  have f__ends_behind := fun_mk (st := s__ends_behind) l__ends_behind c__ends_behind k__ends_behind
  have b__ends_behind := f__ends_behind.binds (ps := ["machine", "layers"]) fun _ _ _ _ _ _ us hl => match us, hl with | [_, _], _ => rfl
  have f__sums_of_next := fun_mk (st := s__sums_of_next) l__sums_of_next c__sums_of_next k__sums_of_next
  have b__sums_of_next := f__sums_of_next.binds (ps := ["machine", "layer", "ends"]) fun _ _ _ _ _ _ us hl => match us, hl with | [_, _, _], _ => rfl
  have f_cell := fun_mk (st := s_cell) l_cell c_cell k_cell
  have b_cell := f_cell.binds (ps := ["script", "k"]) fun _ _ _ _ _ _ us hl => match us, hl with | [_, _], _ => rfl
  have f_numbers := fun_mk (st := s_numbers) l_numbers c_numbers k_numbers
  have b_numbers := f_numbers.binds (ps := ["cell", "many"]) fun _ _ _ _ _ _ us hl => match us, hl with | [_, _], _ => rfl
  have f_state := fun_mk (st := s_state) l_state c_state k_state
  have b_state := f_state.binds (ps := ["script", "start", "many"]) fun _ _ _ _ _ _ us hl => match us, hl with | [_, _, _], _ => rfl
  have f_next := fun_mk (st := s_next) l_next c_next k_next
  have b_next := f_next.binds (ps := ["state", "many"]) fun _ _ _ _ _ _ us hl => match us, hl with | [_, _], _ => rfl
  have f_letters := fun_mk (st := s_letters) l_letters c_letters k_letters
  have b_letters := f_letters.binds (ps := ["state", "most"]) fun _ _ _ _ _ _ us hl => match us, hl with | [_, _], _ => rfl
  have f_texts := fun_mk (st := s_texts) l_texts c_texts k_texts
  have b_texts := f_texts.binds (ps := ["letters", "most"]) fun _ _ _ _ _ _ us hl => match us, hl with | [_, _], _ => rfl
  have f_parts := fun_mk (st := s_parts) l_parts c_parts k_parts
  have b_parts := f_parts.binds (ps := ["letters", "state", "most"]) fun _ _ _ _ _ _ us hl => match us, hl with | [_, _, _], _ => rfl
  have f_accepts := fun_mk (st := s_accepts) l_accepts c_accepts k_accepts
  have b_accepts := f_accepts.binds (ps := ["letters", "accepting", "table", "text"]) fun _ _ _ _ _ _ us hl => match us, hl with | [_, _, _, _], _ => rfl
  have f_ways := fun_mk (st := s_ways) l_ways c_ways k_ways
  have b_ways := f_ways.binds (ps := ["letters", "accepting", "table", "length"]) fun _ _ _ _ _ _ us hl => match us, hl with | [_, _, _, _], _ => rfl
  have f_before := fun_mk (st := s_before) l_before c_before k_before
  have b_before := f_before.binds (ps := ["letters", "accepting", "table", "text"]) fun _ _ _ _ _ _ us hl => match us, hl with | [_, _, _, _], _ => rfl
  have f_law := fun_mk (st := s_law) l_law c_law k_law
  have b_law := f_law.binds (ps := ["script"]) fun _ _ _ _ _ _ us hl => match us, hl with | [_], _ => rfl
  have f_Machine_init := fun_mk (st := s_Machine_init) l_Machine_init c_Machine_init k_Machine_init
  have b_Machine_init := f_Machine_init.binds (ps := ["self", "letters", "accepting", "table"]) fun _ _ _ _ _ _ us hl => match us, hl with | [_, _, _, _], _ => rfl
  have f_Machine_check := fun_mk (st := s_Machine_check) l_Machine_check c_Machine_check k_Machine_check
  have b_Machine_check := f_Machine_check.binds (ps := ["self"]) fun _ _ _ _ _ _ us hl => match us, hl with | [_], _ => rfl
  have f_Machine_run := fun_mk (st := s_Machine_run) l_Machine_run c_Machine_run k_Machine_run
  have b_Machine_run := f_Machine_run.binds (ps := ["self", "text"]) fun _ _ _ _ _ _ us hl => match us, hl with | [_, _], _ => rfl
  have f_Machine_run_from := fun_mk (st := s_Machine_run_from) l_Machine_run_from c_Machine_run_from k_Machine_run_from
  have b_Machine_run_from := f_Machine_run_from.binds (ps := ["self", "state", "text"]) fun _ _ _ _ _ _ us hl => match us, hl with | [_, _, _], _ => rfl
  have f_Machine_accepts := fun_mk (st := s_Machine_accepts) l_Machine_accepts c_Machine_accepts k_Machine_accepts
  have b_Machine_accepts := f_Machine_accepts.binds (ps := ["self", "text"]) fun _ _ _ _ _ _ us hl => match us, hl with | [_, _], _ => rfl
  have f_Machine_picture := fun_mk (st := s_Machine_picture) l_Machine_picture c_Machine_picture k_Machine_picture
  have b_Machine_picture := f_Machine_picture.binds (ps := ["self"]) fun _ _ _ _ _ _ us hl => match us, hl with | [_], _ => rfl
  have fI : FunD K "__init__" "AnytextError.__init__" (defArgs s_init) (defBody s_init) (defScope s_init) [.non] [] a_init _ := ⟨⟨oc_init, od_init, .ref T_init, kV_init, dc_init, pm_init, an_init, cd_init, ct_init, sl_init, rfl, l_init, c_init, .inr ⟨(fun z => nomatch z), T_init, _, [.none], nn_init, rfl, lt_init, rfl, .cons rfl .nil⟩, .inl rfl⟩, k_init⟩
  have bI0 := fI.binds1 (ps := ["self", "what"]) 2 1 (fun z => nomatch z) rfl fun T kV doc pm an cdv ct us its hu hi => match us, hu, its, hi with | [_, _], _, [_], _ => ⟨_, rfl, rfl⟩
  have bI : Binds K (PySem.W.fnOf "__init__" "AnytextError.__init__" (defArgs s_init) (defBody s_init) (defScope s_init) (.ref T_init) kV_init dc_init pm_init an_init cd_init ct_init) ["self", "what"] [] := by
    obtain ⟨ds, hv, hb⟩ := bI0
    cases hv
    exact hb
  let T : Txt K mg := {
    C_Machine := C_Machine, g_Machine := PySem.W.mg_of X G n_Machine, cl_Machine := ⟨pg_Machine, hd_Machine, po_Machine, sa_Machine⟩,
    na_Machine_letters := na_Machine_letters,
    na_Machine_accepting := na_Machine_accepting,
    na_Machine_table := na_Machine_table,
    a_Machine_init := a_Machine_init, d_Machine_init := _, f_Machine_init := f_Machine_init, b_Machine_init := b_Machine_init,
    mk_Machine := ⟨mk_Machine, i_Machine_init, q_Machine_init, kc_Machine⟩,
    a_Machine_check := a_Machine_check, d_Machine_check := _, f_Machine_check := f_Machine_check, b_Machine_check := b_Machine_check,
    m_Machine_check := ⟨i_Machine_check, q_Machine_check, k_Machine_check⟩,
    a_Machine_run := a_Machine_run, d_Machine_run := _, f_Machine_run := f_Machine_run, b_Machine_run := b_Machine_run,
    m_Machine_run := ⟨i_Machine_run, q_Machine_run, k_Machine_run⟩,
    a_Machine_run_from := a_Machine_run_from, d_Machine_run_from := _, f_Machine_run_from := f_Machine_run_from, b_Machine_run_from := b_Machine_run_from,
    m_Machine_run_from := ⟨i_Machine_run_from, q_Machine_run_from, k_Machine_run_from⟩,
    a_Machine_accepts := a_Machine_accepts, d_Machine_accepts := _, f_Machine_accepts := f_Machine_accepts, b_Machine_accepts := b_Machine_accepts,
    m_Machine_accepts := ⟨i_Machine_accepts, q_Machine_accepts, k_Machine_accepts⟩,
    a_Machine_picture := a_Machine_picture, d_Machine_picture := _, f_Machine_picture := f_Machine_picture, b_Machine_picture := b_Machine_picture,
    m_Machine_picture := ⟨i_Machine_picture, q_Machine_picture, k_Machine_picture⟩,
    a__wall := a__wall, d__wall := _, f__wall := f__wall, o__wall := ⟨PySem.W.mg_of X G n__wall, k__wall, b__wall⟩,
    a_ways_back := a_ways_back, d_ways_back := _, f_ways_back := f_ways_back, o_ways_back := ⟨PySem.W.mg_of X G n_ways_back, k_ways_back, b_ways_back⟩,
    a_reached := a_reached, d_reached := _, f_reached := f_reached, o_reached := ⟨PySem.W.mg_of X G n_reached, k_reached, b_reached⟩,
    a_useful := a_useful, d_useful := _, f_useful := f_useful, o_useful := ⟨PySem.W.mg_of X G n_useful, k_useful, b_useful⟩,
    a_count := a_count, d_count := _, f_count := f_count, o_count := ⟨PySem.W.mg_of X G n_count, k_count, b_count⟩,
    a_place_of := a_place_of, d_place_of := _, f_place_of := f_place_of, o_place_of := ⟨PySem.W.mg_of X G n_place_of, k_place_of, b_place_of⟩,
    a_text_at := a_text_at, d_text_at := _, f_text_at := f_text_at, o_text_at := ⟨PySem.W.mg_of X G n_text_at, k_text_at, b_text_at⟩,
    a__longer := a__longer, d__longer := _, f__longer := f__longer, o__longer := ⟨PySem.W.mg_of X G n__longer, k__longer, b__longer⟩,
    a__accepted := a__accepted, d__accepted := _, f__accepted := f__accepted, o__accepted := ⟨PySem.W.mg_of X G n__accepted, k__accepted, b__accepted⟩,
    a__text_through := a__text_through, d__text_through := _, f__text_through := f__text_through, o__text_through := ⟨PySem.W.mg_of X G n__text_through, k__text_through, b__text_through⟩,
    a__ends_behind := a__ends_behind, d__ends_behind := _, f__ends_behind := f__ends_behind, o__ends_behind := ⟨PySem.W.mg_of X G n__ends_behind, k__ends_behind, b__ends_behind⟩,
    a__sums_of_next := a__sums_of_next, d__sums_of_next := _, f__sums_of_next := f__sums_of_next, o__sums_of_next := ⟨PySem.W.mg_of X G n__sums_of_next, k__sums_of_next, b__sums_of_next⟩,
    a_cell := a_cell, d_cell := _, f_cell := f_cell, o_cell := ⟨PySem.W.mg_of X G n_cell, k_cell, b_cell⟩,
    a_numbers := a_numbers, d_numbers := _, f_numbers := f_numbers, o_numbers := ⟨PySem.W.mg_of X G n_numbers, k_numbers, b_numbers⟩,
    a_state := a_state, d_state := _, f_state := f_state, o_state := ⟨PySem.W.mg_of X G n_state, k_state, b_state⟩,
    a_next := a_next, d_next := _, f_next := f_next, o_next := ⟨PySem.W.mg_of X G n_next, k_next, b_next⟩,
    a_letters := a_letters, d_letters := _, f_letters := f_letters, o_letters := ⟨PySem.W.mg_of X G n_letters, k_letters, b_letters⟩,
    a_texts := a_texts, d_texts := _, f_texts := f_texts, o_texts := ⟨PySem.W.mg_of X G n_texts, k_texts, b_texts⟩,
    a_parts := a_parts, d_parts := _, f_parts := f_parts, o_parts := ⟨PySem.W.mg_of X G n_parts, k_parts, b_parts⟩,
    a_accepts := a_accepts, d_accepts := _, f_accepts := f_accepts, o_accepts := ⟨PySem.W.mg_of X G n_accepts, k_accepts, b_accepts⟩,
    a_ways := a_ways, d_ways := _, f_ways := f_ways, o_ways := ⟨PySem.W.mg_of X G n_ways, k_ways, b_ways⟩,
    a_before := a_before, d_before := _, f_before := f_before, o_before := ⟨PySem.W.mg_of X G n_before, k_before, b_before⟩,
    a_law := _, d_law := _, f_law := f_law, o_law := ⟨PySem.W.mg_of X G n_law, k_law, b_law⟩,
    a_init := a_init, d_init := _, T_init := T_init, f_init := fI, tI := ti_init, bI := bI,
    C_AnytextError := C_AnytextError,
    C_MachineError := C_MachineError,
    C_BadMachine := C_BadMachine,
    g_BadMachine := PySem.W.mg_of X G n_BadMachine,
    x_BadMachine := ⟨⟨⟨nm_BadMachine, q_BadMachine, N_BadMachine, bs_BadMachine, _, sn_BadMachine, sb_BadMachine, ab_BadMachine, col_BadMachine, dd_BadMachine, m0_BadMachine, m1_BadMachine, m2_BadMachine, m3_BadMachine, m5_BadMachine, l_BadMachine, by rfl⟩, sa_BadMachine, e_BadMachine, t_BadMachine, kC_BadMachine⟩, ⟨ga_BadMachine, gg_BadMachine, e_BadMachine, h_BadMachine⟩, nw_BadMachine, ini_BadMachine, i_BadMachine, cc_BadMachine, mo_BadMachine, se_BadMachine⟩,
    clsB := ⟨sp_B, tk_B⟩,
    nb_abs := PySem.W.mg_none_of X G z_abs,
    nb_enumerate := PySem.W.mg_none_of X G z_enumerate,
    nb_int := PySem.W.mg_none_of X G z_int,
    nb_len := PySem.W.mg_none_of X G z_len,
    nb_list := PySem.W.mg_none_of X G z_list,
    nb_max := PySem.W.mg_none_of X G z_max,
    nb_min := PySem.W.mg_none_of X G z_min,
    nb_range := PySem.W.mg_none_of X G z_range,
    nb_reversed := PySem.W.mg_none_of X G z_reversed,
    nb_sum := PySem.W.mg_none_of X G z_sum,
    nb_tuple := PySem.W.mg_none_of X G z_tuple }
  exact ⟨T.d_law, fun s v => .of_eq rfl, fun base _ _ => ok_law T⟩
end AT
open PySem PySem.W PyProof.Rows
set_option maxRecDepth 100000 in
set_option maxHeartbeats 0 in
theorem PySem.Challenge.cw_anytext_k15_counting_holds : PySem.Challenge.rw_anytext_k15_counting.Holds := by
  w_on; o_law; k_head; (case hw => w_witness2)
  k_fill
  refine L2.walk_ofK (l := PySem.Challenge.rw_anytext_k15_counting) (n := 63) (k := AT.lvLaw) (x := "script") (CX := L2.CX0) (sp := AT.spLaw) rfl (by decide) rfl ⟨rfl, by decide, by decide⟩ (fun w h Y => PySem.W.kIn_of Y) ?F (fun _ _ a ns hl _ hS => ⟨a, ns, rfl, hS, hl, fun _ => rfl⟩) fun _ _ _ _ z => z
  case F =>
    intro w mg fa h KX G hmg
    refine' AT.all_mk KX G hmg ?n__wall ?l__wall ?c__wall ?k__wall ?n_ways_back ?l_ways_back ?c_ways_back ?k_ways_back ?n_reached ?l_reached ?c_reached ?k_reached ?n_useful ?l_useful ?c_useful ?k_useful ?n_count ?l_count ?c_count ?k_count ?n_place_of ?l_place_of ?c_place_of ?k_place_of ?n_text_at ?l_text_at ?c_text_at ?k_text_at ?n__longer ?l__longer ?c__longer ?k__longer ?n__accepted ?l__accepted ?c__accepted ?k__accepted ?n__text_through ?l__text_through ?c__text_through ?k__text_through ?n__ends_behind ?l__ends_behind ?c__ends_behind ?k__ends_behind ?n__sums_of_next ?l__sums_of_next ?c__sums_of_next ?k__sums_of_next ?n_cell ?l_cell ?c_cell ?k_cell ?n_numbers ?l_numbers ?c_numbers ?k_numbers ?n_state ?l_state ?c_state ?k_state ?n_next ?l_next ?c_next ?k_next ?n_letters ?l_letters ?c_letters ?k_letters ?n_texts ?l_texts ?c_texts ?k_texts ?n_parts ?l_parts ?c_parts ?k_parts ?n_accepts ?l_accepts ?c_accepts ?k_accepts ?n_ways ?l_ways ?c_ways ?k_ways ?n_before ?l_before ?c_before ?k_before ?n_law ?l_law ?c_law ?k_law ?n_AnytextError ?n_MachineError ?n_BadMachine ?ini_BadMachine ?l_init ?c_init ?k_init ?ti_init ?lt_init ?l_BadMachine ?sa_BadMachine ?ga_BadMachine ?gg_BadMachine ?nw_BadMachine ?cc_BadMachine ?mo_BadMachine ?se_BadMachine ?kC_BadMachine ?i_BadMachine ?t_BadMachine ?e_BadMachine ?h_BadMachine ?sp_B ?tk_B ?n_Machine ?pg_Machine ?hd_Machine ?po_Machine ?sa_Machine ?mk_Machine ?kc_Machine ?na_Machine_letters ?na_Machine_accepting ?na_Machine_table ?i_Machine_init ?q_Machine_init ?l_Machine_init ?c_Machine_init ?k_Machine_init ?i_Machine_check ?q_Machine_check ?l_Machine_check ?c_Machine_check ?k_Machine_check ?i_Machine_run ?q_Machine_run ?l_Machine_run ?c_Machine_run ?k_Machine_run ?i_Machine_run_from ?q_Machine_run_from ?l_Machine_run_from ?c_Machine_run_from ?k_Machine_run_from ?i_Machine_accepts ?q_Machine_accepts ?l_Machine_accepts ?c_Machine_accepts ?k_Machine_accepts ?i_Machine_picture ?q_Machine_picture ?l_Machine_picture ?c_Machine_picture ?k_Machine_picture ?z_abs ?z_enumerate ?z_int ?z_len ?z_list ?z_max ?z_min ?z_range ?z_reversed ?z_sum ?z_tuple
    (case n__wall => k_is); (case l__wall => k_is); (case c__wall => k_is); (case k__wall => k_is); (case n_ways_back => k_is); (case l_ways_back => k_is)
    (case c_ways_back => k_is); (case k_ways_back => k_is); (case n_reached => k_is); (case l_reached => k_is); (case c_reached => k_is); (case k_reached => k_is)
    (case n_useful => k_is); (case l_useful => k_is); (case c_useful => k_is); (case k_useful => k_is); (case n_count => k_is); (case l_count => k_is)
    (case c_count => k_is); (case k_count => k_is); (case n_place_of => k_is); (case l_place_of => k_is); (case c_place_of => k_is); (case k_place_of => k_is)
    (case n_text_at => k_is); (case l_text_at => k_is); (case c_text_at => k_is); (case k_text_at => k_is); (case n__longer => k_is); (case l__longer => k_is)
    (case c__longer => k_is); (case k__longer => k_is); (case n__accepted => k_is); (case l__accepted => k_is); (case c__accepted => k_is); (case k__accepted => k_is)
    (case n__text_through => k_is); (case l__text_through => k_is); (case c__text_through => k_is); (case k__text_through => k_is); (case n__ends_behind => k_is); (case l__ends_behind => k_is)
    (case c__ends_behind => k_is); (case k__ends_behind => k_is); (case n__sums_of_next => k_is); (case l__sums_of_next => k_is); (case c__sums_of_next => k_is); (case k__sums_of_next => k_is)
    (case n_cell => k_is); (case l_cell => k_is); (case c_cell => k_is); (case k_cell => k_is); (case n_numbers => k_is); (case l_numbers => k_is)
    (case c_numbers => k_is); (case k_numbers => k_is); (case n_state => k_is); (case l_state => k_is); (case c_state => k_is); (case k_state => k_is)
    (case n_next => k_is); (case l_next => k_is); (case c_next => k_is); (case k_next => k_is); (case n_letters => k_is); (case l_letters => k_is)
    (case c_letters => k_is); (case k_letters => k_is); (case n_texts => k_is); (case l_texts => k_is); (case c_texts => k_is); (case k_texts => k_is)
    (case n_parts => k_is); (case l_parts => k_is); (case c_parts => k_is); (case k_parts => k_is); (case n_accepts => k_is); (case l_accepts => k_is)
    (case c_accepts => k_is); (case k_accepts => k_is); (case n_ways => k_is); (case l_ways => k_is); (case c_ways => k_is); (case k_ways => k_is)
    (case n_before => k_is); (case l_before => k_is); (case c_before => k_is); (case k_before => k_is); (case n_law => k_is); (case l_law => k_is)
    (case c_law => k_is); (case k_law => k_is); (case n_AnytextError => k_is); (case n_MachineError => k_is); (case n_BadMachine => k_is); (case ini_BadMachine => k_is)
    (case l_init => k_is); (case c_init => k_is); (case k_init => k_is); (case ti_init => k_is); (case lt_init => k_is); (case l_BadMachine => k_is)
    (case sa_BadMachine => k_is); (case ga_BadMachine => k_is); (case gg_BadMachine => k_is); (case nw_BadMachine => k_is); (case cc_BadMachine => k_is); (case mo_BadMachine => k_is)
    (case se_BadMachine => k_is); (case kC_BadMachine => k_is); (case i_BadMachine => k_is); (case t_BadMachine => k_is); (case e_BadMachine => k_is); (case h_BadMachine => k_is)
    (case sp_B => k_is); (case tk_B => k_is); (case n_Machine => k_is); (case pg_Machine => k_is); (case hd_Machine => k_is); (case po_Machine => k_is)
    (case sa_Machine => k_is); (case mk_Machine => k_is); (case kc_Machine => k_is); (case na_Machine_letters => k_is); (case na_Machine_accepting => k_is); (case na_Machine_table => k_is)
    (case i_Machine_init => k_is); (case q_Machine_init => k_is); (case l_Machine_init => k_is); (case c_Machine_init => k_is); (case k_Machine_init => k_is); (case i_Machine_check => k_is)
    (case q_Machine_check => k_is); (case l_Machine_check => k_is); (case c_Machine_check => k_is); (case k_Machine_check => k_is); (case i_Machine_run => k_is); (case q_Machine_run => k_is)
    (case l_Machine_run => k_is); (case c_Machine_run => k_is); (case k_Machine_run => k_is); (case i_Machine_run_from => k_is); (case q_Machine_run_from => k_is); (case l_Machine_run_from => k_is)
    (case c_Machine_run_from => k_is); (case k_Machine_run_from => k_is); (case i_Machine_accepts => k_is); (case q_Machine_accepts => k_is); (case l_Machine_accepts => k_is); (case c_Machine_accepts => k_is)
    (case k_Machine_accepts => k_is); (case i_Machine_picture => k_is); (case q_Machine_picture => k_is); (case l_Machine_picture => k_is); (case c_Machine_picture => k_is); (case k_Machine_picture => k_is)
    (case z_abs => k_is); (case z_enumerate => k_is); (case z_int => k_is); (case z_len => k_is); (case z_list => k_is); (case z_max => k_is)
    (case z_min => k_is); (case z_range => k_is); (case z_reversed => k_is); (case z_sum => k_is); (case z_tuple => k_is)

