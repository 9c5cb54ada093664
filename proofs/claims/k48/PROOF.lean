import PyProof.Rows.All
import Wide.All
import OpenK.AllK
import Wide.FinOn
import HandS.ForMost
import HandS.ForExc
import HandS.Walk
import HandS.Evl
import HandS.ExcInit
import HandS.ExcField
import HandS.ExcIs
import HandS.IsInst
import HandS.RaiseMore
import HandS.TupAny
import HandS.TryOnly
import HandS.Defaults
import HandS.Steps
import KE.KExcIs
import HandS.TupMul
import PyProof.ReprRoads
import HandS.Replace
import KE.DataMinMax
import KE.DataCmp
import PyProof.StrBlock2
import HandS.Ends
import HandS.Style
import KE.KDictDisplayH
import PyProof.Draws
import PyProof.EnumMake
import PyProof.WalksMore
import HandS.Zip0
import HandS.DictComp
import HandS.TupLe
import HandS.Nested
import HandS.NestedK
import HandS.EndTab
import HandS.HeadWalk
import KE.KNestM
import HandS.Rev
import HandS.MapObj
import PyProof.StrWalks
import PyProof.JoinWalk
import HandS.Strs
import HandS.Conv
import PyProof.ListIndex
import HandS.SetKeys
import HandS.SetBool
import HandS.SortInts
import KE.KDictKeyed
import HandS.SetFor
import HandS.Flow
import HandS.WordsDict
import KE.KRevSl
import PySem.Challenge.RW_anytext_k48_values_written
set_option Elab.async false
set_option linter.all false
set_option maxRecDepth 100000
set_option maxHeartbeats 4000000
/-! own words: readings step by step, operators by several kinds of values -/
namespace AT
open PySem PySem.Spec PyProof.Rows L2
abbrev Ex := Evl.Ex
section
variable {X : Cx} {f : Value → Value → Sem Value} {r r' : R2}
theorem OpR.or (h : OpR X f r) (h' : OpR X f r') : OpR X f (fun x y H Q => r x y H Q ∨ r' x y H Q) := by
  intro pins s σ H x y v u Q I rx ry q
  rcases q with q | q
  · exact h pins s σ H x y v u Q I rx ry q
  · exact h' pins s σ H x y v u Q I rx ry q
theorem CallR.or {f : Value} {r r' : List V → Hp → VK → Prop} (h : CallR X f r) (h' : CallR X f r') : CallR X f (fun x H Q => r x H Q ∨ r' x H Q) := by
  intro pins s σ H x us Q I rx q
  rcases q with q | q
  · exact h pins s σ H x us Q I rx q
  · exact h' pins s σ H x us Q I rx q
end
/-! ### operators -/
/-- + of ints, of texts, of lists -/
def oAdd (K : PySem.W.Frag) : R2 := fun x y H Q => (rI0 (fun i j => .int (i + j)) x y H Q) ∨ (∃ i j : Str, x = .str i ∧ y = .str j ∧ i.length + j.length ≤ sizeLine ∧ Q (.str (i ++ j)) H) ∨ rCat x y H Q ∨ rCatT K x y H Q
theorem op_addP {X : Cx} : OpR X (binaryOp .Add) (oAdd X.K) := OpR.or op_add (OpR.or op_add_str (OpR.or op_cat op_catT))
def oSub : R2 := rI0 fun i j => .int (i - j)
theorem op_subP {X : Cx} : OpR X (binaryOp .Sub) oSub := op_sub
def oMul : R2 := rI CMul fun i j => .int (i * j)
theorem op_mulP {X : Cx} : OpR X (binaryOp .Mult) oMul := op_mul
def oMod : R2 := rI (fun _ j => j ≠ 0) fun i j => .int (i.fmod j)
theorem op_modP {X : Cx} : OpR X (binaryOp .Mod) oMod := op_modN
def oDiv : R2 := rI CDivN fun i j => .int (i.fdiv j)
theorem op_divP {X : Cx} : OpR X (binaryOp .FloorDiv) oDiv := op_fdivN
def oPow : R2 := rI CPow fun i j => .int (i ^ j.toNat)
theorem op_powP {X : Cx} : OpR X (binaryOp .Pow) oPow := op_pow
def oLt : R2 := rI0 fun i j => .bl (decide (i < j))
def oLe : R2 := rI0 fun i j => .bl (decide (i ≤ j))
def oGt : R2 := rI0 fun i j => .bl (decide (j < i))
def oGe : R2 := rI0 fun i j => .bl (decide (j ≤ i))
theorem op_ltP {X : Cx} : OpR X (compareOp .Lt) oLt := op_lt
theorem op_leP {X : Cx} : OpR X (compareOp .LtE) oLe := op_le
theorem op_gtP {X : Cx} : OpR X (compareOp .Gt) oGt := op_gt
theorem op_geP {X : Cx} : OpR X (compareOp .GtE) oGe := op_ge
/-- == of ints, bools, texts; of data -/
def oEq (K : PySem.W.Frag) : R2 := fun x y H Q => rEq x y H Q ∨ rEqD K x y H Q
def oNe (K : PySem.W.Frag) : R2 := fun x y H Q => rNe x y H Q ∨ rNeD K x y H Q
theorem op_eqP {X : Cx} (hu : X.A.units + 64 < cLine) : OpR X (compareOp .Eq) (oEq X.K) := OpR.or op_eq (op_eqD hu)
theorem op_neP {X : Cx} (hu : X.A.units + 64 < cLine) : OpR X (compareOp .NotEq) (oNe X.K) := OpR.or op_ne (op_neD hu)

/-! ### reading, step by step -/
section rd
variable {K : PySem.W.Frag} {σ : L2.St} {H : Hp} {Q : VK} {QB : Bool → Hp → Prop} {QL : List V → Hp → Prop} {D : Ends} {ta tb tc te to : TE} {tt uu : TT} {tl : TA} {t u : TS} {g : TG} {i : Nat} {v w x y : V} {r r' : R2} {QS : L2.St → Hp → Prop}
theorem rd_seq (h : t { D with nx := u D } σ H) : tSeq t u D σ H := h
theorem rd_asg (h : te σ H fun x H1 => g x σ H1 D.nx) : tAsg te g D σ H := h
theorem rd_name (h : QS (σ.set i (some v)) H) : gName i v σ H QS := h
theorem rd_var (e : σ[i]? = some (some v)) (h : Q v H) : tVar i σ H Q := ⟨v, e, h⟩
theorem rd_c (h : Q v H) : tC v σ H Q := h
theorem rd_op (h : ta σ H fun x H1 => tb σ H1 fun y H2 => r x y H2 Q) : tOp r ta tb σ H Q := h
theorem rd_ret (h : te σ H D.rt) : tRet te D σ H := h
theorem rd_retN (h : D.rt .non H) : tRetN D σ H := h
theorem rd_if (h : tt σ H fun b H1 => if b = true then t D σ H1 else u D σ H1) : tIfS tt t u D σ H := h
theorem rd_ife (h : tt σ H fun b H1 => if b = true then ta σ H1 Q else tb σ H1 Q) : tIf tt ta tb σ H Q := h
theorem rd_next (h : D.nx σ H) : tNext D σ H := h
theorem rd_drop (h : te σ H fun _ H1 => D.nx σ H1) : tDrop te D σ H := h
theorem rd_test (h : te σ H fun x H' => ∃ k, x = .bl k ∧ QB k H') : tTest te σ H QB := h
theorem rd_tB (h : te σ H fun x H' => ∃ k, x = .bl k ∧ QB k H') : tB te σ H QB := h
theorem rd_bl {b : Bool} {P : Bool → Prop} (h : P b) : ∃ k, V.bl b = .bl k ∧ P k := ⟨b, rfl, h⟩
theorem rd_not (h : tt σ H fun c H1 => QB (!c) H1) : tNot tt σ H QB := h
theorem rd_and (h : tt σ H fun c H1 => if c = true then uu σ H1 QB else QB false H1) : tAnd tt uu σ H QB := h
theorem rd_or (h : tt σ H fun c H1 => if c = true then QB true H1 else uu σ H1 QB) : tOr tt uu σ H QB := h
theorem rd_nil (h : QL [] H) : tNil σ H QL := h
theorem rd_cons (h : ta σ H fun x H1 => tl σ H1 fun xs H2 => QL (x :: xs) H2) : tCons ta tl σ H QL := h
theorem rd_lst (h : tl σ H fun xs H1 => xs.length ≤ sizeLine ∧ ∀ p, H1 p = none → Q (.ref p) (upd H1 p (.lst xs))) : tLst tl σ H Q := h
theorem rd_tup (h : tl σ H fun xs H1 => xs.length ≤ sizeLine ∧ ∀ p, H1 p = none → Q (.ref p) (upd H1 p (.tup xs))) : tTup tl σ H Q := h
theorem rd_cb {rc : List V → Hp → VK → Prop} (h : tl σ H fun vs H1 => rc vs H1 Q) : tCB rc tl σ H Q := h
theorem rd_chain (h : ta σ H fun x H1 => tb σ H1 fun y H2 => r x y H2 fun z H3 => ∃ k, z = .bl k ∧ if k = true then tc σ H3 fun w H4 => r' y w H4 Q else Q (.bl false) H3) : tChain r r' ta tb tc σ H Q := h
theorem rd_call {sp : Sp} {dvs : List V} {E : XK} (h : tl σ H fun vs H1 => sp (vs ++ dvs) H1 Q E) : tCall sp dvs E tl σ H Q := h
theorem rd_iteT {A B : Prop} (h : A) : if true = true then A else B := iteT h
theorem rd_iteF {A B : Prop} (h : B) : if false = true then A else B := iteF h
theorem rd_itet {A B : Prop} {c : Bool} (e : c = true) (h : A) : if c = true then A else B := by rw [e]; exact iteT h
theorem rd_itef {A B : Prop} {c : Bool} (e : c = false) (h : B) : if c = true then A else B := by rw [e]; exact iteF h
theorem rd_ite {A B : Prop} {c : Bool} (h1 : c = true → A) (h2 : c = false → B) : if c = true then A else B := by
  cases c with
  | true => exact iteT (h1 rfl)
  | false => exact iteF (h2 rfl)
theorem rd_iteD {A B p : Prop} [Decidable p] (h1 : p → A) (h2 : ¬ p → B) : if decide p = true then A else B := rd_ite (fun e => h1 (of_decide_eq_true e)) fun e => h2 (of_decide_eq_false e)
theorem rd_iteN {A B p : Prop} [Decidable p] (h1 : ¬ p → A) (h2 : p → B) : if (!decide p) = true then A else B := rd_ite (fun e => h1 (by simpa using e)) fun e => h2 (by simpa using e)
/-! ints -/
variable {a b : Int}
theorem rd_addI (h : Q (.int (a + b)) H) : oAdd K (.int a) (.int b) H Q := .inl ⟨a, b, rfl, rfl, h⟩
theorem rd_subI (h : Q (.int (a - b)) H) : oSub (.int a) (.int b) H Q := ⟨a, b, rfl, rfl, h⟩
theorem rd_mulI (c : CMul a b) (h : Q (.int (a * b)) H) : oMul (.int a) (.int b) H Q := ⟨a, b, rfl, rfl, c, h⟩
theorem rd_modI (c : b ≠ 0) (h : Q (.int (a.fmod b)) H) : oMod (.int a) (.int b) H Q := ⟨a, b, rfl, rfl, c, h⟩
theorem rd_divI (c : CDivN a b) (h : Q (.int (a.fdiv b)) H) : oDiv (.int a) (.int b) H Q := ⟨a, b, rfl, rfl, c, h⟩
theorem rd_powI (c : CPow a b) (h : Q (.int (a ^ b.toNat)) H) : oPow (.int a) (.int b) H Q := ⟨a, b, rfl, rfl, c, h⟩
theorem rd_lt (h : Q (.bl (decide (a < b))) H) : oLt (.int a) (.int b) H Q := ⟨a, b, rfl, rfl, h⟩
theorem rd_le (h : Q (.bl (decide (a ≤ b))) H) : oLe (.int a) (.int b) H Q := ⟨a, b, rfl, rfl, h⟩
theorem rd_gt (h : Q (.bl (decide (b < a))) H) : oGt (.int a) (.int b) H Q := ⟨a, b, rfl, rfl, h⟩
theorem rd_ge (h : Q (.bl (decide (b ≤ a))) H) : oGe (.int a) (.int b) H Q := ⟨a, b, rfl, rfl, h⟩
theorem rd_eqI (h : Q (.bl (decide (a = b))) H) : oEq K (.int a) (.int b) H Q := .inl ⟨rfl, by
  have e : decide (V.int a = V.int b) = decide (a = b) := decide_eq_decide.mpr ⟨fun z => V.int.inj z, fun z => by rw [z]⟩
  rw [e]; exact h⟩
theorem rd_neI (h : Q (.bl (!decide (a = b))) H) : oNe K (.int a) (.int b) H Q := .inl ⟨rfl, by
  have e : decide (V.int a = V.int b) = decide (a = b) := decide_eq_decide.mpr ⟨fun z => V.int.inj z, fun z => by rw [z]⟩
  rw [e]; exact h⟩
theorem rd_eqS {x y : Str} (h : Q (.bl (decide (x = y))) H) : oEq K (.str x) (.str y) H Q := .inl ⟨rfl, by
  have e : decide (V.str x = V.str y) = decide (x = y) := decide_eq_decide.mpr ⟨fun z => V.str.inj z, fun z => by rw [z]⟩
  rw [e]; exact h⟩
theorem rd_neS {x y : Str} (h : Q (.bl (!decide (x = y))) H) : oNe K (.str x) (.str y) H Q := .inl ⟨rfl, by
  have e : decide (V.str x = V.str y) = decide (x = y) := decide_eq_decide.mpr ⟨fun z => V.str.inj z, fun z => by rw [z]⟩
  rw [e]; exact h⟩
theorem rd_addS {x y : Str} (c : x.length + y.length ≤ sizeLine) (h : Q (.str (x ++ y)) H) : oAdd K (.str x) (.str y) H Q := .inr (.inl ⟨x, y, rfl, rfl, c, h⟩)
theorem rd_cat {l m : Addr} {xs ys : List V} (h1 : H l = some (.lst xs)) (h2 : H m = some (.lst ys)) (c : xs.length + ys.length ≤ sizeLine) (h : ∀ p, H p = none → Q (.ref p) (upd H p (.lst (xs ++ ys)))) : oAdd K (.ref l) (.ref m) H Q := .inr (.inr (.inl ⟨l, m, xs, ys, rfl, rfl, h1, h2, c, h⟩))
/-! calls of built-ins -/
end rd
/-! ### heaps -/
theorem ex_upd {H0 H : Hp} {p : Addr} {o : HO} (e : Ex H0 H) (h : H p = none) : Ex H0 (upd H p o) := fun a u q => by
  rw [upd_ne (ne_of_none (e a u q) h)]
  exact e a u q
theorem sq_upd {K : PySem.W.Frag} {H : Hp} {a p : Addr} {o : HO} {xs : List V} (hp : H p = none) (h : SqL K H a xs) : SqL K (upd H p o) a xs := Evl.ex_l (Evl.Ex.new hp) h
theorem sqt_upd {K : PySem.W.Frag} {H : Hp} {a p : Addr} {o : HO} {xs : List V} (hp : H p = none) (h : SqT K H a xs) : SqT K (upd H p o) a xs := Evl.ex_t (Evl.Ex.new hp) h
theorem at_upd {H : Hp} {a p : Addr} {o u : HO} (hp : H p = none) (h : H a = some u) : upd H p o a = some u := by
  rw [upd_ne (ne_of_none h hp)]; exact h

/-! ### more operators: in, len, slices, what is walked, repr -/
section
variable {X : Cx}
def oIn (K : PySem.W.Frag) : R2 := fun x y H Q => (∃ (c : Nat) (z : Str), x = .str ⟨#[c]⟩ ∧ y = .str z ∧ Q (.bl (decide (c ∈ z.cps.toList))) H) ∨ rIn K false x y H Q
def oNotIn (K : PySem.W.Frag) : R2 := fun x y H Q => (∃ (c : Nat) (z : Str), x = .str ⟨#[c]⟩ ∧ y = .str z ∧ Q (.bl (!decide (c ∈ z.cps.toList))) H) ∨ rIn K true x y H Q
theorem op_inP : OpR X (compareOp .In) (oIn X.K) := OpR.or op_in_sign op_in_seq
theorem op_notInP : OpR X (compareOp .NotIn) (oNotIn X.K) := OpR.or op_notIn_sign op_notIn_seq
def cLen (K : PySem.W.Frag) : List V → Hp → VK → Prop := fun xs H Q => (∃ x n, xs = [x] ∧ LenV K x H n ∧ Q (.int n) H) ∨ ∃ a kvs, xs = [V.ref a] ∧ H a = some (.dK kvs) ∧ Q (.int kvs.length) H
theorem call_lenP : CallR X (.builtin "len") (cLen X.K) := CallR.or call_len call_lenD
def cInt : List V → Hp → VK → Prop := fun xs H Q => (∃ i, xs = [.int i] ∧ Q (.int i) H) ∨ ∃ k, xs = [.bl k] ∧ Q (.int (if k then 1 else 0)) H
theorem call_intP : CallR X (.type "int") cInt := call_int1
def cAbs : List V → Hp → VK → Prop := fun xs H Q => ∃ i, xs = [.int i] ∧ Q (.int (if i < 0 then -i else i)) H
theorem call_absP : CallR X (.builtin "abs") cAbs := call_abs
def oSl (K : PySem.W.Frag) : V → Option Int → Option Int → Hp → VK → Prop := fun x lo hi H Q => rSlL K x lo hi H Q ∨ rSlS x lo hi H Q ∨ rSlA K x lo hi H Q
theorem sl_P : SlR X (oSl X.K) := SlR.or sl_list (SlR.or sl_str sl_tupA)
theorem PI.or {tg iter : Expr} {w w' : TI} (h : PI X tg iter w) (h' : PI X tg iter w') : PI X tg iter (fun σ H R => w σ H R ∨ w' σ H R) :=
  ⟨fun pins s σ H R I q => q.elim (h.run pins s σ H R I) (h'.run pins s σ H R I)⟩
def iAny (K : PySem.W.Frag) (te : TE) : TI := fun σ H R => iList K te σ H R ∨ iTup K te σ H R ∨ iStr te σ H R
theorem pi_any {tg e : Expr} {te : TE} (he : PE X e te) : PI X tg e (iAny X.K te) := PI.or (pi_list he) (PI.or (pi_tup he) (pi_str he))
theorem call_repr_bl : CallR X (.builtin "repr") (fun xs H Q => ∃ b, xs = [.bl b] ∧ Q (.str (if b then "True" else "False")) H) := by
  intro pins s σ H xs us Q I r h
  obtain ⟨b, rfl, q⟩ := h
  obtain ⟨u, rfl, ru⟩ := vals1 r
  cases (show u = Value.bool b from ru)
  exact PySem.P.repr_of_bool ⟨.str _, H, I.tok _, ⟨_, rfl⟩, q⟩
def cRepr : List V → Hp → VK → Prop := fun xs H Q => (∃ i, xs = [.int i] ∧ i.natAbs.log2 < 1920 ∧ Q (.str (toString i)) H) ∨ ∃ b, xs = [.bl b] ∧ Q (.str (if b then "True" else "False")) H
theorem call_reprP : CallR X (.builtin "repr") cRepr := CallR.or SkE.call_repr_int call_repr_bl
end
/-! ### own defs -/
/-- the def named x stands at f; all its parameters are written at a call -/
structure Own (K : PySem.W.Frag) (mg : Str → Option Value) (x : Str) (f : Addr) (fd : FuncData) (ps : List Str) : Prop where
  g : mg x = some (.ref f)
  k : PySem.W.keepIn K (.ref f) = true
  b : Binds K fd ps []
section
variable {X : Cx} {k : Nat} {f : Addr} {fd : FuncData} {ps : List Str} {sp : Sp} {x : Str} {p pos : Pos} {e : Expr} {es : List Expr} {t : TA}
def tCalled (sp : Sp) (t : TA) : TE := fun σ H Q => t σ H fun vs H1 => sp vs H1 Q E0
/-- a call of a def that raises nothing -/
theorem pe_callE (F : FnOk X.prog X.w X.K X.mg X.base CX0 k f fd ps sp) (hr : Room k X.A) (O : Own X.K X.mg x f fd ps) (ha : PA X (e :: es) t) (hg : Gl X x := by rfl)
    (hdb : (x == ("__debug__" : Str)) = false := by decide) (he : starEach (e :: es) X.env = (false, eval e X.env) :: starEach es X.env := by rfl) (hpl : (backTo pos (starEach es X.env)).any (·.1) = false := by rfl) :
    PE X (.Call (.Name x p) (e :: es) [] pos) (tCalled sp t) := pe_callS (E := fun _ => E0) F hr hg O.g O.k O.b (fun _ _ _ _ _ _ _ h => h.elim) ha hdb he hpl
def tCalledR (sp : Sp) (W : WX) (t : TA) : TE := fun σ H Q => t σ H fun vs H1 => sp vs H1 Q fun c d H2 => W c d σ H2
/-- a call of a def that may raise -/
theorem pe_callR {W : WX} (F : FnOk X.prog X.w X.K X.mg X.base (L2.CX X.prog X.w) k f fd ps sp) (hr : Room k X.A) (O : Own X.K X.mg x f fd ps) (tk : Takes X W) (ha : PA X (e :: es) t) (hg : Gl X x := by rfl)
    (hdb : (x == ("__debug__" : Str)) = false := by decide) (he : starEach (e :: es) X.env = (false, eval e X.env) :: starEach es X.env := by rfl) (hpl : (backTo pos (starEach es X.env)).any (·.1) = false := by rfl) :
    PE X (.Call (.Name x p) (e :: es) [] pos) (tCalledR sp W t) := pe_callS (E := WE W) F hr hg O.g O.k O.b (fun σ => passAt tk σ) ha hdb he hpl
end
/-! ### exceptions with the one attribute «what» -/
/-- the __init__ of the family: self.what = what -/
def spInit (K : PySem.W.Frag) : Sp := fun vs H Q _ => ∃ (a C : Addr) (v : V), vs = [.ref a, v] ∧ OexC K C ∧ PySem.W.findIn K (.ref C) "what" = some none ∧ H a = some (exo a C none) ∧
  ∀ dx, H dx = none → dx ≠ a → Q .non (upd (upd H dx (exd dx [("what", v)])) a (exo a C (some dx)))
/-- what the written part says of such a class -/
structure ErrX (K : PySem.W.Frag) (C fI : Addr) : Prop where
  ox : OexC K C
  xf : XfC K C
  nw : PySem.W.findIn K (.ref C) "what" = some none
  ini : PySem.W.findIn K (.ref C) "__init__" = some (some (.ref fI))
  cl : PySem.W.isClsIn K C = true
  cc : PySem.W.findIn K (.ref C) "__class__" = some (some (.builtin "object.__class__"))
  mo : PySem.W.mroIn K C (.type "object") = some true
  se : PySem.W.subIn K (.ref C) (.ref C) = some true
/-- of the builtin that tells an object's class -/
structure ClsB (K : PySem.W.Frag) : Prop where
  sp : PySem.W.specialIn K (.builtin "object.__class__") "__get__" = some (some (.builtin "getset_descriptor.__get__"))
  tk : PySem.W.takesIn K (.builtin "object.__class__") = some true
theorem mk_what {K : PySem.W.Frag} {C fI : Addr} {v : V} {H1 : Hp} {Q : XK} {vs : List V} (T : ErrX K C fI) (ev : vs = [v]) (h : ∀ d, H1 d = none → Q (.ref C) (some d) (upd H1 d (.xd [("what", v)]))) :
    vs.length ≤ 1000 ∧ ∀ a, H1 a = none → spInit K (.ref a :: (vs ++ [])) (upd H1 a (exo a C none))
      (fun u H2 => u = .non ∧ ∃ (d : Addr) (fs : List (Str × V)), H2 a = some (exo a C (some d)) ∧ H2 d = some (exd d fs) ∧ H1 d = none ∧ Q (.ref C) (some d) (upd (del H2 a) d (.xd fs))) (fun _ _ _ => False) := by
  subst ev
  refine ⟨by show 1 ≤ 1000; decide, fun a ha => ⟨a, C, v, rfl, T.ox, T.nw, upd_same, fun dx hdx ne => ⟨rfl, dx, [("what", v)], upd_same, ?_, ?_, ?_⟩⟩⟩
  · rw [upd_ne ne, upd_same]
  · rw [upd_ne ne] at hdx
    exact hdx
  · rw [upd_ne ne] at hdx
    have e : upd (del (upd (upd (upd H1 a (exo a C none)) dx (exd dx [("what", v)])) a (exo a C (some dx))) a) dx (.xd [("what", v)]) = upd H1 dx (.xd [("what", v)]) := by
      funext b
      by_cases h1 : b = dx
      · rw [h1, upd_same, upd_same]
      · rw [upd_ne h1, upd_ne h1]
        by_cases h2 : b = a
        · rw [h2, del_same, ha]
        · rw [del_ne h2, upd_ne h2, upd_ne h1, upd_ne h2]
    rw [e]
    exact h dx hdx
/-- raise C(e) -/
def tRaised (C : Addr) (W : WX) (ta : TA) : TS := fun _ σ H => ta σ H fun vs H1 => ∃ v, vs = [v] ∧ ∀ d, H1 d = none → W (.ref C) (some d) σ (upd H1 d (.xd [("what", v)]))
section
variable {X : Cx} {C fI : Addr} {fd : FuncData} {x : Str} {p pos pos2 : Pos} {e : Expr} {ta : TA} {W : WX}
theorem PA.imp {es : List Expr} {t t' : TA} (h : PA X es t) (hi : ∀ σ H Q, t' σ H Q → t σ H Q) : PA X es t' := ⟨fun pos pins s σ H Q I q => h.run pos pins s σ H Q I (hi σ H Q q)⟩
theorem PS.imp {st : Stmt} {t t' : TS} (h : PS X st t) (hi : ∀ D σ H, t' D σ H → t D σ H) : PS X st t' := ⟨fun pins s σ H D I q => h.run pins s σ H D I (hi D σ H q)⟩
/-- a reading is monotone in its wish -/
def MonoA (t : TA) : Prop := ∀ σ H (Q Q' : List V → Hp → Prop), (∀ vs H1, Q vs H1 → Q' vs H1) → t σ H Q → t σ H Q'
theorem ps_raiseW (hc : X.calm = true) (T : ErrX X.K C fI) (G : FnOk X.prog X.w X.K X.mg X.base CX0 1 fI fd ["self", "what"] (spInit X.K)) (tI : PySem.W.typeIn X.K (.ref fI) = some (.type "function")) (bI : Binds X.K fd ["self", "what"] []) (hr : Room 2 X.A) (hm : X.mg x = some (.ref C))
    (tk : Takes X W) (ha : PA X (e :: []) ta) (mo : MonoA ta) (hg : Gl X x := by rfl) (hdb : (x == ("__debug__" : Str)) = false := by decide)
    (he : starEach (e :: []) X.env = (false, eval e X.env) :: starEach [] X.env := by rfl) (hpl : (backTo pos (starEach [] X.env)).any (·.1) = false := by rfl) :
    PS X (.Raise (some (.Call (.Name x p) (e :: []) [] pos)) none pos2) (tRaised C W ta) := by
  refine PS.imp (ps_raise hc tk (pmk_oex (pos := pos) T.ox T.ini tI G hr bI .nil pass0 hg hm ha hdb he hpl)) fun D σ H q => ?_
  refine mo σ H _ _ (fun vs H1 q => ?_) q
  obtain ⟨v, ev, h⟩ := q
  exact mk_what (Q := fun c d H' => W c d σ H') T ev h
theorem MonoA.nil : MonoA tNil := fun _ _ _ _ h q => h _ _ q
theorem MonoA.one {te : TE} (m : ∀ σ H (Q Q' : VK), (∀ v H1, Q v H1 → Q' v H1) → te σ H Q → te σ H Q') : MonoA (tCons te tNil) := fun σ H Q Q' h q => m σ H _ _ (fun v H1 z => h _ _ z) q
theorem mono_var {i : Nat} : ∀ σ H (Q Q' : VK), (∀ v H1, Q v H1 → Q' v H1) → tVar i σ H Q → tVar i σ H Q' := fun _ _ _ _ h ⟨v, e, q⟩ => ⟨v, e, h _ _ q⟩
theorem mono_c {v : V} : ∀ σ H (Q Q' : VK), (∀ v H1, Q v H1 → Q' v H1) → tC v σ H Q → tC v σ H Q' := fun _ _ _ _ h q => h _ _ q
end
/-- isinstance(e, c), isinstance(e, (c, ..)): e the exception that the suite holds -/
def cIsE (K : PySem.W.Frag) (D a dd : Addr) : List V → Hp → VK → Prop := fun xs H Q => ∃ (fs : List (Str × V)) (b : Bool), H dd = some (.xd fs) ∧
  ((∃ (c : V) (cv : Value), xs = [.ref a, c] ∧ ClsV c cv ∧ PySem.W.kitOne K (.ref D) cv = some b) ∨ ∃ (tp : Addr) (cs : List V) (us : List Value), xs = [.ref a, .ref tp] ∧ H tp = some (.tup cs) ∧ Paired ClsV cs us ∧ PySem.W.kitAny K (.ref D) us = some b) ∧ Q (.bl b) H
theorem call_isX {X : Cx} {a D dd fI : Addr} {oe : Obj} {pn : List (Addr × Obj)} (T : ErrX X.K D fI) (B : ClsB X.K) (hz : Zc (.ref D) (some dd) oe) (hf : ∃ vs, oe.data = .fields vs) : CallR (X.suite a ((a, oe) :: pn)) (.builtin "isinstance") (cIsE X.K D a dd) := by
  intro pins s σ H xs us Q I r h
  obtain ⟨fs, b, hdd, hc, q⟩ := h
  obtain ⟨mA, hns, _⟩ := (show ObjOk X.prog X.w H s.heap dd (.xd fs) from I.hok dd _ hdd)
  obtain ⟨od, ho, _⟩ := lookIn_ns hns
  obtain ⟨hget, _⟩ := I.pin (a, oe) (List.mem_append.mpr (.inl List.mem_cons_self))
  obtain ⟨vs, hv⟩ := hf
  have J : PySem.W.InstAt s.heap a oe D (some od) := ⟨hget, hz.1, by unfold PySem.W.notCls; rw [hv] <;> rfl, by rw [hz.2]; exact ho⟩
  have Z : PySem.W.KitX X.K (.ref a) (.ref D) (fun h => PySem.W.InstAt h a oe D (some od)) := PySem.W.kitx_exc T.cl T.xf.ga T.xf.gg T.xf.exC T.cc B.sp B.tk T.mo
  rcases hc with ⟨c, cv, rfl, hcv, e⟩ | ⟨tp, cs, ws, rfl, hT, hcs, e⟩
  · obtain ⟨u1, u2, rfl, r1, r2⟩ := vals2 r
    cases (show u1 = Value.ref a from r1)
    have e2 := hcv.eq r2
    subst e2
    exact PySem.W.kia_one Z I.kIn J e (fun z => nomatch z) fun tk => ⟨.bl b, H, I.tok tk, rfl, q⟩
  · obtain ⟨u1, u2, rfl, r1, r2⟩ := vals2 r
    cases (show u1 = Value.ref a from r1)
    cases (show u2 = Value.ref tp from r2)
    obtain ⟨_, its, rv, o, h1, h2, n, h3⟩ := (show ObjOk X.prog X.w H s.heap tp (.tup cs) from I.hok tp _ hT)
    have e3 := ClsV.all hcs rv
    subst e3
    obtain ⟨oc, od', dt, sl⟩ := o
    simp only at h2 h3
    subst h2 h3
    exact PySem.W.kia_tup Z I.kIn J h1 e (fun z => nomatch z) fun tk => ⟨.bl b, H, I.tok tk, rfl, q⟩
/-- an own class or a class of Python's beside it: what isinstance says -/
theorem kit_ref {K : PySem.W.Frag} {D C fI : Addr} {b : Bool} (T : ErrX K D fI) (cl : PySem.W.isClsIn K C = true) (ty : PySem.W.typeIn K (.ref C) = some (.type "type")) (s : PySem.W.subIn K (.ref D) (.ref C) = some b) : PySem.W.kitOne K (.ref D) (.ref C) = some b := by
  by_cases e : D = C
  · subst e
    rw [T.se] at s
    obtain rfl : true = b := Option.some.inj s
    unfold PySem.W.kitOne
    rw [if_pos (by simp)]
  · unfold PySem.W.kitOne
    rw [if_neg (by simp [e])]
    show (if ((PySem.W.clsIn K C).isSome && PySem.W.typeIn K (.ref C) == some (.type "type")) = true then PySem.W.subIn K (.ref D) (.ref C) else none) = some b
    have e1 : (PySem.W.clsIn K C).isSome = true := cl
    rw [e1, ty, s]
    rfl
theorem kit_bt {K : PySem.W.Frag} {D : Addr} {n : String} {b : Bool} (m : PySem.W.kitMeta n = true) (s : PySem.W.subIn K (.ref D) (.type n) = some b) : PySem.W.kitOne K (.ref D) (.type n) = some b := by
  unfold PySem.W.kitOne
  rw [if_neg (by simp)]
  show (if PySem.W.kitMeta n = true then PySem.W.subIn K (.ref D) (.type n) else none) = some b
  rw [if_pos m, s]

theorem PSs.exi {ι : Type} {X : Cx} {st : List Stmt} {P : ι → Prop} {t : ι → TS} (h : ∀ i, P i → PSs X st (t i)) : PSs X st (fun D σ H => ∃ i, P i ∧ t i D σ H) :=
  ⟨fun pins s σ H D I ⟨i, p, q⟩ => (h i p).run pins s σ H D I q⟩
/-- what a suite knows of its exception: its class, its dict, where the family's __init__ stands -/
structure Caught (K : PySem.W.Frag) (cls : Value) (d : Option Addr) (i : Addr × Addr × Addr) : Prop where
  c : cls = .ref i.1
  e : d = some i.2.1
  x : ErrX K i.1 i.2.2
theorem Caught.z {K : PySem.W.Frag} {cls : Value} {d : Option Addr} {i : Addr × Addr × Addr} {oe : Obj} (h : Caught K cls d i) (hz : Zc cls d oe) : Zc (.ref i.1) (some i.2.1) oe := ⟨hz.1.trans h.c, hz.2.trans h.e⟩
/-! ### reading of calls -/
section
variable {K : PySem.W.Frag} {σ : L2.St} {H : Hp} {Q : VK} {D : Ends} {tl : TA} {te ta tb : TE} {a : Int} {v x : V} {n : Nat} {W : WX} {C : Addr}
theorem rd_called {sp : Sp} (h : tl σ H fun vs H1 => sp vs H1 Q E0) : tCalled sp tl σ H Q := h
theorem rd_calledR {sp : Sp} (h : tl σ H fun vs H1 => sp vs H1 Q fun c d H2 => W c d σ H2) : tCalledR sp W tl σ H Q := h
theorem rd_raised (h : tl σ H fun vs H1 => ∃ v, vs = [v] ∧ ∀ d, H1 d = none → W (.ref C) (some d) σ (upd H1 d (.xd [("what", v)]))) : tRaised C W tl D σ H := h
theorem rd_raised1 {P : V → Prop} (h : P v) : ∃ v', [v] = [v'] ∧ P v' := ⟨v, rfl, h⟩
theorem rd_int (h : Q (.int a) H) : cInt [.int a] H Q := .inl ⟨a, rfl, h⟩
theorem rd_abs (h : Q (.int (if a < 0 then -a else a)) H) : cAbs [.int a] H Q := ⟨a, rfl, h⟩
theorem rd_lenL {p : Addr} {xs : List V} (e : SqL K H p xs) (h : Q (.int (xs.length : Nat)) H) : cLen K [.ref p] H Q := .inl ⟨_, _, rfl, .inl ⟨xs, e, rfl⟩, h⟩
theorem rd_lenT {p : Addr} {xs : List V} (e : SqT K H p xs) (h : Q (.int (xs.length : Nat)) H) : cLen K [.ref p] H Q := .inl ⟨_, _, rfl, .inr ⟨xs, e, rfl⟩, h⟩
theorem rd_lenS {z : Str} (e : z.length ≤ sizeLine) (h : Q (.int (z.length : Nat)) H) : cLen K [.str z] H Q := .inl ⟨_, _, rfl, ⟨e, rfl⟩, h⟩
theorem rd_ixL {p : Addr} {xs : List V} (e : SqL K H p xs) (ha : atI xs a = some v) (h : Q v H) : rIx K (.ref p) (.int a) H Q := .inl ⟨p, xs, a, v, rfl, rfl, e, ha, h⟩
theorem rd_ixT {p : Addr} {xs : List V} (e : SqT K H p xs) (ha : atI xs a = some v) (h : Q v H) : rIx K (.ref p) (.int a) H Q := .inr (.inl ⟨p, xs, a, v, rfl, rfl, e, ha, h⟩)
theorem rd_ixS {z : Str} {c : Nat} (e : z.length ≤ sizeLine) (ha : atI z.cps.toList a = some c) (h : Q (.str ⟨#[c]⟩) H) : rIx K (.str z) (.int a) H Q := .inr (.inr ⟨z, a, c, rfl, rfl, e, ha, h⟩)
theorem rd_inS {c : Nat} {z : Str} (h : Q (.bl (decide (c ∈ z.cps.toList))) H) : oIn K (.str ⟨#[c]⟩) (.str z) H Q := .inl ⟨c, z, rfl, rfl, h⟩
theorem rd_niS {c : Nat} {z : Str} (h : Q (.bl (!decide (c ∈ z.cps.toList))) H) : oNotIn K (.str ⟨#[c]⟩) (.str z) H Q := .inl ⟨c, z, rfl, rfl, h⟩
theorem rd_rng1 {ta : TA} {R : It → Hp → Prop} (h : ta σ H fun vs H1 => ∃ j : Int, vs = [.int j] ∧ -(2 ^ 62) ≤ j ∧ j < 2 ^ 62 ∧ R (Itr 0 j.toNat) H1) : iRng1 ta σ H R := h
theorem rd_rng2 {ta : TA} {R : It → Hp → Prop} (h : ta σ H fun vs H1 => ∃ i j : Int, vs = [.int i, .int j] ∧ (-(2 ^ 62) ≤ i ∧ i < 2 ^ 62 ∧ -(2 ^ 62) ≤ j ∧ j < 2 ^ 62) ∧ R (Itr i (j - i).toNat) H1) : iRng2 ta σ H R := h
theorem rd_bm {T : String} {r : V → List V → Hp → VK → Prop} {to : TE} {t : TA} (h : to σ H fun x H1 => tyV K T x H1 ∧ t σ H1 fun xs H2 => r x xs H2 Q) : tBM K T r to t σ H Q := h
theorem rd_andV (h : ta σ H fun x H1 => ∃ c, x = .bl c ∧ if c = true then tb σ H1 Q else Q (.bl false) H1) : tAndV ta tb σ H Q := h
theorem rd_orV (h : ta σ H fun x H1 => ∃ c, x = .bl c ∧ if c = true then Q (.bl true) H1 else tb σ H1 Q) : tOrV ta tb σ H Q := h
theorem rd_sl {r : V → Option Int → Option Int → Hp → VK → Prop} {tl th : TO} (h : te σ H fun x H1 => tl σ H1 fun l H2 => th σ H2 fun u H3 => r x l u H3 Q) : tSl r te tl th σ H Q := h
theorem rd_noPart {Q : Option Int → Hp → Prop} (h : Q none H) : tNoPart σ H Q := h
theorem rd_part {Q : Option Int → Hp → Prop} (h : te σ H fun x H1 => ∃ i, x = .int i ∧ Q (some i) H1) : tPart te σ H Q := h
theorem rd_intv {P : Int → Prop} (h : P a) : ∃ i, V.int a = .int i ∧ P i := ⟨a, rfl, h⟩
theorem rd_slS {z : Str} {lo hi : Option Int} (e : z.length ≤ sizeLine) (h : Q (.str (cutS z lo hi)) H) : oSl K (.str z) lo hi H Q := .inr (.inl ⟨z, rfl, e, h⟩)
end

section
variable {CX : CXT} {P : Program} {w : World} {K : PySem.W.Frag} {mg : Str → Option Value} {base : Heap} {N : List Str} {q : Str} {sc : Scope} {f : Addr} {cdv : Value} {A : Around} {outer : List Env} {s : Shared} {H : Hp} {E : XK}
theorem cxK : (cxOf CX P w K mg base N q sc f cdv A outer s H E).nox.K = K := rfl
theorem cxK' : (cxOf CX P w K mg base N q sc f cdv A outer s H E).K = K := rfl
end

/-! ### loops and comprehensions -/
def forB (g : TG) (tb : TS) (D : Ends) (σ : L2.St) (J : It) (H : Hp) : Prop := tFor (fun _ H R => R J H) g tb D σ H
def lcB (g : TG) (tt : TT) (te : TE) (vs : List Nat) (σ : L2.St) (Q : VK) (J : It) (H : Hp) : Prop := tLc (fun _ H R => R J H) g tt te vs σ H Q
section
variable {K : PySem.W.Frag} {σ : L2.St} {H : Hp} {Q : VK} {D : Ends} {wi : TI} {g : TG} {tb : TS} {tt : TT} {te : TE} {vs : List Nat} {J : It} {n : Nat} {G : Hp → Prop} {Y : Nat → Hp → V → Hp → Prop} {R : It → Hp → Prop}
theorem rd_for (h : wi σ H (forB g tb D σ)) : tFor wi g tb D σ H := h
theorem rd_lc (h : wi σ H (lcB g tt te vs σ Q)) : tLc wi g tt te vs σ H Q := h
theorem fo_range {n : Nat} (Pv : Nat → L2.St → Hp → Prop) (h0 : Pv 0 σ H) (hs : ∀ (i : Nat) σ H, i < n → Pv i σ H → g (.int (i : Int)) σ H fun σ2 H2 => tb { D with nx := Pv (i + 1), ct := Pv (i + 1), bk := D.nx } σ2 H2) (hd : ∀ σ H, Pv n σ H → D.nx σ H) : forB g tb D σ (Itr 0 n) H :=
  for_range (lo := 0) Pv h0 (fun i σ H hi p => by rw [Int.zero_add]; exact hs i σ H hi p) hd
theorem fo_range2 {lo : Int} {n : Nat} (Pv : Nat → L2.St → Hp → Prop) (h0 : Pv 0 σ H) (hs : ∀ (i : Nat) σ H, i < n → Pv i σ H → g (.int (lo + (i : Int))) σ H fun σ2 H2 => tb { D with nx := Pv (i + 1), ct := Pv (i + 1), bk := D.nx } σ2 H2) (hd : ∀ σ H, Pv n σ H → D.nx σ H) : forB g tb D σ (Itr lo n) H :=
  for_range (lo := lo) Pv h0 hs hd
theorem fo_it (w : Walk J n G Y) (Pv : Nat → L2.St → Hp → Prop) (h0 : Pv 0 σ H) (hG : ∀ i σ H, i ≤ n → Pv i σ H → G H)
    (hs : ∀ i x σ H H', i < n → Pv i σ H → Y i H x H' → g x σ H' fun σ2 H2 => tb { D with nx := Pv (i + 1), ct := Pv (i + 1), bk := D.nx } σ2 H2) (hd : ∀ σ H, Pv n σ H → D.nx σ H) : forB g tb D σ J H := for_it w Pv h0 hG hs hd
/-- over a text -/
theorem fo_str {z : Str} (Pv : Nat → L2.St → Hp → Prop) (h0 : Pv 0 σ H) (hs : ∀ (i : Nat) c σ H, z.cps.toList[i]? = some c → Pv i σ H → g (.str ⟨#[c]⟩) σ H fun σ2 H2 => tb { D with nx := Pv (i + 1), ct := Pv (i + 1), bk := D.nx } σ2 H2) (hd : ∀ σ H, Pv z.length σ H → D.nx σ H) : forB g tb D σ (Its z) H :=
  fo_it walk_str Pv h0 (fun _ _ _ _ _ => True.intro) (fun i x σ H H' hi p y => by
    obtain ⟨rfl, c, e, rfl⟩ := y
    exact hs i c σ _ (by rw [Array.getElem?_toList]; exact e) p) hd
theorem fo_list {a : Addr} {xs : List V} (Pv : Nat → L2.St → Hp → Prop) (h0 : Pv 0 σ H) (hl : ∀ i σ H, i ≤ xs.length → Pv i σ H → SqL K H a xs) (hs : ∀ (i : Nat) x σ H, xs[i]? = some x → Pv i σ H → g x σ H fun σ2 H2 => tb { D with nx := Pv (i + 1), ct := Pv (i + 1), bk := D.nx } σ2 H2)
    (hd : ∀ σ H, Pv xs.length σ H → D.nx σ H) : forB g tb D σ (Itl K a) H := for_list Pv h0 hl hs hd
theorem fo_tup {a : Addr} {xs : List V} (Pv : Nat → L2.St → Hp → Prop) (h0 : Pv 0 σ H) (hl : ∀ i σ H, i ≤ xs.length → Pv i σ H → SqT K H a xs) (hs : ∀ (i : Nat) x σ H, xs[i]? = some x → Pv i σ H → g x σ H fun σ2 H2 => tb { D with nx := Pv (i + 1), ct := Pv (i + 1), bk := D.nx } σ2 H2)
    (hd : ∀ σ H, Pv xs.length σ H → D.nx σ H) : forB g tb D σ (Itt K a) H := for_tup Pv h0 hl hs hd
/-- what is walked -/
theorem rd_anyL {a : Addr} {xs : List V} {te : TE} (he : ∀ Q : VK, Q (.ref a) H → te σ H Q) (hs : SqL K H a xs) (h : R (Itl K a) H) : iAny K te σ H R := .inl (he _ ⟨a, rfl, ⟨xs, hs⟩, h⟩)
theorem rd_anyT {a : Addr} {xs : List V} {te : TE} (he : ∀ Q : VK, Q (.ref a) H → te σ H Q) (hs : SqT K H a xs) (h : R (Itt K a) H) : iAny K te σ H R := .inr (.inl (he _ ⟨a, rfl, ⟨xs, hs⟩, h⟩))
theorem rd_anyS {z : Str} {te : TE} (he : ∀ Q : VK, Q (.str z) H → te σ H Q) (h : R (Its z) H) : iAny K te σ H R := .inr (.inr (he _ ⟨z, rfl, h⟩))
/-- a comprehension whose parts leave the heap -/
theorem lc_pure {j : Nat} {xs : Nat → V} {f : Nat → Bool} {v : Nat → V} (w : Walk J n G Y) (hY : ∀ i H x H', i < n → Y i H x H' → H' = H ∧ x = xs i) (hG : ∀ Hc, Ex H Hc → G Hc) (hn : n < 100000)
    (ht : ∀ i Hc, i < n → Ex H Hc → Ans tt ((wipe σ [j]).set j (some (xs i))) Hc (f i)) (he : ∀ i Hc, i < n → Ex H Hc → f i = true → Val te ((wipe σ [j]).set j (some (xs i))) Hc (v i))
    (h : ∀ L, H L = none → Q (.ref L) (upd H L (.lst (Evl.given n f v)))) : lcB (gName j) tt te [j] σ Q J H := by
  intro L hL
  have hz : ∀ m, m ≤ n → (Evl.given m f v).length < sizeLine := fun m hm => Nat.lt_of_le_of_lt (Evl.given_len m f v) (Nat.lt_of_le_of_lt hm (Nat.lt_trans hn (by decide)))
  refine lc_it w (fun i Hc => i ≤ n ∧ Hc = upd H L (.lst (Evl.given i f v))) ⟨Nat.zero_le _, rfl⟩ (fun i Hc _ p => ?_) (fun i x Hc H' hi p y => ?_) fun Hc p => ?_
  · obtain ⟨_, rfl⟩ := p
    exact hG _ (Evl.Ex.new hL)
  · obtain ⟨hi1, rfl⟩ := p
    obtain ⟨rfl, rfl⟩ := hY _ _ _ _ hi y
    have e0 := Evl.Ex.new (o := .lst (Evl.given i f v)) hL
    refine ⟨by simp [wipe], ?_⟩
    refine ht i _ hi e0 _ ?_
    cases hf : f i with
    | true =>
      refine rd_iteT ?_
      refine he i _ hi e0 hf _ ?_
      refine ⟨_, upd_same, hz i (Nat.le_of_lt hi), hi, ?_⟩
      rw [upd_upd, Evl.given_yes hf]
    | false =>
      refine rd_iteF ⟨hi, ?_⟩
      rw [Evl.given_no hf]
  · obtain ⟨_, rfl⟩ := p
    exact h L hL
theorem rd_yes {QB : Bool → Hp → Prop} (h : QB true H) : tYes σ H QB := h
theorem ans_yes : Ans tYes σ H true := fun _ q => q
end
/-- the list that is given -/
theorem given_eq {α : Type} (l : List α) (p : α → Bool) (f : α → V) (q : Nat → Bool) (v : Nat → V) (hq : ∀ i x, l[i]? = some x → q i = p x) (hv : ∀ i x, l[i]? = some x → v i = f x) : ∀ n, n ≤ l.length → Evl.given n q v = ((l.take n).filter p).map f
  | 0, _ => rfl
  | n + 1, h => by
    have hx : l[n]? = some (l[n]'h) := List.getElem?_eq_getElem h
    have ih := given_eq l p f q v hq hv n (Nat.le_of_lt h)
    rw [List.take_succ, hx]
    cases e : p (l[n]'h) with
    | true =>
      rw [Evl.given_yes ((hq _ _ hx).trans e), ih, List.filter_append, List.map_append, hv _ _ hx]
      simp [e]
    | false =>
      rw [Evl.given_no ((hq _ _ hx).trans e), ih, List.filter_append, List.map_append]
      simp [e]

theorem rd_gsub {to ti : TE} {t : TSet} {v : V} {σ : L2.St} {H : Hp} {Q : L2.St → Hp → Prop} (h : to σ H fun o H1 => ti σ H1 fun i H2 => t o i v H2 fun H3 => Q σ H3) : gSub to ti t v σ H Q := h
theorem rd_while {tt : TT} {tb : TS} {D : Ends} {σ : L2.St} {H : Hp} (Pv : L2.St → Hp → Prop) (μ : L2.St → Hp → Nat) (h0 : Pv σ H)
    (hs : ∀ σ H, Pv σ H → tt σ H fun b H1 => if b = true then tb { D with nx := fun σ' H' => Pv σ' H' ∧ μ σ' H' < μ σ H, ct := fun σ' H' => Pv σ' H' ∧ μ σ' H' < μ σ H, bk := D.nx } σ H1 else D.nx σ H1)
    (mono : ∀ σ H Q Q', (∀ b H1, Q b H1 → Q' b H1) → tt σ H Q → tt σ H Q') : tWhile tt tb D σ H := while_by Pv μ h0 hs mono

/-! ### the same, the written part named -/
section
variable {X : Cx} (K : PySem.W.Frag) (hK : X.K = K := by rfl)
include hK
theorem kAdd : OpR X (binaryOp .Add) (oAdd K) := hK ▸ op_addP
theorem kEq (hu : X.A.units + 64 < cLine) : OpR X (compareOp .Eq) (oEq K) := hK ▸ op_eqP hu
theorem kNe (hu : X.A.units + 64 < cLine) : OpR X (compareOp .NotEq) (oNe K) := hK ▸ op_neP hu
theorem kIn : OpR X (compareOp .In) (oIn K) := hK ▸ op_inP
theorem kNotIn : OpR X (compareOp .NotIn) (oNotIn K) := hK ▸ op_notInP
theorem kLen : CallR X (.builtin "len") (cLen K) := hK ▸ call_lenP
theorem kSl : SlR X (oSl K) := hK ▸ sl_P
theorem kIx : IxR X (rIx K) := hK ▸ ix_seq
theorem kAny {tg e : Expr} {te : TE} (he : PE X e te) : PI X tg e (iAny K te) := hK ▸ pi_any he
theorem kAll (hc : X.calm = true := by rfl) : CallR X (.builtin "all") (rAll K) := hK ▸ cr_all hc
theorem kAnyOf (hc : X.calm = true := by rfl) : CallR X (.builtin "any") (rAny K) := hK ▸ cr_any hc
theorem kSum (hc : X.calm = true := by rfl) : CallR X (.builtin "sum") (rSum K) := hK ▸ cr_sum hc
end
section
variable {X : Cx} {x : Str} {pos : Pos}
theorem pe_globS {s : Str} {t : Tok} (hg : Gl X x) (hm : X.mg x = some (.str s t)) (hd : (x == ("__debug__" : Str)) = false := by decide) : PE X (.Name x pos) (tC (.str s)) := pe_glob hg hm ⟨t, rfl⟩ hd
theorem pe_globI {i : Int} {t : Tok} (hg : Gl X x) (hm : X.mg x = some (.int i t)) (hd : (x == ("__debug__" : Str)) = false := by decide) : PE X (.Name x pos) (tC (.int i)) := pe_glob hg hm ⟨t, rfl⟩ hd
theorem pe_globR {a : Addr} (hg : Gl X x) (hm : X.mg x = some (.ref a)) (hd : (x == ("__debug__" : Str)) = false := by decide) : PE X (.Name x pos) (tC (.ref a)) := pe_glob (v := .ref a) hg hm rfl hd
end

theorem rd_iteNF {A B : Prop} (h : A) : if (!false) = true then A else B := iteT h
theorem rd_iteNT {A B : Prop} (h : B) : if (!true) = true then A else B := iteF h

section
variable {X : Cx} {x : Str} {pos : Pos}
theorem pe_blT {n : String} (hg : Gl X x) (hm : X.mg x = none) (hv : bootBuiltins x = some (.type n)) (hn : x ≠ "__name__" := by decide) (hd : (x == ("__debug__" : Str)) = false := by decide) : PE X (.Name x pos) (tC (.ty n)) := pe_bltn (v := .ty n) hg hm hv rfl hn hd
end
/-! ### lists of flat values compared -/
def okS (z : Str) : Prop := PyData.strOk z = true
theorem okS_iff {z : Str} : okS z ↔ ∀ c ∈ z.cps.toList, c < 0x110000 := by
  unfold okS PyData.strOk
  rw [← Array.all_toList, List.all_eq_true]
  exact ⟨fun h c hc => by simpa using h c hc, fun h c hc => by simpa using h c hc⟩
theorem okS_app {x y : Str} (hx : okS x) (hy : okS y) : okS (x ++ y) := okS_iff.mpr fun c hc => by
  have e : (x ++ y).cps.toList = x.cps.toList ++ y.cps.toList := TL.tl_append x y
  rw [e] at hc
  exact (List.mem_append.mp hc).elim (okS_iff.mp hx c) (okS_iff.mp hy c)
theorem okS_one {z : Str} {c : Nat} (hz : okS z) (hc : c ∈ z.cps.toList) : okS ⟨#[c]⟩ := okS_iff.mpr fun d hd => by
  have e : d = c := by simpa using hd
  rw [e]
  exact okS_iff.mp hz c hc
theorem okS_sub {x y : Str} (hy : okS y) (h : ∀ c ∈ x.cps.toList, c ∈ y.cps.toList) : okS x := okS_iff.mpr fun c hc => okS_iff.mp hy c (h c hc)
def dOf : V → PyData
  | .bl b => .bool b
  | .int i => .int i
  | .str x => .str x
  | _ => .none
def flat1 : V → Bool
  | .non => true
  | .bl _ => true
  | .int _ => true
  | .str x => PyData.strOk x
  | _ => false
theorem dp_flat {K : PySem.W.Frag} {H : Hp} {v : V} (h : flat1 v = true) : Dp K H v (dOf v) := by
  cases v with
  | non => exact .non
  | bl b => exact .bl b
  | int i => exact .int i
  | str x => exact .str x
  | byt _ => exact absurd h Bool.false_ne_true
  | flt _ => exact absurd h Bool.false_ne_true
  | ref _ => exact absurd h Bool.false_ne_true
  | ty _ => exact absurd h Bool.false_ne_true
theorem lay_flat {v : V} (h : flat1 v = true) : (dOf v).canLay0 = true ∧ (dOf v).depth = 0 := by
  cases v with
  | str x => exact ⟨h, rfl⟩
  | _ => exact ⟨rfl, rfl⟩
theorem dpAll_flat {K : PySem.W.Frag} {H : Hp} : ∀ {xs : List V}, xs.all flat1 = true → DpAll K H xs (xs.map dOf)
  | [], _ => .nil
  | v :: xs, h => by
    rw [List.all_cons, Bool.and_eq_true] at h
    exact .cons (dp_flat h.1) (dpAll_flat h.2)
theorem lay_all : ∀ {xs : List V}, xs.all flat1 = true → PyData.canLayAll0 (xs.map dOf) = true ∧ PyData.depthAll (xs.map dOf) = 0
  | [], _ => ⟨rfl, rfl⟩
  | v :: xs, h => by
    rw [List.all_cons, Bool.and_eq_true] at h
    obtain ⟨h1, h2⟩ := lay_flat h.1
    obtain ⟨h3, h4⟩ := lay_all h.2
    refine ⟨?_, ?_⟩
    · show ((dOf v).canLay0 && PyData.canLayAll0 (xs.map dOf)) = true
      rw [h1, h3]
      rfl
    · show max (dOf v).depth (PyData.depthAll (xs.map dOf)) = 0
      rw [h2, h4]
      rfl
theorem shaped_list {xs : List V} (h : xs.all flat1 = true) : SeqAt.shaped (.list (xs.map dOf)) = true := by
  obtain ⟨h1, h2⟩ := lay_all h
  refine Bool.and_eq_true_iff.mpr ⟨h1, decide_eq_true ?_⟩
  show PyData.depthAll (xs.map dOf) + 1 ≤ 64
  rw [h2]
  decide
theorem refl_list {xs : List V} (h : xs.all flat1 = true) : PyData.eqv (.list (xs.map dOf)) (.list (xs.map dOf)) = true := SeqAt.eqv_refl _ (lay_all h).1
section
variable {K : PySem.W.Frag} {p q : Addr} {xs : List V} {H : Hp} {Q : VK}
theorem rd_neL (hp : SqL K H p xs) (hq : SqL K H q xs) (hf : xs.all flat1 = true) (h : Q (.bl false) H) : oNe K (.ref p) (.ref q) H Q :=
  .inr ⟨_, _, .lst hp (dpAll_flat hf), .lst hq (dpAll_flat hf), shaped_list hf, shaped_list hf, by rw [refl_list hf]; exact h⟩
theorem rd_eqL (hp : SqL K H p xs) (hq : SqL K H q xs) (hf : xs.all flat1 = true) (h : Q (.bl true) H) : oEq K (.ref p) (.ref q) H Q :=
  .inr ⟨_, _, .lst hp (dpAll_flat hf), .lst hq (dpAll_flat hf), shaped_list hf, shaped_list hf, by rw [refl_list hf]; exact h⟩
theorem rd_eqNil (hp : SqL K H p xs) (hq : SqL K H q []) (hf : xs.all flat1 = true) (h : Q (.bl xs.isEmpty) H) : oEq K (.ref p) (.ref q) H Q :=
  .inr ⟨_, .list [], .lst hp (dpAll_flat hf), .lst hq .nil, shaped_list hf, rfl, by
    cases xs with
    | nil => exact h
    | cons a r => exact h⟩
end
theorem rd_reprB {b : Bool} {H : Hp} {Q : VK} (h : Q (.str (if b then "True" else "False")) H) : cRepr [.bl b] H Q := .inr ⟨b, rfl, h⟩

section
variable {σ : L2.St} {H : Hp} {Q : VK} {D : Ends} {t u : TS} {te ta tb : TE} {g : TG} {a b : Bool}
theorem rd_seqA (h : tAsg te g { D with nx := u D } σ H) : tSeq (tAsg te g) u D σ H := h
theorem rd_seqD (h : tDrop te { D with nx := u D } σ H) : tSeq (tDrop te) u D σ H := h
/-- a statement, then the rest: R is what holds between -/
theorem rd_cut (R : L2.St → Hp → Prop) (h1 : ∀ N : L2.St → Hp → Prop, (∀ σ H, R σ H → N σ H) → t { D with nx := N } σ H) (h2 : ∀ σ H, R σ H → u D σ H) : tSeq t u D σ H := h1 (u D) h2
theorem val_andV (h1 : Val ta σ H (.bl a)) (h2 : a = true → Val tb σ H (.bl b)) : Val (tAndV ta tb) σ H (.bl (a && b)) := fun Q q => h1 _ ⟨a, rfl, by
  cases a with
  | true => exact iteT (h2 rfl _ q)
  | false => exact iteF q⟩
theorem val_orV (h1 : Val ta σ H (.bl a)) (h2 : a = false → Val tb σ H (.bl b)) : Val (tOrV ta tb) σ H (.bl (a || b)) := fun Q q => h1 _ ⟨a, rfl, by
  cases a with
  | true => exact iteT q
  | false => exact iteF (h2 rfl _ q)⟩
theorem val_is {v w : V} (h : Val te σ H v) (e : v = w) : Val te σ H w := e ▸ h
theorem rd_val {v : V} (h : Val te σ H v) (q : Q v H) : te σ H Q := h Q q
end

theorem rd_idS {t u : TS} {D : Ends} {σ : L2.St} {H : Hp} (h : tSeq t u D σ H) : tSeq t u D σ H := h
theorem rd_idI {c : TT} {t u : TS} {D : Ends} {σ : L2.St} {H : Hp} (h : tIfS c t u D σ H) : tIfS c t u D σ H := h
end AT

set_option Elab.async false
set_option linter.all false
set_option maxRecDepth 100000
set_option maxHeartbeats 4000000
/-! own words, second part: objects that are made and asked where something may be raised; data; tuples -/
namespace AT
open PySem PySem.Spec L2
section
variable {X : Cx} {Cx1 : CXT} {n : Nat} {fa Ca : Addr} {fn : FuncData} {pr : List Str} {pm : Sp} {W : WX} {nm mt : Str} {q1 q2 q3 : Pos} {o a0 : Expr} {as : List Expr} {to : TE} {ta : TA}
/-- C(..) whose __init__ may raise -/
def tMakeR (C : Addr) (sp : Sp) (W : WX) (t : TA) : TE := fun σ H Q => t σ H fun vs H1 => ∀ x dx, H1 x = none → H1 dx = none → dx ≠ x → sp (.ref x :: vs) (upd (upd H1 dx (.own x)) x (.ins C dx [])) (fun v H2 => v = .non ∧ Q (.ref x) H2) fun c d H2 => W c d σ H2
theorem pe_makeR (M : Mk X.K Ca fa) (G : FnOk X.prog X.w X.K X.mg X.base (L2.CX X.prog X.w) n fa fn pr pm) (hr : Room (n + 1) X.A) (hm : X.mg nm = some (.ref Ca)) (hb : Binds X.K fn pr []) (tk : Takes X W) (ha : PA X (a0 :: as) ta) (hg : Gl X nm := by rfl)
    (hdb : (nm == ("__debug__" : Str)) = false := by decide) (he : starEach (a0 :: as) X.env = (false, eval a0 X.env) :: starEach as X.env := by rfl) (hpl : (backTo q2 (starEach as X.env)).any (·.1) = false := by rfl) :
    PE X (.Call (.Name nm q1) (a0 :: as) [] q2) (tMakeR Ca pm W ta) := by
  refine ⟨fun P s σ H Q I h => wpAny_Call_Name_kw (ld_glob I hg hm ?_ hdb)⟩
  refine PySem.W.callWith_K (h₀ := X.base) I.ok.mod.kin M.kp (thn (ha.run q2 P s σ H _ I h) fun us t ⟨vs, H1, J, rv, q⟩ => ⟨J.kIn, ?_⟩) he hpl
  have fresh1 := J.hok.fresh (Nat.le_succ t.heap.objs.size)
  have fresh0 := J.hok.fresh (Nat.le_refl t.heap.objs.size)
  have asked := q _ _ fresh1 fresh0 (Nat.ne_of_lt (Nat.lt_succ_self _))
  have J2 := Inv.made (C := Ca) J
  have rel : Vals (V.ref (t.heap.objs.size + 1) :: vs) (Value.ref (t.heap.objs.size + 1) :: us) := .cons rfl rv
  have len : (Value.ref (t.heap.objs.size + 1) :: us ++ []).length = pr.length := by
    rw [List.append_nil, ← rel.length]
    exact G.len _ _ _ _ asked
  have bind := hb _ (Value.ref (t.heap.objs.size + 1) :: us) J2.kIn len
  rw [List.append_nil] at bind
  have ran := G.run _ X.stack _ _ ⟨Value.ref (t.heap.objs.size + 1) :: us, []⟩ _ _ _ (fun c d H2 => W c d σ H2) (hr.make Ca us []) (J2.env0.make Ca us []) bind rel asked
  refine wpAny_call (make_map (f := fa) J.kIn M.makes M.init (beq_iff_eq.mp M.fn) (codeAny_mono ran fun res z hz => ?_))
  cases res with
  | error er => exact passAt tk σ _ _ _ _ _ J2 hz
  | ok fl =>
    cases fl with
    | ret u =>
      have back := J2.after hz
      obtain ⟨v, H3, J3, r3, e3, q3⟩ := back
      subst e3
      exact ⟨r3, .ref (t.heap.objs.size + 1), H3, J3, rfl, q3⟩
    | next => exact hz.elim
    | brk => exact hz.elim
    | cont => exact hz.elim
/-- o.m(..) whose m may raise -/
def tMethR (C : Addr) (m : Str) (sp : Sp) (W : WX) (to : TE) (t : TA) : TE := fun σ H Q => to σ H fun x H1 => ∃ a dx fs, x = .ref a ∧ H1 a = some (.ins C dx fs) ∧ fs.lookup m = none ∧ t σ H1 fun vs H2 => sp (x :: vs) H2 Q fun c d H3 => W c d σ H3
theorem pe_methRs {pl : Sem Bool} (hmt : Meth X.K Ca mt fa) (cl : Cls X.K Ca) (ho : PE X o to) (G : FnOk X.prog X.w X.K X.mg X.base (L2.CX X.prog X.w) n fa fn pr pm) (hr : Room n X.A) (hb : Binds X.K fn pr []) (tk : Takes X W) (ha : PA X (a0 :: as) ta)
    (hst : starEach (a0 :: as) X.env = (false, eval a0 X.env) :: starEach as X.env := by rfl) (hpl : (backTo q2 (starEach as X.env)).any (·.1) = false := by rfl)
    (ht : eval (.Call (.Attribute o mt q3) (a0 :: as) [] q2) X.env = (do
      let r ← eval o X.env
      standAt q3.atName
      let (g, more) ← holding [r] (getMethod r mt pl)
      callWith q2 g more (backTo q2 (starEach (a0 :: as) X.env)) (backToKw q2 (keywordEach [] X.env))) := by rfl) : PE X (.Call (.Attribute o mt q3) (a0 :: as) [] q2) (tMethR Ca mt pm W to ta) := by
  refine ⟨fun P s σ H Q I h => PySem.W.methodCall_KW (pl := pl) (thn (ho.run P s σ H _ I h) fun u t ⟨x, H1, J, rx, a, dx, fs, ex, ea, nl, q⟩ => ?_) ht⟩
  subst ex
  obtain rfl : u = Value.ref a := rx
  refine getmeth_ok J ea cl hmt nl (PySem.W.callWith_K (first := [.ref a]) (h₀ := X.base) J.ok.mod.kin hmt.kp (thn (ha.run q2 P t σ H1 _ J q) fun us t2 ⟨vs, H2, J2, rv, z⟩ => ⟨J2.kIn, ?_⟩) hst hpl)
  exact run_fnS (us := .ref a :: us) (vs := .ref a :: vs) (E := WE W) G hr hb (passAt tk σ) J2 (.cons rfl rv) z
theorem pe_methR0 {pl : Sem Bool} (hmt : Meth X.K Ca mt fa) (cl : Cls X.K Ca) (ho : PE X o to) (G : FnOk X.prog X.w X.K X.mg X.base (L2.CX X.prog X.w) n fa fn pr pm) (hr : Room n X.A) (hb : Binds X.K fn pr []) (tk : Takes X W)
    (ht : eval (.Call (.Attribute o mt q3) [] [] q2) X.env = (do
      let r ← eval o X.env
      standAt q3.atName
      let (g, more) ← holding [r] (getMethod r mt pl)
      callWith q2 g more (backTo q2 (starEach [] X.env)) (backToKw q2 (keywordEach [] X.env))) := by rfl) : PE X (.Call (.Attribute o mt q3) [] [] q2) (tMethR Ca mt pm W to tNil) := by
  refine ⟨fun P s σ H Q I h => PySem.W.methodCall_KW (pl := pl) (thn (ho.run P s σ H _ I h) fun u t ⟨x, H1, J, rx, a, dx, fs, ex, ea, nl, q⟩ => ?_) ht⟩
  subst ex
  obtain rfl : u = Value.ref a := rx
  refine getmeth_ok J ea cl hmt nl ?_
  exact PySem.W.callWith_K0 (first := [.ref a]) J.kIn hmt.kp (run_fnS (us := [.ref a]) (vs := [.ref a]) (E := WE W) G hr hb (passAt tk σ) J (.cons rfl .nil) q)
end

/-! ### the place of a sign in a text -/
section
open PySem.Builtin.Str PySem.StrLaws
theorem first_sign (x : Str) (c : Nat) (h : c ∈ x.cps.toList) : ∃ rest, occurrences x ⟨#[c]⟩ 0 x.length 1 = x.cps.toList.idxOf c :: rest := by
  have key := occ_first x ⟨#[c]⟩ x.length 1 (Nat.le_refl 1) (List.range' 0 (x.length + 1 - 0)) 0 fun _ _ => Nat.zero_le _
  rw [occ_eq]
  have sub := fun k => subAt_one x c k
  rcases key with ⟨_, hn⟩ | ⟨pre, i, post, e, h0, hi, hn⟩
  · obtain ⟨j, hj⟩ := List.getElem?_of_mem h
    have hlt : j < x.length := (List.getElem?_eq_some_iff.mp hj).1
    exact absurd ((sub j).mpr hj) (hn j (List.mem_range'.mpr ⟨j, by omega, by omega⟩))
  · have hx := (sub i).mp hi
    have before : ∀ k, k < i → x.cps.toList[k]? ≠ some c := fun k hk q => hn k (range'_split e k hk) ((sub k).mpr q)
    obtain ⟨hl, hv⟩ := List.getElem?_eq_some_iff.mp hx
    have e2 : x.cps.toList.idxOf c = i := by
      have hlt : x.cps.toList.idxOf c < x.cps.toList.length := List.idxOf_lt_length_iff.mpr h
      have hget : x.cps.toList[x.cps.toList.idxOf c] = c := List.getElem_idxOf hlt
      rcases Nat.lt_trichotomy (x.cps.toList.idxOf c) i with z | z | z
      · exact absurd (List.getElem?_eq_some_iff.mpr ⟨hlt, hget⟩) (before _ z)
      · exact z
      · exact absurd hv (by
          have := List.not_of_lt_findIdx (p := (· == c)) (xs := x.cps.toList) z
          simpa using this)
    rw [e2]
    generalize hg : (forIn (List.range' 0 (x.length + 1 - 0)) ((#[] : Array Nat), 0) (occBody x ⟨#[c]⟩ x.length 1)).run.fst = arr at h0
    cases hl : arr.toList with
    | nil =>
      rw [← Array.getElem?_toList, hl] at h0
      cases h0
    | cons a r =>
      rw [← Array.getElem?_toList, hl] at h0
      exact ⟨r, by rw [Option.some.inj (show some a = some i from h0)]⟩
end
def mIdx : V → List V → Hp → VK → Prop := fun x xs H Q => ∃ (a : Str) (c : Nat), x = .str a ∧ xs = [.str ⟨#[c]⟩] ∧ c ∈ a.cps.toList ∧ Q (.int (a.cps.toList.idxOf c : Nat)) H
section
variable {X : Cx}
theorem mt_strIdx : MtR X "str.index" mIdx := by
  intro P s σ H x xs v us Q I rx rs h
  obtain ⟨a, c, ex, es, hc, q⟩ := h
  obtain ⟨rest, e⟩ := first_sign a c hc
  exact mt_sindex P s σ H x xs v us Q I rx rs ⟨a, _, _, rest, ex, es, e, q⟩
/-! ### the least and the greatest of a tuple of ints -/
theorem reads_ints {hp : Heap} : ∀ {ns : List Int} {us : List Value}, Vals (ns.map V.int) us → ReadsAll hp us (ns.map PyData.int) []
  | [], _, r => by cases r; exact .nil
  | n :: ns, _, r => by
    cases r with
    | cons r1 r2 =>
      obtain ⟨t, rfl⟩ := r1
      exact ReadsAll.cons (as := []) (bs := []) (.int n t) (reads_ints r2)
theorem alike_ints (ns : List Int) : PySem.W.AlikeAll (ns.map PyData.int) := ⟨fun x hx y hy => by
  obtain ⟨a, _, rfl⟩ := List.mem_map.mp hx
  obtain ⟨b, _, rfl⟩ := List.mem_map.mp hy
  rfl, fun x hx => by
  obtain ⟨a, _, rfl⟩ := List.mem_map.mp hx
  exact fun z => by cases z⟩
theorem depth_ints : ∀ ns : List Int, PyData.depthAll (ns.map PyData.int) = 0
  | [] => rfl
  | n :: ns => by
    show max 0 (PyData.depthAll (ns.map PyData.int)) = 0
    rw [depth_ints ns]
    rfl
/-- min(t), max(t): t a tuple of ints, not empty -/
def cMinT (K : PySem.W.Frag) : List V → Hp → VK → Prop := fun vs H Q => ∃ (a : Addr) (n : Int) (ns : List Int), vs = [.ref a] ∧ SqT K H a ((n :: ns).map V.int) ∧ Q (.int (ns.foldl min n)) H
def cMaxT (K : PySem.W.Frag) : List V → Hp → VK → Prop := fun vs H Q => ∃ (a : Addr) (n : Int) (ns : List Int), vs = [.ref a] ∧ SqT K H a ((n :: ns).map V.int) ∧ Q (.int (ns.foldl max n)) H
theorem call_minT (hc : X.calm = true) (hu : X.A.units + 64 < cLine) : CallR X (.builtin "min") (cMinT X.K) := by
  intro P s σ H vs us Q I r h
  obtain ⟨a, n, ns, rfl, ht, q⟩ := h
  obtain ⟨u, rfl, ru⟩ := vals1 r
  cases (show u = Value.ref a from ru)
  obtain ⟨its, rv, pl, _⟩ := I.tuple ht
  refine PySem.W.min_tuple_data (x := .int n) (xs := ns.map .int) (I.ok.hd hc) pl (reads_ints (ns := n :: ns) rv) (alike_ints (n :: ns)) (by
    have e := depth_ints (n :: ns)
    rw [List.map_cons] at e
    rw [e]
    omega) fun i v h' tk bs hv hr hk => ?_
  rw [PySem.W.minD_ints] at hr
  cases hr with
  | int _ t => exact ⟨.int _, H, I.kept hk, ⟨t, rfl⟩, q⟩
theorem call_maxT (hc : X.calm = true) (hu : X.A.units + 64 < cLine) : CallR X (.builtin "max") (cMaxT X.K) := by
  intro P s σ H vs us Q I r h
  obtain ⟨a, n, ns, rfl, ht, q⟩ := h
  obtain ⟨u, rfl, ru⟩ := vals1 r
  cases (show u = Value.ref a from ru)
  obtain ⟨its, rv, pl, _⟩ := I.tuple ht
  refine PySem.W.max_tuple_data (x := .int n) (xs := ns.map .int) (I.ok.hd hc) pl (reads_ints (ns := n :: ns) rv) (alike_ints (n :: ns)) (by
    have e := depth_ints (n :: ns)
    rw [List.map_cons] at e
    rw [e]
    omega) fun i v h' tk bs hv hr hk => ?_
  rw [PySem.W.maxD_ints] at hr
  cases hr with
  | int _ t => exact ⟨.int _, H, I.kept hk, ⟨t, rfl⟩, q⟩
end

section
variable {X : Cx} (K : PySem.W.Frag) (hK : X.K = K := by rfl)
include hK
theorem kMin (hu : X.A.units + 64 < cLine) (hc : X.calm = true := by rfl) : CallR X (.builtin "min") (cMinT K) := hK ▸ call_minT hc hu
theorem kMax (hu : X.A.units + 64 < cLine) (hc : X.calm = true := by rfl) : CallR X (.builtin "max") (cMaxT K) := hK ▸ call_maxT hc hu
theorem kFld {o : Expr} {f : Str} {p : Pos} {te : TE} (h : PE X (.Attribute o f p) (tFld X.K te f)) : PE X (.Attribute o f p) (tFld K te f) := hK ▸ h
theorem kBm {e : Expr} {T : String} {r : V → List V → Hp → VK → Prop} {to : TE} {t : TA} (h : PE X e (tBM X.K T r to t)) : PE X e (tBM K T r to t) := hK ▸ h
theorem kBm0 {e : Expr} {T : String} {r : V → List V → Hp → VK → Prop} {to : TE} (h : PE X e (tBM0 X.K T r to)) : PE X e (tBM0 K T r to) := hK ▸ h
def cTupOf (K : PySem.W.Frag) : List V → Hp → VK → Prop := fun xs H Q => ∃ p ys, xs = [.ref p] ∧ ((SqL K H p ys ∧ ∀ l, H l = none → Q (.ref l) (upd H l (.tup ys))) ∨ (SqT K H p ys ∧ Q (.ref p) H))
def cLstOf (K : PySem.W.Frag) : List V → Hp → VK → Prop := fun xs H Q => ∃ p ys, xs = [.ref p] ∧ (SqL K H p ys ∨ SqT K H p ys) ∧ ∀ l, H l = none → Q (.ref l) (upd H l (.lst ys))
def mJoin (K : PySem.W.Frag) : V → List V → Hp → VK → Prop := fun x xs H Q => ∃ a p, ∃ ys : List Str, x = .str a ∧ xs = [.ref p] ∧ (SqL K H p (ys.map V.str) ∨ SqT K H p (ys.map V.str)) ∧ (ys.map (·.length)).sum + ys.length * a.length ≤ 16777216 ∧ Q (.str (Txt.join a ys)) H
theorem kTupOf : CallR X (.type "tuple") (cTupOf K) := hK ▸ call_tuple_of
theorem kLstOf : CallR X (.type "list") (cLstOf K) := hK ▸ call_list_of
theorem kJoin : MtR X "str.join" (mJoin K) := hK ▸ mt_join
end
/-! ### a text, several times -/
def oMulP : R2 := fun x y H Q => oMul x y H Q ∨ ∃ (z : Str) (n : Int), x = .str z ∧ y = .int n ∧ MulOk z n ∧ Q (.str (Txt.mul z n)) H
theorem op_mulS {X : Cx} : OpR X (binaryOp .Mult) (fun x y H Q => ∃ (z : Str) (n : Int), x = .str z ∧ y = .int n ∧ MulOk z n ∧ Q (.str (Txt.mul z n)) H) := by
  intro P s σ H x y v u Q I rx ry h
  obtain ⟨z, n, rfl, rfl, ok, q⟩ := h
  obtain ⟨t, rfl⟩ := rx
  obtain ⟨t2, rfl⟩ := ry
  exact PySem.SB.mul ok fun t' k => ⟨.str _, H, I.tok _, ⟨t', rfl⟩, q⟩
theorem op_mulPP {X : Cx} : OpR X (binaryOp .Mult) oMulP := OpR.or op_mulP op_mulS
section
variable {K : PySem.W.Frag} {σ : L2.St} {H : Hp} {Q : VK} {D : Ends} {te tv : TE} {f : Str} {a C dx : Addr} {fs : List (Str × V)} {v : V} {t : TA} {sp : Sp} {W : WX}
theorem rd_fld (h : te σ H fun x H1 => ∃ a C dx fs v, x = .ref a ∧ H1 a = some (.ins C dx fs) ∧ Cls K C ∧ NoAttr K C f ∧ fs.lookup f = some v ∧ Q v H1) : tFld K te f σ H Q := h
theorem rd_fldv {P : Addr → Prop} : True := True.intro
theorem rd_mulN {x y : Int} (c : CMul x y) (h : Q (.int (x * y)) H) : oMulP (.int x) (.int y) H Q := .inl ⟨x, y, rfl, rfl, c, h⟩
theorem rd_mulT {z : Str} {n : Int} (c : MulOk z n) (h : Q (.str (Txt.mul z n)) H) : oMulP (.str z) (.int n) H Q := .inr ⟨z, n, rfl, rfl, c, h⟩
theorem rd_tupL {p : Addr} {ys : List V} (e : SqL K H p ys) (h : ∀ l, H l = none → Q (.ref l) (upd H l (.tup ys))) : cTupOf K [.ref p] H Q := ⟨p, ys, rfl, .inl ⟨e, h⟩⟩
theorem rd_tupT {p : Addr} {ys : List V} (e : SqT K H p ys) (h : Q (.ref p) H) : cTupOf K [.ref p] H Q := ⟨p, ys, rfl, .inr ⟨e, h⟩⟩
theorem rd_lstL {p : Addr} {ys : List V} (e : SqL K H p ys ∨ SqT K H p ys) (h : ∀ l, H l = none → Q (.ref l) (upd H l (.lst ys))) : cLstOf K [.ref p] H Q := ⟨p, ys, rfl, e, h⟩
theorem rd_idx {z : Str} {c : Nat} (hc : c ∈ z.cps.toList) (h : Q (.int (z.cps.toList.idxOf c : Nat)) H) : mIdx (.str z) [.str ⟨#[c]⟩] H Q := ⟨z, c, rfl, rfl, hc, h⟩
end

/-! ### comprehensions whose parts change the heap: P of the new list's place, the turn, what is in it, the heap -/
theorem lc_gen {J : It} {n j : Nat} {G : Hp → Prop} {Y : Nat → Hp → V → Hp → Prop} {xs : Nat → V} {σ : L2.St} {H : Hp} {Q : VK} {te : TE} (P : Addr → Nat → List V → Hp → Prop) (w : Walk J n G Y) (hY : ∀ i H x H', i < n → Y i H x H' → H' = H ∧ x = xs i) (hn : n < 100000)
    (h0 : ∀ L, H L = none → P L 0 [] (upd H L (.lst []))) (hG : ∀ L i vs Hc, H L = none → P L i vs Hc → G Hc)
    (he : ∀ L i vs Hc, i < n → H L = none → Hc L = some (.lst vs) → vs.length = i → P L i vs Hc → ∀ N : VK, (∀ v H2, H2 L = some (.lst vs) → P L (i + 1) (vs ++ [v]) (upd H2 L (.lst (vs ++ [v]))) → N v H2) → te ((wipe σ [j]).set j (some (xs i))) Hc N)
    (h : ∀ L vs Hc, H L = none → Hc L = some (.lst vs) → vs.length = n → P L n vs Hc → Q (.ref L) Hc) : lcB (gName j) tYes te [j] σ Q J H := by
  intro L hL
  refine lc_it w (fun i Hc => ∃ vs, Hc L = some (.lst vs) ∧ vs.length = i ∧ P L i vs Hc) ⟨[], upd_same, rfl, h0 L hL⟩ (fun i Hc _ p => ?_) (fun i x Hc H' hi p y => ?_) fun Hc p => ?_
  · obtain ⟨vs, _, _, p⟩ := p
    exact hG L i vs Hc hL p
  · obtain ⟨vs, h1, h2, p⟩ := p
    obtain ⟨rfl, rfl⟩ := hY _ _ _ _ hi y
    refine ⟨by simp [wipe], rd_yes ?_⟩
    refine rd_iteT ?_
    refine he L i vs _ hi hL h1 h2 p _ fun v H2 z1 z2 => ?_
    exact ⟨vs, z1, Nat.lt_of_lt_of_le (by rw [h2]; omega : vs.length < 100000) (by decide), vs ++ [v], upd_same, by rw [List.length_append, h2]; rfl, z2⟩
  · obtain ⟨vs, h1, h2, p⟩ := p
    exact h L vs Hc hL h1 h2 p
/-- the heap but for one place -/
def hide (L : Addr) (H : Hp) : Hp := fun b => if b = L then none else H b
theorem hide_ne {L b : Addr} {H : Hp} (h : b ≠ L) : hide L H b = H b := if_neg h
theorem hide_ex {L : Addr} {H : Hp} : Ex (hide L H) H := fun b o e => by
  by_cases h : b = L
  · rw [h] at e
    have z : hide L H L = none := if_pos rfl
    rw [z] at e
    cases e
  · rw [hide_ne h] at e
    exact e
theorem hide_mono {L : Addr} {H H' : Hp} (k : ∀ b o, b ≠ L → H b = some o → H' b = some o) : Ex (hide L H) (hide L H') := fun b o e => by
  by_cases h : b = L
  · rw [h] at e
    have z : hide L H L = none := if_pos rfl
    rw [z] at e
    cases e
  · rw [hide_ne h] at e ⊢
    exact k b o h e
theorem ex_hide {L : Addr} {H H' : Hp} (hL : H L = none) (e : Ex H H') : Ex H (hide L H') := fun b o q => by
  rw [hide_ne (ne_of_none q hL)]
  exact e b o q
/-- each value is new or stood before: R of the turn, the value and the heap without the new list -/
theorem lc_new {J : It} {n j : Nat} {G : Hp → Prop} {Y : Nat → Hp → V → Hp → Prop} {xs : Nat → V} {σ : L2.St} {H : Hp} {Q : VK} {te : TE} (R : Nat → V → Hp → Prop) (w : Walk J n G Y) (hY : ∀ i H x H', i < n → Y i H x H' → H' = H ∧ x = xs i) (hn : n < 100000)
    (hG : ∀ Hc, Ex H Hc → G Hc) (mR : ∀ i v H1 H2, Ex H1 H2 → R i v H1 → R i v H2)
    (he : ∀ L i Hc, i < n → H L = none → (∃ vs, Hc L = some (.lst vs)) → Ex H Hc → ∀ N : VK, (∀ v H2, Ex Hc H2 → R i v (hide L H2) → N v H2) → te ((wipe σ [j]).set j (some (xs i))) Hc N)
    (h : ∀ L vs Hc, H L = none → Ex H Hc → Hc L = some (.lst vs) → vs.length = n → (∀ i v, vs[i]? = some v → R i v (hide L Hc)) → Q (.ref L) Hc) : lcB (gName j) tYes te [j] σ Q J H := by
  refine lc_gen (fun L i vs Hc => Ex H Hc ∧ ∀ i v, vs[i]? = some v → R i v (hide L Hc)) w hY hn (fun L hL => ⟨Evl.Ex.new hL, fun i v z => by cases z⟩) (fun L i vs Hc _ p => hG Hc p.1) (fun L i vs Hc hi hL h1 h2 p N hN => ?_) (fun L vs Hc hL h1 h2 p => h L vs Hc hL p.1 h1 h2 p.2)
  refine he L i Hc hi hL ⟨vs, h1⟩ p.1 N fun v H2 e2 r2 => hN v H2 (e2 L _ h1) ?_
  have kp : Ex (hide L H2) (hide L (upd H2 L (.lst (vs ++ [v])))) := hide_mono fun b o hb q => by rw [upd_ne hb]; exact q
  have kp0 : Ex (hide L Hc) (hide L H2) := hide_mono fun b o _ q => e2 b o q
  refine ⟨Evl.Ex.mut (p.1.trans e2) hL, fun i' v' hv => ?_⟩
  by_cases hlt : i' < vs.length
  · rw [List.getElem?_append_left hlt] at hv
    exact mR _ _ _ _ (kp0.trans kp) (p.2 i' v' hv)
  · rw [List.getElem?_append_right (by omega)] at hv
    have e0 : i' - vs.length = 0 := by
      rcases Nat.eq_zero_or_pos (i' - vs.length) with z | z
      · exact z
      · rw [List.getElem?_eq_none (by simp; omega)] at hv
        cases hv
    rw [e0] at hv
    obtain rfl : v = v' := Option.some.inj hv
    have e3 : i' = i := by omega
    rw [e3]
    exact mR _ _ _ _ kp r2

theorem rd_sfld {K : PySem.W.Frag} {ta tv : TE} {f : Str} {D : Ends} {σ : L2.St} {H : Hp} (h : tv σ H fun y H1 => ta σ H1 fun x H2 => ∃ a C dx fs, x = .ref a ∧ H2 a = some (.ins C dx fs) ∧ Cls K C ∧ NoAttr K C f ∧ fs.length < 1000 ∧ D.nx σ (upd H2 a (.ins C dx (putF f y fs)))) : sFld K ta tv f D σ H := h
theorem kSf {X : Cx} (K : PySem.W.Frag) (hK : X.K = K := by rfl) {st : Stmt} {ta tv : TE} {f : Str} (h : PS X st (sFld X.K ta tv f)) : PS X st (sFld K ta tv f) := hK ▸ h

section
variable {K : PySem.W.Frag} {σ : L2.St} {H : Hp} {Q : VK} {te to : TE} {t : TA} {C : Addr} {m f : Str} {sp : Sp} {W : WX} {dvs : List V} {E : XK}
theorem rd_makeR (h : t σ H fun vs H1 => ∀ x dx, H1 x = none → H1 dx = none → dx ≠ x → sp (.ref x :: vs) (upd (upd H1 dx (.own x)) x (.ins C dx [])) (fun v H2 => v = .non ∧ Q (.ref x) H2) fun c d H2 => W c d σ H2) : tMakeR C sp W t σ H Q := h
theorem rd_methR (h : to σ H fun x H1 => ∃ a dx fs, x = .ref a ∧ H1 a = some (.ins C dx fs) ∧ fs.lookup m = none ∧ t σ H1 fun vs H2 => sp (x :: vs) H2 Q fun c d H3 => W c d σ H3) : tMethR C m sp W to t σ H Q := h
theorem rd_meth (h : to σ H fun x H1 => ∃ a dx fs, x = .ref a ∧ H1 a = some (.ins C dx fs) ∧ fs.lookup m = none ∧ t σ H1 fun vs H2 => sp (x :: (vs ++ dvs)) H2 Q E) : tMeth C m sp dvs E to t σ H Q := h
theorem rd_notV (h : te σ H fun x H1 => ∃ c, x = .bl c ∧ Q (.bl (!c)) H1) : tNotV te σ H Q := h
theorem rd_xf {a : Addr} {cls : Value} {d : Option Addr} {C : Addr} {f : Str} (h : te σ H fun x H1 => x = .ref a ∧ cls = .ref C ∧ ∃ (dd : Addr) (fs : List (Str × V)) (v : V), d = some dd ∧ H1 dd = some (.xd fs) ∧ fs.lookup f = some v ∧ Q v H1) : tXf a cls d C f te σ H Q := h
end
/-! ### more on comprehensions, numbers, texts -/
theorem look_map {f : NameKind → Bool} : ∀ (l : List (Str × NameKind)) (y : Str), (l.lookup y = some .cell ∨ l.lookup y = some .free) → ∀ g : Str × NameKind → Str × NameKind, (∀ n k, g (n, k) = (n, k) ∨ (k = .free ∧ g (n, k) = (n, .cell))) → ((l.map g).lookup y = some .cell ∨ (l.map g).lookup y = some .free)
  | [], _, h, _, _ => by rcases h with h | h <;> cases h
  | (n, k) :: l, y, h, g, hg => by
    rw [List.map_cons]
    rw [List.lookup_cons] at h
    cases e : y == n with
    | true =>
      rw [e] at h
      rcases hg n k with z | ⟨z1, z2⟩
      · rw [z, List.lookup_cons, e]; exact h
      · rw [z2, List.lookup_cons, e]; exact .inl rfl
    | false =>
      rw [e] at h
      have ih := look_map (f := f) l y h g hg
      rcases hg n k with z | ⟨z1, z2⟩
      · rw [z, List.lookup_cons, e]; exact ih
      · rw [z2, List.lookup_cons, e]; exact ih
theorem blkOk_in {X : Cx} {N : List Str} (hN : X.N = N) {s : Shared} {H : Hp} {sc0 scope : Scope} {C : Addr} {cl : List (Str × Addr)} {fp : List Addr} {own : List (Str × Nat)} (h : blkC N sc0 scope own = true) :
    BlkOk (X.blk s H sc0 (compEnvC sc0 cl C X.env) fp).N (X.blk s H sc0 (compEnvC sc0 cl C X.env) fp).env.scope scope own := by
  subst hN
  have b := blkOk_by h
  refine ⟨b.kind, b.uniq, b.ix, fun y hy hf => ?_, b.own⟩
  refine look_map (f := fun _ => true) _ _ (b.free y hy hf) _ fun n k => ?_
  by_cases c : (k == NameKind.free && X.env.scope.kind == ScopeKind.function && X.env.kindOf n == some NameKind.cell) = true
  · right
    refine ⟨?_, if_pos c⟩
    have c1 : (k == NameKind.free) = true := by
      rw [Bool.and_eq_true, Bool.and_eq_true] at c
      exact c.1.1
    cases k <;> first | rfl | cases c1
  · left
    exact if_neg c
theorem given_range (v : Nat → V) : ∀ n, Evl.given n (fun _ => true) v = (List.range n).map v
  | 0 => rfl
  | n + 1 => by rw [Evl.given_yes rfl, given_range v n, List.range_succ, List.map_append]; rfl
/-- a comprehension whose parts leave the heap, without a test -/
theorem lc_map {J : It} {n j : Nat} {G : Hp → Prop} {Y : Nat → Hp → V → Hp → Prop} {xs v : Nat → V} {σ : L2.St} {H : Hp} {Q : VK} {te : TE} (w : Walk J n G Y) (hY : ∀ i H x H', i < n → Y i H x H' → H' = H ∧ x = xs i) (hG : ∀ Hc, Ex H Hc → G Hc) (hn : n < 100000)
    (he : ∀ i Hc, i < n → Ex H Hc → Val te ((wipe σ [j]).set j (some (xs i))) Hc (v i))
    (h : ∀ L, H L = none → Q (.ref L) (upd H L (.lst ((List.range n).map v)))) : lcB (gName j) tYes te [j] σ Q J H := by
  refine lc_pure (f := fun _ => true) w hY hG hn (fun _ _ _ _ => ans_yes) (fun i Hc hi e _ => he i Hc hi e) fun L hL => ?_
  rw [given_range]
  exact h L hL
theorem walk_range0 {n : Nat} : Walk (Itr 0 n) n (fun _ => True) fun i H x H' => H' = H ∧ x = V.int (i : Nat) := by
  obtain ⟨a, b, c⟩ := walk_range (lo := 0) (n := n)
  refine ⟨a, b, fun i H x H' hi g y => ?_⟩
  have := c i H x H' hi g y
  refine ⟨this.1, ?_⟩
  rw [this.2]
  show V.int (0 + (i : Int)) = _
  rw [Int.zero_add]
theorem fmod_nat (a m : Nat) : Int.fmod (a : Int) (m : Int) = ((a % m : Nat) : Int) := by
  rw [Int.fmod_eq_emod_of_nonneg _ (Int.natCast_nonneg m)]
  rfl
theorem fold_app (c : Nat) : ∀ (k : Nat) (a : Array Nat), (List.foldl (fun x y => x ++ y) a (List.replicate k #[c])).toList = a.toList ++ List.replicate k c
  | 0, a => by simp
  | k + 1, a => by
    rw [List.replicate_succ, List.foldl_cons, fold_app c k, List.replicate_succ]
    simp
theorem mul_sign (c : Nat) (n : Int) (h : 0 < n) : (Txt.mul ⟨#[c]⟩ n).cps.toList = List.replicate n.toNat c := by
  unfold Txt.mul
  rw [if_neg (by omega)]
  by_cases e : n = 1
  · subst e; rfl
  · have hb : (n == 1 || (⟨#[c]⟩ : Str).length == 0) = false := by
      have : (⟨#[c]⟩ : Str).length = 1 := rfl
      simp [e, this]
    rw [if_neg (by rw [hb]; decide)]
    show (List.foldl (fun x y => x ++ y) #[] (List.replicate n.toNat #[c])).toList = _
    rw [fold_app]
    rfl
theorem ixN_nat {n j : Nat} (h : j < n) : ixN n (j : Int) = some j := by
  unfold ixN
  rw [if_pos (Int.natCast_nonneg j), if_pos (by omega), Int.toNat_natCast]
theorem seqIndex_nat {n j : Nat} (h : j < n) : seqIndex? (j : Int) n = some j := by
  unfold seqIndex?
  have h0 : ¬ (j : Int) < 0 := by omega
  simp only [h0, if_false]
  rw [if_pos (by simp; omega), Int.toNat_natCast]
theorem erase_map {α β : Type} (f : α → β) : ∀ (l : List α) (j : Nat), (l.map f).eraseIdx j = (l.eraseIdx j).map f
  | [], _ => rfl
  | _ :: _, 0 => rfl
  | a :: l, j + 1 => by
    show f a :: (l.map f).eraseIdx j = f a :: (l.eraseIdx j).map f
    rw [erase_map f l j]
theorem mulOk_sign (c : Nat) {n : Int} (h0 : 0 < n) (h1 : n < 100000) : MulOk ⟨#[c]⟩ n := by
  have e : (⟨#[c]⟩ : Str).length = 1 := rfl
  refine ⟨by simp; omega, fun _ _ => ?_, fun _ _ => ?_⟩
  · rw [e]
    intro hh
    have : ((2:Int) ^ 63 - 1) / n ≥ 1 := by
      refine Int.le_ediv_of_mul_le h0 ?_
      omega
    omega
  · rw [e]
    unfold Builtin.Str.tooLong
    have : sizeLine ≥ 100000 := by decide
    exact decide_eq_false (by omega)
theorem first_at {l : List Nat} {c : Nat} {r : List Nat} (h : l = c :: r) : l.idxOf c = 0 := by
  rw [h]
  exact List.idxOf_cons_self
theorem atI_last {α : Type} {l : List α} (h : 0 < l.length) : atI l (-1) = some (l[l.length - 1]'(by omega)) := by
  have e : ixN l.length (-1) = some (l.length - 1) := by
    unfold ixN
    rw [if_neg (by decide), if_pos (by omega)]
    congr 1
    omega
  show (ixN l.length (-1)).bind (fun j => l[j]?) = _
  rw [e]
  exact List.getElem?_eq_getElem _
end AT

set_option Elab.async false
set_option linter.all false
set_option maxRecDepth 100000
set_option maxHeartbeats 4000000
/-! own words, third part: a law's own def, run where nothing is being shown; the repr of data -/
namespace AT
open PySem PySem.Spec L2
/-- as FnOk, but only where no repr is under way -/
structure FnG (P : Program) (w : World) (K : PySem.W.Frag) (mg : Str → Option Value) (base : Heap) (CX : CXT) (k : Nat) (f : Addr) (fd : FuncData) (ps : List Str) (sp : Sp) : Prop where
  len : ∀ vs H Q E, sp vs H Q E → vs.length = ps.length
  run : ∀ (A : Around) (outer : List Env) (s : Shared) (H : Hp) (args : Args) (us : List Value) (vs : List V) (Q : VK) (E : XK), A.guards = some [] → Room k A → Env0 P w K mg base A outer s H → BindsTo s fd args (ps.zip us) → Vals vs us → sp vs H Q E →
    codeAny (model P w) A (.call (.ref f) args) (CR CX outer P w H s Q E) s
theorem fn_ofG {CX : CXT} {P : Program} {w : World} {K : PySem.W.Frag} {mg : Str → Option Value} {base : Heap} {k : Nat} {f : Addr} {name qual : Str} {params : Arguments} {body : List Stmt} {scope : Scope} {dV kV doc pm cdv ct oc : Value} {an od : Option Addr} {osl : Array (Option Value)} {N ps : List Str} {sp : Sp}
    (lk : List.lookup f K = some { cls := oc, dict := od, data := Data.func (PySem.W.fnOf name qual params body scope dV kV doc pm an cdv ct), slots := osl }) (hcd : PySem.W.codeIn K cdv qual = true) (S : FnScope N ps scope)
    (len : ∀ vs H Q E, sp vs H Q E → vs.length = ps.length)
    (hb : ∀ (A : Around) (outer : List Env) (s : Shared) (H : Hp) (vs : List V) (Q : VK) (E : XK), A.guards = some [] → Room k (A.deeper (PyProof.Rows.envOfC qual scope s.heap.objs.size f cdv)) → sp vs H Q E →
      ∃ t, PSs (cxOf CX P w K mg base N qual scope f cdv A outer s H E) body t ∧ t { nx := fun _ H' => Q .non H', rt := Q } (L2.start N vs) H) :
    FnG P w K mg base CX (k + 1) f (PySem.W.fnOf name qual params body scope dV kV doc pm an cdv ct) ps sp := by
  refine ⟨len, fun A outer s H args us vs Q E hg hr e0 bd rv hsp => ?_⟩
  have hl := len vs H Q E hsp
  have KX : K.In s.heap := e0.mod.kin.keeps fun b o e => (e0.bs b o e).1
  have lim : s.heap.NoLimit := e0.mod.nolimit.keeps fun b o e => (e0.bs b o e).1
  refine codeAny_call_function hr.depth (KX f _ lk) rfl S.co S.gen rfl (PySem.W.codeRec_of KX hcd) (bd _ _ _ _ ?_)
  refine wpAny_newFunctionEnv_cells S.kind (fun x hx => ?_) fun env he s1 x => ?_
  · obtain ⟨n, v⟩ := x
    rcases S.par n (List.of_mem_zip hx).1 with q | q
    · exact .inl q
    · exact .inr ⟨q, PySem.W.cellsFrom_some scope.names (s.heap.objs.size + 1) [] (.inl q)⟩
  · subst he
    refine ⟨lim.keeps x.toInCall.keep, codeAny_func ?_⟩
    obtain ⟨t, ht, hq⟩ := hb A outer s H vs Q E hg (hr.deeper _) hsp
    have I := inv_start (CX := CX) (E := E) S hr.hd e0 hl rv x
    refine wpAny_mono (ht.run [] s1 (L2.start N vs) H _ I hq) (fun fl s' hs => ?_) fun e s' hs => hs
    cases fl with
    | next =>
      obtain ⟨σ', H', J, q⟩ := hs
      exact ⟨.non, H', J.os, J.bare, J.base, J.hok, rfl, q⟩
    | brk =>
      obtain ⟨_, _, _, q⟩ := hs
      exact q.elim
    | cont =>
      obtain ⟨_, _, _, q⟩ := hs
      exact q.elim
    | ret u =>
      obtain ⟨v, σ', H', J, rv, q⟩ := hs
      exact ⟨v, H', J.os, J.bare, J.base, J.hok, rv, q⟩
theorem _root_.L2.Fun.okG {P : Program} {w : World} {K : PySem.W.Frag} {mg : Str → Option Value} {base : Heap} {x qual : Str} {st : Stmt} {f : Addr} {fd : FuncData} {N ps : List Str} {k : Nat} {sp : Sp} (F : Fun K x qual st f fd) (S : FnScope N ps (defScope st)) (len : ∀ vs H Q E, sp vs H Q E → vs.length = ps.length)
    (hb : ∀ (cdv : Value) (A : Around) (outer : List Env) (s : Shared) (H : Hp) (vs : List V) (Q : VK) (E : XK), A.guards = some [] → Room k (A.deeper (PyProof.Rows.envOfC qual (defScope st) s.heap.objs.size f cdv)) → sp vs H Q E →
      ∃ t, PSs (cxOf CX0 P w K mg base N qual (defScope st) f cdv A outer s H E).nox (defBody st) t ∧ t { nx := fun _ H' => Q .non H', rt := Q } (L2.start N vs) H) : FnG P w K mg base CX0 (k + 1) f fd ps sp := by
  obtain ⟨oc, od, kV, doc, pm, an, cdv, ct, osl, rfl, lk, hcd⟩ := F.ex
  refine fn_ofG lk hcd S len fun A outer s H vs Q E hg hr hsp => ?_
  obtain ⟨t, h, q⟩ := hb cdv A outer s H vs Q E hg hr hsp
  exact ⟨t, PSs.nox h, q⟩
theorem law_callG {P : Program} {w : World} {K : PySem.W.Frag} {mg mb : Str → Option Value} {k : Nat} {fa a : Addr} {fd : FuncData} {x : Str} {sp : Sp} {s₁ : Shared} {vs : List Value} {ns : List Int}
    (KX : K.In s₁.heap) (hns : s₁.heap.Ns mainGlobals mg) (hb : s₁.heap.Ns builtinsNs mb) (hbb : ∀ x : Str, x ≠ "__name__" → mb x = bootBuiltins x) (hlim : s₁.heap.NoLimit) (hg : s₁.gens = #[]) (ha : s₁.heap.get? a = some { cls := .type "list", data := .seq vs.toArray })
    (hi : PyProof.Rows.IntsAre vs ns) (hl : ns.length ≤ sizeLine) (hr : Room k callerA) (F : ∀ base : Heap, K.In base → base.Ns mainGlobals mg → FnG P w K mg base CX0 k fa fd [x] sp) (hbind : ∀ (s : Shared) (u : Value), BindsTo s fd { pos := [u] } [(x, u)])
    (hsp : ∀ H : Hp, Only H → SqL K H a (ns.map V.int) → sp [.ref a] H (fun v _ => v = .bl true) E0) :
    codeAny (model P w) callerA (.call (.ref fa) { pos := [.ref a] }) (fun r s' => r = .ok (.ret (.bool true)) ∧ OldK s₁.heap s'.heap ∧ s'.os = s₁.os ∧ PyProof.Rows.AllBare s'.gens) s₁ := by
  have core : ∀ H : Hp, Only H → SqL K H a (ns.map V.int) → HOk P w H s₁.heap → (∀ b, H b ≠ none → b = a) → (H a ≠ none → K.lookup a = none) →
      codeAny (model P w) callerA (.call (.ref fa) { pos := [.ref a] }) (fun r s' => r = .ok (.ret (.bool true)) ∧ OldK s₁.heap s'.heap ∧ s'.os = s₁.os ∧ PyProof.Rows.AllBare s'.gens) s₁ := by
    intro H hO hS hok hA hK
    have nd : ∀ {b : Addr} {o : Obj} {es ep}, s₁.heap.get? b = some o → o.data = .dict es ep → H b = none := by
      intro b o es ep e d
      cases q : H b with
      | none => rfl
      | some u =>
        obtain rfl := hA b (by rw [q]; exact fun z => by cases z)
        rw [ha] at e
        obtain rfl := Option.some.inj e
        cases d
    have nsK : ∀ {b : Addr} {m : Str → Option Value}, s₁.heap.Ns b m → (hidT s₁.heap H).Ns b m := by
      rintro b m ⟨o, es, ep, e, d, r⟩
      exact ⟨o, es, ep, hidT_get e (nd e d), d, r⟩
    have hKb : K.In (hidT s₁.heap H) := fun b o e => hidT_get (KX b o e) (by
      cases q : H b with
      | none => rfl
      | some u =>
        have nb : H b ≠ none := by rw [q]; exact fun z => by cases z
        obtain rfl := hA b nb
        have z := hK nb
        rw [e] at z
        cases z)
    have hM : L2.Mod K mg (hidT s₁.heap H) := ⟨hKb, nsK hns, ⟨mb, nsK hb, hbb⟩, by
      obtain ⟨mc, h1, h2⟩ := hlim
      exact ⟨mc, nsK h1, h2⟩⟩
    have e0 : Env0 P w K mg (hidT s₁.heap H) callerA [] s₁ H := ⟨rfl, hM, fun b o e => of_hidT e, Nat.le_of_eq (hidT_size s₁.heap H), trivial, (fun b z => by cases z), hok, PyProof.Rows.AllBare.of_eq hg⟩
    refine codeAny_mono ((F (hidT s₁.heap H) hKb (nsK hns)).run callerA [] s₁ H { pos := [.ref a] } [.ref a] [.ref a] _ E0 rfl hr e0 (hbind s₁ (.ref a)) (.cons rfl .nil) (hsp H hO hS)) fun r s' z => ?_
    cases r with
    | error e => exact absurd z fun z => by cases z
    | ok fl =>
      cases fl with
      | next => exact z.elim
      | brk => exact z.elim
      | cont => exact z.elim
      | ret u =>
        obtain ⟨v, H', os, bare, un, hok', rv, rfl⟩ := z
        obtain rfl : u = .bool true := rv
        refine ⟨rfl, OldK.of_keep fun b o e => ?_, os, bare⟩
        cases q : H b with
        | none => exact un.keep b o e q (fun z => by cases z) (fun z => by cases z)
        | some u =>
          rcases hO b with z | ⟨ob, xs, z⟩
          · rw [z] at q; cases q
          · have z2 := un.frzs b ob (.lst xs) z
            have e1 := (hok b _ z).1
            have e2 := (hok' b _ z2).1
            rw [e] at e1
            rw [e2, e1]
  cases hk : K.lookup a with
  | none =>
    refine core (fun b => if b = a then some (.frz { cls := .type "list", data := .seq vs.toArray } (.lst (ns.map V.int))) else none) (fun b => ?_) (.inl (.inr ⟨_, if_pos rfl⟩)) (fun b u z => ?_) (fun b z => ?_) fun _ => hk
    · by_cases e : b = a
      · exact .inr ⟨_, _, if_pos e⟩
      · exact .inl (if_neg e)
    · by_cases e : b = a
      · subst e
        have z' := (if_pos rfl).symm.trans z
        obtain rfl := Option.some.inj z'
        exact ⟨ha, by rw [List.length_map]; exact hl, vs, _, vals_ints hi, ha⟩
      · have z' := (if_neg e).symm.trans z
        cases z'
    · by_cases e : b = a
      · exact e
      · exact absurd (if_neg e) z
  | some o =>
    refine core (fun _ => none) (fun _ => .inl rfl) ?_ (fun b u z => by cases z) (fun b z => absurd rfl z) fun z => absurd rfl z
    have e := KX a o hk
    rw [ha] at e
    obtain rfl := Option.some.inj e
    refine .inr ⟨_, vs.toArray, _, hk, rfl, rfl, rfl, ?_, vals_ints hi⟩
    have := PyProof.Rows.IntsAre.length hi
    rw [List.size_toArray]
    omega
theorem walk_ofG {l : PySem.W.OpenLaw} {n k : Nat} {q : Program} {loose : List Str} {XP : (Str → Option Value) → Heap → Prop} {YP : World → Heap → Prop} {d : DefRec} {K : Params → PySem.W.Frag} {sp : PySem.W.Frag → Sp} {x : Str}
    (hn : l.most = some n) (hn2 : n ≤ sizeLine) (hdf : d.params.defaults = []) (hr : Room k callerA) (hY : ∀ (w : World) (h : Heap), YP w h → (K w.params).In h)
    (F : ∀ (w : World) (mg : Str → Option Value) (fa : Addr) (h : Heap), (K w.params).In h → h.Ns mainGlobals mg → mg d.name = some (.ref fa) → ∃ fd, (∀ (s : Shared) (u : Value), BindsTo s fd { pos := [u] } [(x, u)]) ∧ ∀ base : Heap, (K w.params).In base → base.Ns mainGlobals mg → FnG l.prog w (K w.params) mg base CX0 k fa fd [x] (sp (K w.params)))
    (hsp : ∀ (K : PySem.W.Frag) (H : Hp) (a : Addr) (ns : List Int), ns.length ≤ n → Only H → SqL K H a (ns.map V.int) → sp K [.ref a] H (fun v _ => v = .bl true) E0) : PySem.W.WalkO q loose XP YP l.row.toRowW d [] fun f vs => PySem.call f vs :=
  Att.attach_call hn hdf fun w s₀ s₁ mg mb fa o pm cd doc a vs ns G Y ho hd hcd hmg hobj hints hlen hg => by
    obtain ⟨fd, hb, hF⟩ := F w mg fa s₁.heap (hY w s₁.heap Y) G.T.g hmg
    exact law_callG (hY w s₁.heap Y) G.T.g G.T.b G.T.builtins G.T.nolimit hg hobj hints (Nat.le_trans hlen hn2) hr hF hb fun H hO hS => hsp _ H a ns hlen hO hS
/-- repr(v): v lists and tuples of plain values -/
def cReprD (K : PySem.W.Frag) : List V → Hp → VK → Prop := fun xs H Q => cRepr xs H Q ∨ ∃ (a : Addr) (d : PyData), xs = [.ref a] ∧ Dp K H (.ref a) d ∧ d.showable = true ∧ d.hasDict = false ∧ d.depth ≤ 60 ∧ d.shown.length ≤ sizeLine ∧ Q (.str d.shown) H
theorem call_reprD {X : Cx} (hg : X.A.guards = some []) (hu : X.A.units + 64 < cLine) : CallR X (.builtin "repr") (cReprD X.K) := by
  refine CallR.or call_reprP ?_
  intro P s σ H vs us Q I r h
  obtain ⟨a, d, rfl, hd, sh, nd, dl, sl, q⟩ := h
  obtain ⟨u, rfl, ru⟩ := vals1 r
  cases (show u = Value.ref a from ru)
  obtain ⟨as, rd⟩ := Dp.reads I d _ _ hd ru
  refine repr_of_reads' rd sh (fun z => by rw [nd] at z; cases z) hg (by omega) (fun b o e => e) (fun h' u tk hk => ?_) sl
  exact ⟨.str d.shown, H, I.kept hk, ⟨u, rfl⟩, q⟩
/-! ### how long what is shown may be -/
theorem join_len (sep : Str) (B : Nat) : ∀ ss : List Str, (∀ s ∈ ss, s.length ≤ B) → (Str.join sep ss).length ≤ ss.length * (B + sep.length)
  | [], _ => by unfold Str.join; exact Nat.zero_le _
  | [x], h => by
    unfold Str.join
    have := h x List.mem_cons_self
    simp
    omega
  | x :: y :: r, h => by
    have ih := join_len sep B (y :: r) fun s hs => h s (List.mem_cons_of_mem _ hs)
    have hx := h x List.mem_cons_self
    unfold Str.join
    rw [TL.len_tl, TL.tl_append, TL.tl_append, List.length_append, List.length_append, ← TL.len_tl, ← TL.len_tl, ← TL.len_tl]
    rw [List.length_cons, Nat.succ_mul]
    omega
theorem tuple_len {B : Nat} {ss : List Str} (h : ∀ s ∈ ss, s.length ≤ B) : (tupleText ss).length ≤ ss.length * (B + 2) + 3 := by
  have j := join_len (Str.ofString ", ") B ss h
  have e2 : (Str.ofString ", ").length = 2 := by decide +kernel
  rw [e2] at j
  unfold tupleText
  rw [TL.len_tl, TL.tl_append, TL.tl_append, List.length_append, List.length_append, ← TL.len_tl, ← TL.len_tl, ← TL.len_tl]
  have e1 : (Str.ofString "(").length = 1 := by decide +kernel
  have e3 : (Str.ofString (if (ss.length == 1) = true then ",)" else ")")).length ≤ 2 := by
    cases (ss.length == 1) <;> decide +kernel
  omega
theorem foldl_len {f : Nat → Array Nat} {B : Nat} : ∀ (l : List Nat) (a : Array Nat), (∀ c ∈ l, (f c).size ≤ B) → (l.foldl (fun out c => out ++ f c) a).size ≤ a.size + l.length * B
  | [], a, _ => by simp
  | c :: l, a, h => by
    have ih := foldl_len (f := f) (B := B) l (a ++ f c) fun d hd => h d (List.mem_cons_of_mem _ hd)
    have hc := h c List.mem_cons_self
    rw [List.foldl_cons, List.length_cons, Nat.succ_mul]
    rw [Array.size_append] at ih
    omega
theorem repr_len {z : Str} {B : Nat} (h : ∀ c ∈ z.cps.toList, (Builtin.Str.reprChar (reprQuote z) c).length ≤ B) : (reprText z).length ≤ 2 + z.length * B := by
  show ((Array.foldl (fun out c => out ++ (Builtin.Str.reprChar (reprQuote z) c).toArray) #[reprQuote z] z.cps).push (reprQuote z)).size ≤ _
  rw [Array.size_push, ← Array.foldl_toList]
  have := foldl_len (f := fun c => (Builtin.Str.reprChar (reprQuote z) c).toArray) (B := B) z.cps.toList #[reprQuote z] (fun c hc => by rw [List.size_toArray]; exact h c hc)
  have e : z.cps.toList.length = z.length := rfl
  rw [e] at this
  have e1 : (#[reprQuote z] : Array Nat).size = 1 := rfl
  omega
theorem quote_or (z : Str) : reprQuote z = 34 ∨ reprQuote z = 39 := by
  unfold reprQuote
  split
  · exact .inl rfl
  · exact .inr rfl
theorem repr_pl : ∀ c ∈ ("abcdefghijklmnopqrstuvwxyzABCDEFGHIJKLMNOPQRSTUVWXYZ0123456789<>=:_@#" : Str).cps.toList, (Builtin.Str.reprChar 34 c).length ≤ 10 ∧ (Builtin.Str.reprChar 39 c).length ≤ 10 := by decide +kernel
theorem small_text : ∀ n : Nat, n < 100 → (Str.ofString (toString (n : Int))).length ≤ 4 ∧ (n : Int).natAbs.log2 < 1920 := by decide +kernel
/-- data that may be shown: at most so long, so deep -/
structure Okd (d : PyData) (L D : Nat) : Prop where
  sh : d.showable = true
  nd : d.hasDict = false
  dp : d.depth ≤ D
  ln : d.shown.length ≤ L
theorem Okd.mono {d : PyData} {L D L' D' : Nat} (h : Okd d L D) (h1 : L ≤ L') (h2 : D ≤ D') : Okd d L' D' := ⟨h.sh, h.nd, Nat.le_trans h.dp h2, Nat.le_trans h.ln h1⟩
theorem Okd.bool (b : Bool) : Okd (.bool b) 5 0 := ⟨rfl, rfl, Nat.le_refl 0, by cases b <;> decide +kernel⟩
theorem Okd.int {n : Nat} (h : n < 100) : Okd (.int (n : Int)) 4 0 := ⟨decide_eq_true (small_text n h).2, rfl, Nat.le_refl 0, (small_text n h).1⟩
theorem Okd.str {z : Str} (h : ∀ c ∈ z.cps.toList, c ∈ ("abcdefghijklmnopqrstuvwxyzABCDEFGHIJKLMNOPQRSTUVWXYZ0123456789<>=:_@#" : Str).cps.toList) : Okd (.str z) (2 + z.length * 10) 0 := ⟨rfl, rfl, Nat.le_refl 0, repr_len fun c hc => by
  rcases quote_or z with e | e <;> rw [e]
  · exact (repr_pl c (h c hc)).1
  · exact (repr_pl c (h c hc)).2⟩
theorem all_okd {L D : Nat} : ∀ xs : List PyData, (∀ x ∈ xs, Okd x L D) → PyData.showableAll xs = true ∧ PyData.hasDictAll xs = false ∧ PyData.depthAll xs ≤ D ∧ (∀ s ∈ PyData.shownAll xs, s.length ≤ L) ∧ (PyData.shownAll xs).length = xs.length
  | [], _ => ⟨rfl, rfl, Nat.zero_le _, (fun s hs => by cases hs), rfl⟩
  | x :: xs, h => by
    obtain ⟨a, b, c, d, e⟩ := all_okd xs fun y hy => h y (List.mem_cons_of_mem _ hy)
    have hx := h x List.mem_cons_self
    refine ⟨?_, ?_, ?_, fun s hs => ?_, ?_⟩
    · show (x.showable && PyData.showableAll xs) = true
      rw [hx.sh, a]; rfl
    · show (x.hasDict || PyData.hasDictAll xs) = false
      rw [hx.nd, b]; rfl
    · show max x.depth (PyData.depthAll xs) ≤ D
      exact Nat.max_le.mpr ⟨hx.dp, c⟩
    · have hs' : s ∈ x.shown :: PyData.shownAll xs := hs
      rcases List.mem_cons.mp hs' with z | z
      · rw [z]; exact hx.ln
      · exact d s z
    · show (x.shown :: PyData.shownAll xs).length = _
      rw [List.length_cons, e]
      rfl
theorem Okd.tuple {L D : Nat} {xs : List PyData} (h : ∀ x ∈ xs, Okd x L D) : Okd (.tuple xs) (xs.length * (L + 2) + 3) (D + 1) := by
  obtain ⟨a, b, c, d, e⟩ := all_okd xs h
  refine ⟨a, b, Nat.succ_le_succ c, ?_⟩
  have := tuple_len d
  rw [e] at this
  exact this
section
variable {X : Cx} (K : PySem.W.Frag)
theorem kReprD (hg : X.A.guards = some []) (hu : X.A.units + 64 < cLine) (hK : X.K = K := by rfl) : CallR X (.builtin "repr") (cReprD K) := hK ▸ call_reprD hg hu
end
theorem rd_reprBD {K : PySem.W.Frag} {b : Bool} {H : Hp} {Q : VK} (h : Q (.str (if b then "True" else "False")) H) : cReprD K [.bl b] H Q := .inl (rd_reprB h)
theorem rd_reprD {K : PySem.W.Frag} {a : Addr} {d : PyData} {L D : Nat} {H : Hp} {Q : VK} (h1 : Dp K H (.ref a) d) (h2 : Okd d L D) (hL : L ≤ sizeLine) (hD : D ≤ 60) (h : Q (.str d.shown) H) : cReprD K [.ref a] H Q := .inr ⟨a, d, rfl, h1, h2.sh, h2.nd, Nat.le_trans h2.dp hD, Nat.le_trans h2.ln hL, h⟩
/-! ### signs, joined -/
theorem fold_signs : ∀ (cs : List Nat) (a : Array Nat), (List.foldl (fun acc (p : Str) => acc ++ (Str.ofString "").cps ++ p.cps) a (cs.map fun c => (⟨#[c]⟩ : Str))).toList = a.toList ++ cs
  | [], a => by simp
  | c :: cs, a => by
    rw [List.map_cons, List.foldl_cons, fold_signs cs]
    have e : (Str.ofString "").cps = #[] := by decide +kernel
    rw [e]
    simp
theorem join_signs (cs : List Nat) : (Txt.join "" (cs.map fun c => (⟨#[c]⟩ : Str))).cps.toList = cs := by
  cases cs with
  | nil => rfl
  | cons c cs =>
    show (List.foldl (fun acc (p : Str) => acc ++ (Str.ofString "").cps ++ p.cps) #[c] (cs.map fun c => (⟨#[c]⟩ : Str))).toList = _
    rw [fold_signs cs #[c]]
    rfl
theorem sum_signs : ∀ cs : List Nat, ((cs.map fun c => (⟨#[c]⟩ : Str)).map (·.length)).sum = cs.length
  | [] => rfl
  | c :: cs => by
    rw [List.map_cons, List.map_cons, List.sum_cons, sum_signs cs, List.length_cons]
    show 1 + cs.length = cs.length + 1
    omega
end AT

set_option Elab.async false
set_option linter.all false
set_option maxRecDepth 100000
set_option maxHeartbeats 4000000
/-! own words, fourth part: values as data, a heap with a hidden part that changes -/
namespace AT
open PySem PySem.Spec L2
section
variable {K : PySem.W.Frag}
mutual
theorem Dp.ex' {H H' : Hp} (e : Ex H H') : ∀ (d : PyData) {v : V}, Dp K H v d → Dp K H' v d
  | .none, _, h => by cases h; exact .non
  | .bool b, _, h => by cases h; exact .bl b
  | .int i, _, h => by cases h; exact .int i
  | .str x, _, h => by cases h; exact .str x
  | .list ds, _, h => by
    cases h with
    | lst hs ha => exact .lst (Evl.ex_l e hs) (DpAll.ex' e ds ha)
  | .tuple ds, _, h => by
    cases h with
    | tup hs ha => exact .tup (Evl.ex_t e hs) (DpAll.ex' e ds ha)
  | .dict _, _, h => by cases h
theorem DpAll.ex' {H H' : Hp} (e : Ex H H') : ∀ (ds : List PyData) {vs : List V}, DpAll K H vs ds → DpAll K H' vs ds
  | [], _, h => by cases h; exact .nil
  | d :: ds, _, h => by
    cases h with
    | cons h1 h2 => exact .cons (Dp.ex' e d h1) (DpAll.ex' e ds h2)
end
theorem _root_.L2.Dp.ex {H H' : Hp} {v : V} {d : PyData} (h : Dp K H v d) (e : Ex H H') : Dp K H' v d := Dp.ex' e d h
theorem _root_.L2.DpAll.ex {H H' : Hp} {vs : List V} {ds : List PyData} (h : DpAll K H vs ds) (e : Ex H H') : DpAll K H' vs ds := DpAll.ex' e ds h
theorem _root_.L2.DpAll.len {H : Hp} : ∀ {vs : List V} {ds : List PyData}, DpAll K H vs ds → vs.length = ds.length
  | _, _, .nil => rfl
  | _, _, .cons _ t => by rw [List.length_cons, List.length_cons, t.len]
theorem _root_.L2.DpAll.get {H : Hp} : ∀ {vs : List V} {ds : List PyData} {i : Nat} {d : PyData}, DpAll K H vs ds → ds[i]? = some d → ∃ v, vs[i]? = some v ∧ Dp K H v d
  | _, _, i, d, .nil, e => by simp at e
  | _, _, 0, d, .cons (v := v) h _, e => by
    simp at e
    subst e
    exact ⟨v, rfl, h⟩
  | _, _, i + 1, d, .cons _ t, e => by
    obtain ⟨v, h1, h2⟩ := t.get (i := i) (d := d) (by simpa using e)
    exact ⟨v, by simpa using h1, h2⟩
theorem _root_.L2.DpAll.got {H : Hp} {vs : List V} {ds : List PyData} {i : Nat} {v : V} (h : DpAll K H vs ds) (e : vs[i]? = some v) : ∃ d, ds[i]? = some d ∧ Dp K H v d := by
  have hl : i < vs.length := (List.getElem?_eq_some_iff.mp e).1
  have hd : i < ds.length := by rw [← h.len]; exact hl
  obtain ⟨v', h1, h2⟩ := h.get (List.getElem?_eq_getElem hd)
  rw [h1] at e
  obtain rfl := Option.some.inj e
  exact ⟨_, List.getElem?_eq_getElem hd, h2⟩
theorem _root_.L2.DpAll.app {H : Hp} : ∀ {vs : List V} {ds : List PyData} {us : List V} {es : List PyData}, DpAll K H vs ds → DpAll K H us es → DpAll K H (vs ++ us) (ds ++ es)
  | _, _, _, _, .nil, h => h
  | _, _, _, _, .cons h t, q => .cons h (t.app q)
theorem _root_.L2.DpAll.snoc {H : Hp} {vs : List V} {ds : List PyData} {v : V} {d : PyData} (h : DpAll K H vs ds) (q : Dp K H v d) : DpAll K H (vs ++ [v]) (ds ++ [d]) := h.app (.cons q .nil)
theorem DpAll.of {H : Hp} : ∀ {vs : List V} {ds : List PyData}, vs.length = ds.length → (∀ (i : Nat) v d, vs[i]? = some v → ds[i]? = some d → Dp K H v d) → DpAll K H vs ds
  | [], [], _, _ => .nil
  | [], _ :: _, h, _ => by cases h
  | _ :: _, [], h, _ => by cases h
  | v :: vs, d :: ds, h, g => .cons (g 0 v d rfl rfl) (DpAll.of (Nat.succ.inj h) fun i v d h1 h2 => g (i + 1) v d (by simpa using h1) (by simpa using h2))
theorem _root_.L2.DpAll.erase {H : Hp} : ∀ {vs : List V} {ds : List PyData} (i : Nat), DpAll K H vs ds → DpAll K H (vs.eraseIdx i) (ds.eraseIdx i)
  | _, _, _, .nil => .nil
  | _, _, 0, .cons _ t => t
  | _, _, i + 1, .cons h t => .cons h (t.erase i)
theorem _root_.L2.DpAll.set {H : Hp} {v : V} {d : PyData} (q : Dp K H v d) : ∀ {vs : List V} {ds : List PyData} (i : Nat), DpAll K H vs ds → DpAll K H (vs.set i v) (ds.set i d)
  | _, _, _, .nil => .nil
  | _, _, 0, .cons _ t => .cons q t
  | _, _, i + 1, .cons h t => .cons h (t.set q i)
theorem DpAll.mapV {α : Type} {H : Hp} (f : α → V) (g : α → PyData) (l : List α) (h : ∀ x ∈ l, Dp K H (f x) (g x)) : DpAll K H (l.map f) (l.map g) := by
  induction l with
  | nil => exact .nil
  | cons x l ih => exact .cons (h x List.mem_cons_self) (ih fun y hy => h y (List.mem_cons_of_mem _ hy))
/-! the shapes of values -/
theorem Dp.non_iff {H : Hp} {v : V} (h : Dp K H v .none) : v = .non := by cases h; rfl
theorem Dp.int_iff {H : Hp} {v : V} {i : Int} (h : Dp K H v (.int i)) : v = .int i := by cases h; rfl
theorem Dp.str_iff {H : Hp} {v : V} {i : Str} (h : Dp K H v (.str i)) : v = .str i := by cases h; rfl
theorem Dp.bl_iff {H : Hp} {v : V} {i : Bool} (h : Dp K H v (.bool i)) : v = .bl i := by cases h; rfl
theorem Dp.lstv {H : Hp} {v : V} {ds : List PyData} (h : Dp K H v (.list ds)) : ∃ a vs, v = .ref a ∧ SqL K H a vs ∧ DpAll K H vs ds := by
  cases h with
  | lst hs ha => exact ⟨_, _, rfl, hs, ha⟩
theorem Dp.tupv {H : Hp} {v : V} {ds : List PyData} (h : Dp K H v (.tuple ds)) : ∃ a vs, v = .ref a ∧ SqT K H a vs ∧ DpAll K H vs ds := by
  cases h with
  | tup hs ha => exact ⟨_, _, rfl, hs, ha⟩
/-! ### the hidden part -/
def hid (S : List Addr) (H : Hp) : Hp := fun b => if b ∈ S then none else H b
theorem hid_at {S : List Addr} {H : Hp} {b : Addr} (h : b ∉ S) : hid S H b = H b := if_neg h
theorem hid_in {S : List Addr} {H : Hp} {b : Addr} (h : b ∈ S) : hid S H b = none := if_pos h
theorem hid_nil {H : Hp} : hid [] H = H := by
  funext b
  exact if_neg List.not_mem_nil
theorem hid_some {S : List Addr} {H : Hp} {b : Addr} {o : HO} (h : hid S H b = some o) : b ∉ S ∧ H b = some o := by
  by_cases z : b ∈ S
  · rw [hid_in z] at h; cases h
  · exact ⟨z, by rw [hid_at z] at h; exact h⟩
theorem hid_ex {S : List Addr} {H : Hp} : Ex (hid S H) H := fun b o h => (hid_some h).2
theorem hid_sub {S S' : List Addr} {H : Hp} (h : ∀ b ∈ S', b ∈ S) : Ex (hid S H) (hid S' H) := fun b o q => by
  obtain ⟨h1, h2⟩ := hid_some q
  rw [hid_at fun z => h1 (h b z)]
  exact h2
theorem hid_tail {q : Addr} {S : List Addr} {H : Hp} : Ex (hid (q :: S) H) (hid S H) := hid_sub fun _ hb => List.mem_cons_of_mem _ hb
/-- all but S stands -/
def Kp (S : List Addr) (H H' : Hp) : Prop := ∀ b o, b ∉ S → H b = some o → H' b = some o
theorem Kp.refl {S : List Addr} {H : Hp} : Kp S H H := fun _ _ _ h => h
theorem Kp.trans {S : List Addr} {H H1 H2 : Hp} (a : Kp S H H1) (b : Kp S H1 H2) : Kp S H H2 := fun x o hx h => b x o hx (a x o hx h)
theorem Kp.of_ex {S : List Addr} {H H' : Hp} (e : Ex H H') : Kp S H H' := fun b o _ h => e b o h
theorem Kp.ex {S : List Addr} {H H' : Hp} (k : Kp S H H') : Ex (hid S H) (hid S H') := fun b o q => by
  obtain ⟨h1, h2⟩ := hid_some q
  rw [hid_at h1]
  exact k b o h1 h2
theorem Kp.sub {S S' : List Addr} {H H' : Hp} (k : Kp S H H') (h : ∀ b ∈ S, b ∈ S') : Kp S' H H' := fun b o hb q => k b o (fun z => hb (h b z)) q
theorem Kp.put {S : List Addr} {H : Hp} {q : Addr} {o : HO} (h : q ∈ S) : Kp S H (upd H q o) := fun b u hb z => by
  rw [upd_ne (show b ≠ q from fun e => hb (by rw [e]; exact h))]
  exact z
theorem Kp.new {S : List Addr} {H : Hp} {q : Addr} {o : HO} (h : H q = none) : Kp S H (upd H q o) := Kp.of_ex (Evl.Ex.new h)
/-- from what stands in the one hidden part to the other -/
theorem Kp.up {M S : List Addr} {H0 H : Hp} (k : Kp M H0 H) (fr : ∀ q ∈ S, q ∉ M → H0 q = none) : Ex (hid M H0) (hid S H) := fun b o z => by
  obtain ⟨h1, h2⟩ := hid_some z
  rw [hid_at fun hb => ?_]
  · exact k b o h1 h2
  · have := fr b hb h1
    rw [h2] at this
    cases this
theorem Ex.hid {S : List Addr} {H H' : Hp} (e : Ex H H') : Ex (AT.hid S H) (AT.hid S H') := (Kp.of_ex (S := S) e).ex
/-- a list that was changed is let be -/
theorem Dp.frz {S : List Addr} {H : Hp} {q : Addr} {vs : List V} {ds : List PyData} (hq : H q = some (.lst vs)) (hn : q ∉ S) (h : DpAll K (hid (q :: S) H) vs ds) : Dp K (hid S H) (.ref q) (.list ds) :=
  .lst (SqL.of (by rw [hid_at hn]; exact hq)) (h.ex hid_tail)
theorem Dp.frz' {S : List Addr} {H : Hp} {q : Addr} {vs : List V} {ds : List PyData} (hq : H q = some (.lst vs)) (hn : q ∉ S) (h : DpAll K (hid S H) vs ds) : Dp K (hid S H) (.ref q) (.list ds) :=
  .lst (SqL.of (by rw [hid_at hn]; exact hq)) h
/-- a new list, a new tuple -/
theorem notin_of {S : List Addr} {H : Hp} {q : Addr} (hs : ∀ b ∈ S, ∃ o, H b = some o) (hq : H q = none) : q ∉ S := fun z => by
  obtain ⟨o, ho⟩ := hs q z
  rw [hq] at ho
  cases ho
theorem Dp.newT {S : List Addr} {H : Hp} {q : Addr} {vs : List V} {ds : List PyData} (hq : H q = none) (hn : q ∉ S) (h : DpAll K (hid S H) vs ds) : Dp K (hid S (upd H q (.tup vs))) (.ref q) (.tuple ds) :=
  .tup (Evl.st_of (by rw [hid_at hn, upd_same])) (h.ex (Ex.hid (Evl.Ex.new hq)))
theorem Dp.newL {S : List Addr} {H : Hp} {q : Addr} {vs : List V} {ds : List PyData} (hq : H q = none) (hn : q ∉ S) (h : DpAll K (hid S H) vs ds) : Dp K (hid S (upd H q (.lst vs))) (.ref q) (.list ds) :=
  .lst (SqL.of (by rw [hid_at hn, upd_same])) (h.ex (Ex.hid (Evl.Ex.new hq)))
/-! ### reading -/
section
variable {σ : L2.St} {H H0 : Hp} {Q : VK} {x : V} {ds : List PyData} {d : PyData} {i : Nat}
theorem rd_ixDT (e : Ex H0 H) (h : Dp K H0 x (.tuple ds)) (hi : ds[i]? = some d) (q : ∀ v, Dp K H0 v d → Q v H) : rIx K x (.int (i : Int)) H Q := by
  obtain ⟨a, vs, rfl, h1, h2⟩ := Dp.tupv h
  obtain ⟨v, hv, hd⟩ := h2.get hi
  exact rd_ixT (Evl.ex_t e h1) (atI_nat hv) (q v hd)
theorem rd_ixDL (e : Ex H0 H) (h : Dp K H0 x (.list ds)) (hi : ds[i]? = some d) (q : ∀ v, Dp K H0 v d → Q v H) : rIx K x (.int (i : Int)) H Q := by
  obtain ⟨a, vs, rfl, h1, h2⟩ := Dp.lstv h
  obtain ⟨v, hv, hd⟩ := h2.get hi
  exact rd_ixL (Evl.ex_l e h1) (atI_nat hv) (q v hd)
theorem rd_lenDT (e : Ex H0 H) (h : Dp K H0 x (.tuple ds)) (q : Q (.int (ds.length : Int)) H) : cLen K [x] H Q := by
  obtain ⟨a, vs, rfl, h1, h2⟩ := Dp.tupv h
  exact rd_lenT (Evl.ex_t e h1) (by rw [h2.len]; exact q)
theorem rd_lenDL (e : Ex H0 H) (h : Dp K H0 x (.list ds)) (q : Q (.int (ds.length : Int)) H) : cLen K [x] H Q := by
  obtain ⟨a, vs, rfl, h1, h2⟩ := Dp.lstv h
  exact rd_lenL (Evl.ex_l e h1) (by rw [h2.len]; exact q)
def oIs : R2 := fun x y H Q => y = .non ∧ Q (.bl (decide (x = .non))) H
theorem rd_is {P : Prop} (h : P) : V.non = V.non ∧ P := ⟨rfl, h⟩
/-- == of the same data -/
def Lay (d : PyData) : Prop := d.canLay0 = true ∧ d.depth ≤ 64
theorem Lay.sh {d : PyData} (h : Lay d) : SeqAt.shaped d = true := Bool.and_eq_true_iff.mpr ⟨h.1, decide_eq_true h.2⟩
theorem rd_eqD {y : V} {H1 : Hp} (e0 : Ex H0 H) (e1 : Ex H1 H) (hx : Dp K H0 x d) (hy : Dp K H1 y d) (hl : Lay d) (q : Q (.bl true) H) : oEq K x y H Q :=
  .inr ⟨d, d, hx.ex e0, hy.ex e1, hl.sh, hl.sh, by rw [SeqAt.eqv_refl d hl.1]; exact q⟩
theorem rd_neD {y : V} {H1 : Hp} (e0 : Ex H0 H) (e1 : Ex H1 H) (hx : Dp K H0 x d) (hy : Dp K H1 y d) (hl : Lay d) (q : Q (.bl false) H) : oNe K x y H Q :=
  .inr ⟨d, d, hx.ex e0, hy.ex e1, hl.sh, hl.sh, by rw [SeqAt.eqv_refl d hl.1]; exact q⟩
end
/-- data that may be compared: at most so deep -/
structure Ly (d : PyData) (n : Nat) : Prop where
  c : d.canLay0 = true
  p : d.depth ≤ n
theorem Ly.lay {d : PyData} {n : Nat} (h : Ly d n) (hn : n ≤ 64) : Lay d := ⟨h.c, Nat.le_trans h.p hn⟩
theorem Ly.mono {d : PyData} {n m : Nat} (h : Ly d n) (hn : n ≤ m) : Ly d m := ⟨h.c, Nat.le_trans h.p hn⟩
theorem Ly.none : Ly .none 0 := ⟨rfl, Nat.le_refl 0⟩
theorem Ly.bool {b : Bool} : Ly (.bool b) 0 := ⟨rfl, Nat.le_refl 0⟩
theorem Ly.int {i : Int} : Ly (.int i) 0 := ⟨rfl, Nat.le_refl 0⟩
theorem Ly.str {x : Str} (h : okS x) : Ly (.str x) 0 := ⟨h, Nat.le_refl 0⟩
theorem ly_all {n : Nat} : ∀ {ds : List PyData}, (∀ d ∈ ds, Ly d n) → PyData.canLayAll0 ds = true ∧ PyData.depthAll ds ≤ n
  | [], _ => ⟨rfl, Nat.zero_le _⟩
  | d :: ds, h => by
    obtain ⟨a, b⟩ := ly_all (ds := ds) fun y hy => h y (List.mem_cons_of_mem _ hy)
    have hx := h d List.mem_cons_self
    refine ⟨?_, Nat.max_le.mpr ⟨hx.p, b⟩⟩
    show (d.canLay0 && PyData.canLayAll0 ds) = true
    rw [hx.c, a]; rfl
theorem Ly.tuple {n : Nat} {ds : List PyData} (h : ∀ d ∈ ds, Ly d n) : Ly (.tuple ds) (n + 1) := ⟨(ly_all h).1, Nat.succ_le_succ (ly_all h).2⟩
theorem Ly.list {n : Nat} {ds : List PyData} (h : ∀ d ∈ ds, Ly d n) : Ly (.list ds) (n + 1) := ⟨(ly_all h).1, Nat.succ_le_succ (ly_all h).2⟩
/-! ### walks over data -/
def YD (K : PySem.W.Frag) (ds : List PyData) (H0 : Hp) : Nat → Hp → V → Hp → Prop := fun i H v H' => H' = H ∧ ∃ d, ds[i]? = some d ∧ Dp K H0 v d
abbrev Wd (K : PySem.W.Frag) (J : It) (ds : List PyData) (H0 : Hp) : Prop := Walk J ds.length (fun H => Ex H0 H) (YD K ds H0)
theorem wd_list {H0 : Hp} {a : Addr} {vs : List V} {ds : List PyData} (h : SqL K H0 a vs) (hd : DpAll K H0 vs ds) : Wd K (Itl K a) ds H0 := by
  rw [Wd, ← hd.len]
  exact walk_list.mono (fun H e => Evl.ex_l e h) fun i H x H' _ _ y => ⟨y.1, hd.got y.2⟩
theorem wd_tup {H0 : Hp} {a : Addr} {vs : List V} {ds : List PyData} (h : SqT K H0 a vs) (hd : DpAll K H0 vs ds) : Wd K (Itt K a) ds H0 := by
  rw [Wd, ← hd.len]
  exact walk_tup.mono (fun H e => Evl.ex_t e h) fun i H x H' _ _ y => ⟨y.1, hd.got y.2⟩
section
variable {σ : L2.St} {H H0 : Hp} {Q : VK} {te : TE} {R : It → Hp → Prop} {D : Ends} {g : TG} {tb : TS} {tt : TT} {J : It} {ds : List PyData} {x : V} {vs : List Nat}
theorem rd_anyL' (h : te σ H fun x H1 => ∃ a, x = .ref a ∧ (∃ xs, SqL K H1 a xs) ∧ R (Itl K a) H1) : iAny K te σ H R := .inl h
theorem rd_anyT' (h : te σ H fun x H1 => ∃ a, x = .ref a ∧ (∃ xs, SqT K H1 a xs) ∧ R (Itt K a) H1) : iAny K te σ H R := .inr (.inl h)
theorem rd_anyS' (h : te σ H fun v H1 => ∃ x, v = .str x ∧ R (Its x) H1) : iAny K te σ H R := .inr (.inr h)
theorem rd_itDL (e : Ex H0 H) (h : Dp K H0 x (.list ds)) (q : ∀ J, Wd K J ds H0 → R J H) : ∃ a, x = .ref a ∧ (∃ xs, SqL K H a xs) ∧ R (Itl K a) H := by
  obtain ⟨a, vs, rfl, h1, h2⟩ := Dp.lstv h
  exact ⟨a, rfl, ⟨vs, Evl.ex_l e h1⟩, q _ (wd_list h1 h2)⟩
theorem rd_itDT (e : Ex H0 H) (h : Dp K H0 x (.tuple ds)) (q : ∀ J, Wd K J ds H0 → R J H) : ∃ a, x = .ref a ∧ (∃ xs, SqT K H a xs) ∧ R (Itt K a) H := by
  obtain ⟨a, vs, rfl, h1, h2⟩ := Dp.tupv h
  exact ⟨a, rfl, ⟨vs, Evl.ex_t e h1⟩, q _ (wd_tup h1 h2)⟩
theorem rd_itS {z : Str} (q : R (Its z) H) : ∃ x, V.str z = .str x ∧ R (Its x) H := ⟨z, rfl, q⟩
theorem fo_D (w : Wd K J ds H0) (Pv : Nat → L2.St → Hp → Prop) (h0 : Pv 0 σ H) (hG : ∀ i σ H, i ≤ ds.length → Pv i σ H → Ex H0 H)
    (hs : ∀ (i : Nat) d v σ H, ds[i]? = some d → Dp K H0 v d → Pv i σ H → g v σ H fun σ2 H2 => tb { D with nx := Pv (i + 1), ct := Pv (i + 1), bk := D.nx } σ2 H2) (hd : ∀ σ H, Pv ds.length σ H → D.nx σ H) : forB g tb D σ J H :=
  fo_it w Pv h0 hG (fun i v σ H H' hi p y => by
    obtain ⟨rfl, d, h1, h2⟩ := y
    exact hs i d v σ _ h1 h2 p) hd
/-- how the heap goes on from H: S may change, the rest stands -/
structure Tr (S : List Addr) (H : Hp) (T : Hp → Hp → Prop) : Prop where
  rfl' : T H H
  here : ∀ {a}, T H a → T a a
  st : ∀ {a b c}, T a b → (∃ o, a c = some o) → ∃ o : HO, b c = some o
  trans : ∀ {a b c}, T a b → T b c → T a c
  put : ∀ {L Hc o}, H L = none → T H Hc → T H (upd Hc L o)
  kp : ∀ {a b}, T a b → Kp S a b
theorem tr_ex {S : List Addr} {H : Hp} : Tr S H Ex := ⟨Evl.Ex.refl H, fun {a} _ => Evl.Ex.refl a, fun e h => h.elim fun o z => ⟨o, e _ _ z⟩, fun a b => a.trans b, fun h e => Evl.Ex.mut e h, fun e => Kp.of_ex e⟩
/-- a comprehension with a test, each value told by its turn -/
theorem lc_F {S : List Addr} {T : Hp → Hp → Prop} {n : Nat} {G : Hp → Prop} {Y : Nat → Hp → V → Hp → Prop} {P : Nat → V → Prop} {P2 : Nat → L2.St → Prop} (t : Tr S H T) (hS : ∀ b ∈ S, ∃ o, H b = some o) (w : Walk J n G Y) (hY : ∀ i H x H', i < n → Y i H x H' → H' = H ∧ P i x) (hn : n < 100000)
    (hG : ∀ Hc, T H Hc → G Hc) (p : Nat → Bool) (f : Nat → PyData)
    (hg : ∀ i x Hc (N : L2.St → Hp → Prop), i < n → P i x → T H Hc → (∀ σ2, wipe σ2 vs = wipe σ vs → P2 i σ2 → N σ2 Hc) → g x (wipe σ vs) Hc N)
    (ht : ∀ L i σ2 Hc, i < n → P2 i σ2 → H L = none → L ∉ S → T H Hc → (∀ b ∈ L :: S, ∃ o, Hc b = some o) → Ex (hid S H) (hid (L :: S) Hc) → ∀ N : Bool → Hp → Prop, (∀ H2, T Hc H2 → N (p i) H2) → tt σ2 Hc N)
    (he : ∀ L i σ2 Hc, i < n → P2 i σ2 → p i = true → H L = none → L ∉ S → T H Hc → (∀ b ∈ L :: S, ∃ o, Hc b = some o) → Ex (hid S H) (hid (L :: S) Hc) → ∀ N : VK, (∀ v H2, T Hc H2 → Dp K (hid (L :: S) H2) v (f i) → N v H2) → te σ2 Hc N)
    (h : ∀ L us Hc, T H Hc → H L = none → L ∉ S → Hc L = some (.lst us) → DpAll K (hid (L :: S) Hc) us (((List.range n).filter p).map f) → Q (.ref L) Hc) : lcB g tt te vs σ Q J H := by
  intro L hL
  have nL : L ∉ S := notin_of hS hL
  have up : ∀ {Hc}, T H Hc → Ex (hid S H) (hid (L :: S) Hc) := fun q => (t.kp q).up fun b hb hn => by
    rcases List.mem_cons.mp hb with z | z
    · rw [z]; exact hL
    · exact absurd z hn
  have kL : ∀ {a b : Hp} {o}, T a b → a L = some o → b L = some o := fun q z => t.kp q L _ nL z
  have hz : ∀ m, m ≤ n → (((List.range m).filter p).map f).length < sizeLine := fun m hm => by
    rw [List.length_map]
    have := List.length_filter_le p (List.range m)
    rw [List.length_range] at this
    exact Nat.lt_of_le_of_lt (Nat.le_trans this hm) (Nat.lt_trans hn (by decide))
  refine lc_it w (fun i Hc => i ≤ n ∧ T H Hc ∧ ∃ us, Hc L = some (.lst us) ∧ DpAll K (hid (L :: S) Hc) us (((List.range i).filter p).map f)) ⟨Nat.zero_le _, t.put hL t.rfl', [], upd_same, .nil⟩ (fun i Hc _ q => hG Hc q.2.1) (fun i x Hc H' hi q y => ?_) fun Hc q => ?_
  · obtain ⟨hi1, t1, us, h1, h2⟩ := q
    obtain ⟨rfl, px⟩ := hY _ _ _ _ hi y
    refine hg i x _ _ hi px t1 fun σ2 hw p2 => ⟨hw, ?_⟩
    have hs1 : ∀ b ∈ L :: S, ∃ o, H' b = some o := fun b hb => by
      rcases List.mem_cons.mp hb with z | z
      · rw [z]; exact ⟨_, h1⟩
      · exact t.st t1 (hS b z)
    refine ht L i σ2 _ hi p2 hL nL t1 hs1 (up t1) _ fun H2 t2 => ?_
    cases hp : p i with
    | true =>
      refine rd_iteT ?_
      refine he L i σ2 H2 hi p2 hp hL nL (t.trans t1 t2) (fun b hb => t.st t2 (hs1 b hb)) (up (t.trans t1 t2)) _ fun v H3 t3 dv => ?_
      have k23 := (t.kp (t.trans t2 t3)).sub (S' := L :: S) fun b hb => List.mem_cons_of_mem _ hb
      refine ⟨us, kL t3 (kL t2 h1), by rw [h2.len]; exact hz i hi1, hi, t.put hL (t.trans (t.trans t1 t2) t3), us ++ [v], upd_same, ?_⟩
      rw [List.range_succ, List.filter_append, List.map_append]
      have e : ((List.filter p [i]).map f) = [f i] := by
        rw [List.filter_cons, if_pos hp]
        rfl
      rw [e]
      exact ((h2.ex k23.ex).snoc dv).ex (Kp.put List.mem_cons_self).ex
    | false =>
      refine rd_iteF ?_
      have k12 := (t.kp t2).sub (S' := L :: S) fun b hb => List.mem_cons_of_mem _ hb
      refine ⟨hi, t.trans t1 t2, us, kL t2 h1, ?_⟩
      rw [List.range_succ, List.filter_append, List.map_append]
      have e : ((List.filter p [i]).map f) = [] := by
        rw [List.filter_cons, if_neg (by rw [hp]; exact Bool.false_ne_true)]
        rfl
      rw [e, List.append_nil]
      exact h2.ex k12.ex
  · obtain ⟨_, t1, us, h1, h2⟩ := q
    exact h L us Hc t1 hL nL h1 h2
/-- a comprehension without a test, each value told by a relation -/
theorem lc_R {S : List Addr} {T : Hp → Hp → Prop} {n : Nat} {G : Hp → Prop} {Y : Nat → Hp → V → Hp → Prop} {P : Nat → V → Prop} {P2 : Nat → L2.St → Prop} (t : Tr S H T) (hS : ∀ b ∈ S, ∃ o, H b = some o) (w : Walk J n G Y) (hY : ∀ i H x H', i < n → Y i H x H' → H' = H ∧ P i x) (hn : n < 100000)
    (hG : ∀ Hc, T H Hc → G Hc) (R : Nat → PyData → Prop)
    (hg : ∀ i x Hc (N : L2.St → Hp → Prop), i < n → P i x → T H Hc → (∀ σ2, wipe σ2 vs = wipe σ vs → P2 i σ2 → N σ2 Hc) → g x (wipe σ vs) Hc N)
    (he : ∀ L i σ2 Hc, i < n → P2 i σ2 → H L = none → L ∉ S → T H Hc → (∀ b ∈ L :: S, ∃ o, Hc b = some o) → Ex (hid S H) (hid (L :: S) Hc) → ∀ N : VK, (∀ v d H2, T Hc H2 → Dp K (hid (L :: S) H2) v d → R i d → N v H2) → te σ2 Hc N)
    (h : ∀ L us Hc ds, T H Hc → H L = none → L ∉ S → Hc L = some (.lst us) → DpAll K (hid (L :: S) Hc) us ds → ds.length = n → (∀ i d, ds[i]? = some d → R i d) → Q (.ref L) Hc) : lcB g tYes te vs σ Q J H := by
  intro L hL
  have nL : L ∉ S := notin_of hS hL
  have up : ∀ {Hc}, T H Hc → Ex (hid S H) (hid (L :: S) Hc) := fun q => (t.kp q).up fun b hb hn => by
    rcases List.mem_cons.mp hb with z | z
    · rw [z]; exact hL
    · exact absurd z hn
  have kL : ∀ {a b : Hp} {o}, T a b → a L = some o → b L = some o := fun q z => t.kp q L _ nL z
  refine lc_it w (fun i Hc => i ≤ n ∧ T H Hc ∧ ∃ us ds, Hc L = some (.lst us) ∧ DpAll K (hid (L :: S) Hc) us ds ∧ ds.length = i ∧ ∀ i d, ds[i]? = some d → R i d) ⟨Nat.zero_le _, t.put hL t.rfl', [], [], upd_same, .nil, rfl, fun i d z => by simp at z⟩ (fun i Hc _ q => hG Hc q.2.1) (fun i x Hc H' hi q y => ?_) fun Hc q => ?_
  · obtain ⟨hi1, t1, us, ds, h1, h2, h3, h4⟩ := q
    obtain ⟨rfl, px⟩ := hY _ _ _ _ hi y
    refine hg i x _ _ hi px t1 fun σ2 hw p2 => ⟨hw, rd_yes ?_⟩
    refine rd_iteT ?_
    have hs1 : ∀ b ∈ L :: S, ∃ o, H' b = some o := fun b hb => by
      rcases List.mem_cons.mp hb with z | z
      · rw [z]; exact ⟨_, h1⟩
      · exact t.st t1 (hS b z)
    refine he L i σ2 _ hi p2 hL nL t1 hs1 (up t1) _ fun v d H3 t3 dv rv => ?_
    have k23 := (t.kp t3).sub (S' := L :: S) fun b hb => List.mem_cons_of_mem _ hb
    refine ⟨us, kL t3 h1, by rw [h2.len, h3]; exact Nat.lt_of_lt_of_le (Nat.lt_trans hi hn) (by decide), hi, t.put hL (t.trans t1 t3), us ++ [v], ds ++ [d], upd_same, ((h2.ex k23.ex).snoc dv).ex (Kp.put List.mem_cons_self).ex, by rw [List.length_append, h3]; rfl, fun i' d' hd' => ?_⟩
    by_cases hlt : i' < ds.length
    · rw [List.getElem?_append_left hlt] at hd'
      exact h4 i' d' hd'
    · rw [List.getElem?_append_right (by omega)] at hd'
      have e0 : i' - ds.length = 0 := by
        rcases Nat.eq_zero_or_pos (i' - ds.length) with z | z
        · exact z
        · rw [List.getElem?_eq_none (by simp; omega)] at hd'
          cases hd'
      rw [e0] at hd'
      obtain rfl : d = d' := Option.some.inj hd'
      have e3 : i' = i := by omega
      rw [e3]
      exact rv
  · obtain ⟨_, t1, us, ds, h1, h2, h3, h4⟩ := q
    exact h L us Hc ds t1 hL nL h1 h2 h3 h4
/-- one name as the target -/
theorem hg_name {T : Hp → Hp → Prop} {n j : Nat} {P : Nat → V → Prop} {H : Hp} (hw : ∀ v : V, wipe ((wipe σ [j]).set j (some v)) [j] = wipe σ [j]) : ∀ i x Hc (N : L2.St → Hp → Prop), i < n → P i x → T H Hc → (∀ σ2, wipe σ2 [j] = wipe σ [j] → (∃ v, P i v ∧ σ2 = (wipe σ [j]).set j (some v)) → N σ2 Hc) → gName j x (wipe σ [j]) Hc N :=
  fun i x Hc N _ p _ h => h _ (hw x) ⟨x, p, rfl⟩
theorem wd_Y {n : Nat} : ∀ (i : Nat) (H : Hp) (x : V) (H' : Hp), i < n → YD K ds H0 i H x H' → H' = H ∧ ∃ d, ds[i]? = some d ∧ Dp K H0 x d := fun _ _ _ _ _ y => y
theorem str_Y {z : Str} : ∀ (i : Nat) (H : Hp) (x : V) (H' : Hp), i < z.cps.size → (H' = H ∧ ∃ c, z.cps[i]? = some c ∧ x = .str ⟨#[c]⟩) → H' = H ∧ ∃ c, z.cps.toList[i]? = some c ∧ x = V.str ⟨#[c]⟩ := fun i H x H' _ y => ⟨y.1, by
  obtain ⟨c, h1, h2⟩ := y.2
  exact ⟨c, by rw [Array.getElem?_toList]; exact h1, h2⟩⟩
/-! over data, one name as the target -/
theorem getD_range {α β : Type} (l : List α) (a : α) (q : α → Bool) (f : α → β) : ((List.range l.length).filter (fun i => q (l.getD i a))).map (fun i => f (l.getD i a)) = (l.filter q).map f := by
  have e : (List.range l.length).map (fun i => l.getD i a) = l := by
    refine List.ext_getElem (by simp) fun i h1 h2 => ?_
    rw [List.getElem_map, List.getElem_range, List.getD_eq_getElem?_getD, List.getElem?_eq_getElem h2]
    rfl
  have h : ((List.range l.length).map (fun i => l.getD i a)).filter q = ((List.range l.length).filter (fun i => q (l.getD i a))).map (fun i => l.getD i a) := List.filter_map ..
  rw [e] at h
  rw [h, List.map_map]
  rfl
theorem lc_FD {S : List Addr} {T : Hp → Hp → Prop} {j : Nat} (t : Tr S H T) (hS : ∀ b ∈ S, ∃ o, H b = some o) (w : Wd K J ds H0) (e0 : Ex H0 (hid S H)) (hn : ds.length < 100000) (hw : ∀ v : V, wipe ((wipe σ [j]).set j (some v)) [j] = wipe σ [j])
    (q : PyData → Bool) (F : PyData → PyData)
    (ht : ∀ L d v Hc, d ∈ ds → Dp K (hid (L :: S) Hc) v d → H L = none → L ∉ S → T H Hc → (∀ b ∈ L :: S, ∃ o, Hc b = some o) → Ex (hid S H) (hid (L :: S) Hc) → ∀ N : Bool → Hp → Prop, (∀ H2, T Hc H2 → N (q d) H2) → tt ((wipe σ [j]).set j (some v)) Hc N)
    (he : ∀ L d v Hc, d ∈ ds → Dp K (hid (L :: S) Hc) v d → q d = true → H L = none → L ∉ S → T H Hc → (∀ b ∈ L :: S, ∃ o, Hc b = some o) → Ex (hid S H) (hid (L :: S) Hc) → ∀ N : VK, (∀ v H2, T Hc H2 → Dp K (hid (L :: S) H2) v (F d) → N v H2) → te ((wipe σ [j]).set j (some v)) Hc N)
    (h : ∀ L us Hc, T H Hc → H L = none → L ∉ S → Hc L = some (.lst us) → DpAll K (hid (L :: S) Hc) us ((ds.filter q).map F) → Q (.ref L) Hc) : lcB (gName j) tt te [j] σ Q J H := by
  have hd : ∀ {i : Nat} {d : PyData}, ds[i]? = some d → ds.getD i .none = d := fun z => by rw [List.getD_eq_getElem?_getD, z]; rfl
  refine lc_F (K := K) (P := fun i x => ∃ d, ds[i]? = some d ∧ Dp K H0 x d) t hS w wd_Y hn (fun Hc z => (e0.trans (t.kp z).ex).trans hid_ex) (fun i => q (ds.getD i .none)) (fun i => F (ds.getD i .none)) (hg_name hw) (fun L i σ2 Hc hi p2 hL nL t1 hs up N hN => ?_) (fun L i σ2 Hc hi p2 hp hL nL t1 hs up N hN => ?_) fun L us Hc t1 hL nL h1 h2 => ?_
  · obtain ⟨v, ⟨d, h1, h2⟩, rfl⟩ := p2
    exact ht L d v Hc (List.mem_of_getElem? h1) (h2.ex (e0.trans up)) hL nL t1 hs up N fun H2 t2 => by have := hN H2 t2; rw [hd h1] at this; exact this
  · obtain ⟨v, ⟨d, h1, h2⟩, rfl⟩ := p2
    rw [hd h1] at hp
    exact he L d v Hc (List.mem_of_getElem? h1) (h2.ex (e0.trans up)) hp hL nL t1 hs up N fun v2 H2 t2 d2 => hN v2 H2 t2 (by rw [hd h1]; exact d2)
  · rw [getD_range] at h2
    exact h L us Hc t1 hL nL h1 h2
theorem lc_MD {S : List Addr} {T : Hp → Hp → Prop} {j : Nat} (t : Tr S H T) (hS : ∀ b ∈ S, ∃ o, H b = some o) (w : Wd K J ds H0) (e0 : Ex H0 (hid S H)) (hn : ds.length < 100000) (hw : ∀ v : V, wipe ((wipe σ [j]).set j (some v)) [j] = wipe σ [j])
    (F : PyData → PyData)
    (he : ∀ L d v Hc, d ∈ ds → Dp K (hid (L :: S) Hc) v d → H L = none → L ∉ S → T H Hc → (∀ b ∈ L :: S, ∃ o, Hc b = some o) → Ex (hid S H) (hid (L :: S) Hc) → ∀ N : VK, (∀ v H2, T Hc H2 → Dp K (hid (L :: S) H2) v (F d) → N v H2) → te ((wipe σ [j]).set j (some v)) Hc N)
    (h : ∀ L us Hc, T H Hc → H L = none → L ∉ S → Hc L = some (.lst us) → DpAll K (hid (L :: S) Hc) us (ds.map F) → Q (.ref L) Hc) : lcB (gName j) tYes te [j] σ Q J H := by
  refine lc_FD (K := K) t hS w e0 hn hw (fun _ => true) F (fun L d v Hc _ _ _ _ t1 _ _ N hN => rd_yes (hN Hc (t.here t1))) (fun L d v Hc hm hd _ hL nL t1 hs up N hN => he L d v Hc hm hd hL nL t1 hs up N hN) fun L us Hc t1 hL nL h1 h2 => ?_
  rw [List.filter_eq_self.mpr fun _ _ => rfl] at h2
  exact h L us Hc t1 hL nL h1 h2
theorem ex_up1 {H H' : Hp} {q : Addr} (e : Ex H H') (hq : H q = none) : Ex H (hid [q] H') := fun b o z => by
  rw [hid_at (fun m => by rw [List.mem_singleton.mp m, hq] at z; cases z)]
  exact e b o z
theorem st1 {H : Hp} {q : Addr} {o : HO} (h : H q = some o) : ∀ b ∈ [q], ∃ o, H b = some o := fun b hb => by
  cases List.mem_singleton.mp hb
  exact ⟨o, h⟩
theorem sts_ex {S : List Addr} {H H' : Hp} (h : ∀ b ∈ S, ∃ o, H b = some o) (e : Ex H H') : ∀ b ∈ S, ∃ o, H' b = some o := fun b hb => by
  obtain ⟨o, z⟩ := h b hb
  exact ⟨o, e b o z⟩
theorem ex_nil {H H' : Hp} (e : Ex H H') : Ex H (hid [] H') := by rw [hid_nil]; exact e
def isN : PyData → Bool
  | .none => true
  | _ => false
theorem isN_dp {H : Hp} {v : V} {d : PyData} (h : Dp K H v d) : decide (v = .non) = isN d := by
  cases h <;> rfl
/-- the values of plain data -/
theorem dp_strs {H : Hp} : ∀ {vs : List V} {ss : List Str}, DpAll K H vs (ss.map PyData.str) → vs = ss.map V.str
  | _, [], h => by cases h; rfl
  | _, s :: ss, h => by
    cases h with
    | cons h1 h2 => rw [Dp.str_iff h1, dp_strs h2]; rfl
theorem dp_ints' {H : Hp} : ∀ {vs : List V} {ss : List Int}, DpAll K H vs (ss.map PyData.int) → vs = ss.map V.int
  | _, [], h => by cases h; rfl
  | _, s :: ss, h => by
    cases h with
    | cons h1 h2 => rw [Dp.int_iff h1, dp_ints' h2]; rfl
theorem dp_bls {H : Hp} : ∀ {vs : List V} {ss : List Bool}, DpAll K H vs (ss.map PyData.bool) → vs = ss.map V.bl
  | _, [], h => by cases h; rfl
  | _, s :: ss, h => by
    cases h with
    | cons h1 h2 => rw [Dp.bl_iff h1, dp_bls h2]; rfl
theorem dps_str {H : Hp} (ss : List Str) : DpAll K H (ss.map V.str) (ss.map PyData.str) := DpAll.mapV _ _ _ fun x _ => .str x
theorem dps_int {H : Hp} (ss : List Int) : DpAll K H (ss.map V.int) (ss.map PyData.int) := DpAll.mapV _ _ _ fun x _ => .int x
theorem dps_bl {H : Hp} (ss : List Bool) : DpAll K H (ss.map V.bl) (ss.map PyData.bool) := DpAll.mapV _ _ _ fun x _ => .bl x
end
end
section
variable {X : Cx} (K : PySem.W.Frag) (hK : X.K = K := by rfl)
include hK
theorem kGt {e : Expr} {n : Nat} {t : TGs} (h : PG X e (gTup X.K n t)) : PG X e (gTup K n t) := hK ▸ h
end
section
variable {K : PySem.W.Frag} {σ : L2.St} {H H0 : Hp} {v : V} {Q : L2.St → Hp → Prop} {t : TGs} {ds : List PyData}
/-- a, b = a tuple of data -/
theorem rd_gtD {n : Nat} (e : Ex H0 H) (h : Dp K H0 v (.tuple ds)) (hn : ds.length = n) (q : ∀ xs, DpAll K H0 xs ds → t xs σ H Q) : gTup K n t v σ H Q := by
  obtain ⟨a, vs, rfl, h1, h2⟩ := Dp.tupv h
  exact ⟨a, vs, rfl, Evl.ex_t e h1, by rw [h2.len, hn], q vs h2⟩
theorem dp2 {a b : PyData} {xs : List V} (h : DpAll K H0 xs [a, b]) : ∃ x y, xs = [x, y] ∧ Dp K H0 x a ∧ Dp K H0 y b := by
  cases h with
  | cons h1 h =>
    cases h with
    | cons h2 h =>
      cases h
      exact ⟨_, _, rfl, h1, h2⟩
theorem rd_gN {i : Nat} {tg : TGs} {x : V} {xs : List V} (h : tg xs (σ.set i (some x)) H Q) : gCons (gName i) tg (x :: xs) σ H Q := ⟨_, _, rfl, h⟩
theorem rd_gE (h : Q σ H) : gNil [] σ H Q := ⟨rfl, h⟩
end
/-! ### hiding what data can't reach -/
mutual
def noList : PyData → Bool
  | .list _ => false
  | .tuple ds => noListAll ds
  | _ => true
def noListAll : List PyData → Bool
  | [] => true
  | d :: ds => noList d && noListAll ds
end
section
variable {K : PySem.W.Frag} {S : List Addr} {H : Hp}
theorem sqt_hid (h : ∀ b ∈ S, (∃ C dx fs, H b = some (.ins C dx fs)) ∨ ∃ xs, H b = some (.lst xs)) {a : Addr} {vs : List V} (q : SqT K H a vs) : SqT K (hid S H) a vs := by
  rcases q with (q | ⟨o, q⟩) | q
  · refine .inl (.inl ?_)
    rw [hid_at fun hb => ?_]
    · exact q
    · rcases h a hb with ⟨_, _, _, z⟩ | ⟨_, z⟩ <;> rw [z] at q <;> cases q
  · refine .inl (.inr ⟨o, ?_⟩)
    rw [hid_at fun hb => ?_]
    · exact q
    · rcases h a hb with ⟨_, _, _, z⟩ | ⟨_, z⟩ <;> rw [z] at q <;> cases q
  · exact .inr q
theorem sql_hid (h : ∀ b ∈ S, ∃ C dx fs, H b = some (.ins C dx fs)) {a : Addr} {vs : List V} (q : SqL K H a vs) : SqL K (hid S H) a vs := by
  rcases q with (q | ⟨o, q⟩) | q
  · refine .inl (.inl ?_)
    rw [hid_at fun hb => ?_]
    · exact q
    · obtain ⟨_, _, _, z⟩ := h a hb
      rw [z] at q; cases q
  · refine .inl (.inr ⟨o, ?_⟩)
    rw [hid_at fun hb => ?_]
    · exact q
    · obtain ⟨_, _, _, z⟩ := h a hb
      rw [z] at q; cases q
  · exact .inr q
mutual
theorem Dp.hidI (h : ∀ b ∈ S, ∃ C dx fs, H b = some (.ins C dx fs)) : ∀ (d : PyData) {v : V}, Dp K H v d → Dp K (hid S H) v d
  | .none, _, q => by cases q; exact .non
  | .bool b, _, q => by cases q; exact .bl b
  | .int i, _, q => by cases q; exact .int i
  | .str x, _, q => by cases q; exact .str x
  | .list ds, _, q => by
    cases q with
    | lst hs ha => exact .lst (sql_hid h hs) (DpAll.hidI h ds ha)
  | .tuple ds, _, q => by
    cases q with
    | tup hs ha => exact .tup (sqt_hid (fun b hb => .inl (h b hb)) hs) (DpAll.hidI h ds ha)
  | .dict _, _, q => by cases q
theorem DpAll.hidI (h : ∀ b ∈ S, ∃ C dx fs, H b = some (.ins C dx fs)) : ∀ (ds : List PyData) {vs : List V}, DpAll K H vs ds → DpAll K (hid S H) vs ds
  | [], _, q => by cases q; exact .nil
  | d :: ds, _, q => by
    cases q with
    | cons h1 h2 => exact .cons (Dp.hidI h d h1) (DpAll.hidI h ds h2)
end
mutual
theorem Dp.hidT (h : ∀ b ∈ S, (∃ C dx fs, H b = some (.ins C dx fs)) ∨ ∃ xs, H b = some (.lst xs)) : ∀ (d : PyData) {v : V}, noList d = true → Dp K H v d → Dp K (hid S H) v d
  | .none, _, _, q => by cases q; exact .non
  | .bool b, _, _, q => by cases q; exact .bl b
  | .int i, _, _, q => by cases q; exact .int i
  | .str x, _, _, q => by cases q; exact .str x
  | .list ds, _, n, q => by cases n
  | .tuple ds, _, n, q => by
    cases q with
    | tup hs ha => exact .tup (sqt_hid h hs) (DpAll.hidT h ds n ha)
  | .dict _, _, _, q => by cases q
theorem DpAll.hidT (h : ∀ b ∈ S, (∃ C dx fs, H b = some (.ins C dx fs)) ∨ ∃ xs, H b = some (.lst xs)) : ∀ (ds : List PyData) {vs : List V}, noListAll ds = true → DpAll K H vs ds → DpAll K (hid S H) vs ds
  | [], _, _, q => by cases q; exact .nil
  | d :: ds, _, n, q => by
    obtain ⟨n1, n2⟩ := Bool.and_eq_true_iff.mp n
    cases q with
    | cons h1 h2 => exact .cons (Dp.hidT h d n1 h1) (DpAll.hidT h ds n2 h2)
end
theorem noList_all {ds : List PyData} (h : ∀ d ∈ ds, noList d = true) : noListAll ds = true := by
  induction ds with
  | nil => rfl
  | cons d ds ih =>
    show (noList d && noListAll ds) = true
    rw [h d List.mem_cons_self, ih fun e he => h e (List.mem_cons_of_mem _ he)]
    rfl
/-- a list or a tuple of data -/
def SqD (K : PySem.W.Frag) (H : Hp) (x : V) (ds : List PyData) : Prop := Dp K H x (.list ds) ∨ Dp K H x (.tuple ds)
theorem SqD.ex {H' : Hp} {x : V} {ds : List PyData} (h : SqD K H x ds) (e : Ex H H') : SqD K H' x ds := h.elim (fun z => .inl (z.ex e)) fun z => .inr (z.ex e)
theorem rd_anySq {σ : L2.St} {H0 : Hp} {te : TE} {x : V} {ds : List PyData} {R : It → Hp → Prop} (he : ∀ Q : VK, Q x H → te σ H Q) (e : Ex H0 H) (h : SqD K H0 x ds) (q : ∀ J, Wd K J ds H0 → R J H) : iAny K te σ H R := by
  rcases h with h | h
  · exact rd_anyL' (he _ (rd_itDL e h q))
  · exact rd_anyT' (he _ (rd_itDT e h q))
/-- tuple(x) -/
theorem rd_tupSq {S : List Addr} {H0 : Hp} {x : V} {ds : List PyData} {Q : VK} (hs : ∀ b ∈ S, ∃ o, H b = some o) (e : Ex H0 (hid S H)) (h : SqD K H0 x ds) (q : ∀ a H', Ex H H' → Dp K (hid S H') (.ref a) (.tuple ds) → Q (.ref a) H') : cTupOf K [x] H Q := by
  rcases h with h | h
  · obtain ⟨a, vs, rfl, h1, h2⟩ := Dp.lstv h
    exact rd_tupL (Evl.ex_l (e.trans hid_ex) h1) fun l hl => q l _ (Evl.Ex.new hl) (Dp.newT hl (notin_of hs hl) (h2.ex e))
  · obtain ⟨a, vs, rfl, h1, h2⟩ := Dp.tupv h
    exact rd_tupT (Evl.ex_t (e.trans hid_ex) h1) (q a H (Evl.Ex.refl H) (h.ex e))
/-- list(x) -/
theorem rd_lstSq {S : List Addr} {H0 : Hp} {x : V} {ds : List PyData} {Q : VK} (e : Ex H0 (hid S H)) (h : SqD K H0 x ds) (q : ∀ l vs, H l = none → DpAll K (hid S H) vs ds → Q (.ref l) (upd H l (.lst vs))) : cLstOf K [x] H Q := by
  rcases h with h | h
  · obtain ⟨a, vs, rfl, h1, h2⟩ := Dp.lstv h
    exact rd_lstL (.inl (Evl.ex_l (e.trans hid_ex) h1)) fun l hl => q l vs hl (h2.ex e)
  · obtain ⟨a, vs, rfl, h1, h2⟩ := Dp.tupv h
    exact rd_lstL (.inr (Evl.ex_t (e.trans hid_ex) h1)) fun l hl => q l vs hl (h2.ex e)
end
section
variable {K : PySem.W.Frag} {H : Hp}
theorem rd_lstSq0 {H0 : Hp} {x : V} {ds : List PyData} {Q : VK} (e : Ex H0 H) (h : SqD K H0 x ds) (q : ∀ l vs, H l = none → DpAll K H0 vs ds → Q (.ref l) (upd H l (.lst vs))) : cLstOf K [x] H Q := by
  rcases h with h | h
  · obtain ⟨a, vs, rfl, h1, h2⟩ := Dp.lstv h
    exact rd_lstL (.inl (Evl.ex_l e h1)) fun l hl => q l vs hl h2
  · obtain ⟨a, vs, rfl, h1, h2⟩ := Dp.tupv h
    exact rd_lstL (.inr (Evl.ex_t e h1)) fun l hl => q l vs hl h2
end
theorem rd_par3 {i j l : Nat} {ta : TA} {D : Ends} {σ : L2.St} {H : Hp} (h : ta σ H fun vs H1 => ∃ u v w, vs = [u, v, w] ∧ D.nx (((σ.set i (some u)).set j (some v)).set l (some w)) H1) : tPar3 i j l ta D σ H := h
theorem rd_v3 {u v w : V} {P : V → V → V → Prop} (h : P u v w) : ∃ u' v' w', [u, v, w] = [u', v', w'] ∧ P u' v' w' := ⟨u, v, w, rfl, h⟩
end AT

set_option Elab.async false
set_option linter.all false
set_option maxRecDepth 100000
set_option maxHeartbeats 4000000
/-! own words, fifth part: dicts whose keys are tuples, lists unpacked, while -/
namespace AT
open PySem PySem.Spec PyProof.Rows L2
/-- {k: v}, the key a tuple -/
def tDisp1T (tk tv : TE) : TE := fun σ H Q => ∀ p, H p = none → tk σ (upd H p (.dT [])) fun x H1 => tv σ H1 fun y H2 => H2 p = some (.dT []) ∧ ∃ (b : Addr) (k : List Key), x = .ref b ∧ H2 b = some (.tup (k.map kV)) ∧ Q (.ref p) (upd H2 p (.dT [(k, y)]))
section
variable {X : Cx} {pos : Pos} {k v : Expr} {tk tv : TE}
theorem pe_disp1T (hu : X.A.units + 1 < cLine) (hk : PE X k tk) (hv : PE X v tv) : PE X (.Dict [some k] [v] pos) (tDisp1T tk tv) := by
  refine ⟨fun pins s σ H Q I q => ?_⟩
  have hn := I.hok.fresh (Nat.le_refl s.heap.objs.size)
  have I1 := I.laid (a := s.heap.objs.size) (o := .dT []) (t' := s.toks) (fun _ _ z => Heap.get?_push_of_some _ z) (Nat.le_refl _) (dt_empty s.heap I.big)
  have hz := zip_pairTrees [some k] [v] X.env pos rfl rfl
  have hl : (pairTrees [some k] [v] X.env pos).length = 1 := pairTrees_length [some k] [v] X.env pos rfl rfl
  have hne : pairTrees [some k] [v] X.env pos ≠ [] := fun z => by rw [z] at hl; cases hl
  have room : (tupleKind (mixKind X.prog X.w)).room X.A := Nat.lt_of_succ_lt hu
  rw [arm_eval_Dict, hz, dictDisplay_pairs _ hne (by rw [hl]; decide)]
  refine wpAny_bind (wpAny_standAt (wpAny_bind ?_))
  refine wpAny_subDictH (knd := tupleKind (mixKind X.prog X.w)) room (by rw [hl]; decide) ?_
  refine pairTrees_cons_walk (thn (hk.run pins _ σ _ _ I1 (q _ hn)) fun u s1 ⟨x, H1, I1', rx, q1⟩ => thn (hv.run pins s1 σ H1 _ I1' q1) fun w2 s2 ⟨y, H2, I2, ry, q2⟩ => pairTrees_nil_walk ?_)
  obtain ⟨e, b, ks, rfl, eb, q3⟩ := q2
  cases (show u = Value.ref b from rx)
  obtain ⟨z, hd, xs0, r0, dd⟩ := dt_of I2.hok e
  cases r0
  refine ⟨[(ks, b, w2)], ⟨rfl, rfl, key_of I2.hok eb, True.intro⟩, dd, fun h' tk dd' hs => wpAny_pure ⟨.ref s.heap.objs.size, _, ?_, rfl, q3⟩⟩
  have e1 : storedAllH [] [(ks, b, w2)] = [(ks, b, w2)] := rfl
  rw [e1] at dd'
  obtain ⟨o, es, ep, ho, h2, h3, h4, h5, h6⟩ := dd'
  refine d_write I2 (by rw [e]; exact True.intro) hs ⟨o, ho⟩ ⟨by show 1 ≤ sizeLine; decide, hd, [(ks, b, w2)], .cons ⟨rfl, ?_, ry⟩ .nil, o, es, ep, ho, h2, h3, h4, h6⟩
  show upd H2 s.heap.objs.size _ b = _
  rw [upd_ne (ne_of eb e (fun z => nomatch z))]
  exact eb
end
section
variable {X : Cx} (K : PySem.W.Frag) (hK : X.K = K := by rfl)
include hK
theorem kGl {e : Expr} {n : Nat} {t : TGs} (h : PG X e (gLst X.K n t)) : PG X e (gLst K n t) := hK ▸ h
end
section
variable {K : PySem.W.Frag} {σ : L2.St} {H : Hp} {Q : VK} {D : Ends} {td ty tv tk : TE} {tt : TT} {tb : TS}
theorem rd_dget (h : td σ H fun x H1 => ty σ H1 fun y H2 => ∃ a v, x = .ref a ∧ DGet H2 a y (some v) ∧ Q v H2) : tDGet td ty σ H Q := h
theorem rd_din (h : ty σ H fun y H1 => td σ H1 fun x H2 => ∃ a o, x = .ref a ∧ DGet H2 a y o ∧ Q (.bl o.isSome) H2) : tDIn ty td σ H Q := h
theorem rd_dnin (h : ty σ H fun y H1 => td σ H1 fun x H2 => ∃ a o, x = .ref a ∧ DGet H2 a y o ∧ Q (.bl (!o.isSome)) H2) : tDNotIn ty td σ H Q := h
theorem rd_dput (h : tv σ H fun v H1 => td σ H1 fun x H2 => ty σ H2 fun y H3 => ∃ a H4, x = .ref a ∧ DPut H3 a y v H4 ∧ D.nx σ H4) : sDPut td ty tv D σ H := h
theorem rd_disp1T (h : ∀ p, H p = none → tk σ (upd H p (.dT [])) fun x H1 => tv σ H1 fun y H2 => H2 p = some (.dT []) ∧ ∃ (b : Addr) (k : List Key), x = .ref b ∧ H2 b = some (.tup (k.map kV)) ∧ Q (.ref p) (upd H2 p (.dT [(k, y)]))) : tDisp1T tk tv σ H Q := h
theorem rd_dnK (h : ∀ p, H p = none → Q (.ref p) (upd H p (.dK []))) : tDNewK σ H Q := h
theorem rd_dnT (h : ∀ p, H p = none → Q (.ref p) (upd H p (.dT []))) : tDNewT σ H Q := h
theorem rd_wh (W : Nat → L2.St → Hp → Prop) (m0 : Nat) (h0 : W m0 σ H) (hs : ∀ m σ' H', W m σ' H' → tt σ' H' fun b H1 => if b = true then ∃ N : L2.St → Hp → Prop, (∀ σ2 H2, N σ2 H2 → ∃ m', m' < m ∧ W m' σ2 H2) ∧ tb { D with nx := N, ct := N, bk := D.nx } σ' H1 else D.nx σ' H1) : tWhile tt tb D σ H := ⟨W, ⟨m0, h0⟩, hs⟩
end
end AT

set_option Elab.async false
set_option linter.all false
set_option maxRecDepth 100000
set_option maxHeartbeats 4000000
/-! own words, sixth part: enumerate over tuples and texts -/
namespace AT
open PySem PySem.Spec PyProof.Rows L2
open AutoSeq1 (wpAny_loadPart')
section
theorem tupIn {h : Heap} {a : Addr} {its : Array Value} (p : IsTup h a its) : h.IsTuple a its := by
  obtain ⟨o, e1, e2, n, e3⟩ := p
  exact ⟨o, e1, e2, n, e3⟩
/-- a tuple, item by item -/
theorem draws_tup {P : Program} {w : World} {B : Around} (calm : B.handled = none) (z q : Addr) (hq : q ≠ z) (vs : Array Value) :
    Draws P w B z [z, q] vs.size (fun k v => vs[k]? = some v) (fun k g => g.IsTupleIter z q k ∧ g.IsTuple q vs) := by
  refine ⟨fun _ _ st => ?_, fun _ _ _ st hk => ?_, fun k s Q E hk st hQ => ?_, fun s Q E st hE => ?_⟩
  · obtain ⟨⟨o, e, _⟩, _⟩ := st
    exact ⟨o, e⟩
  · exact ⟨Heap.IsTupleIter.at st.1 fun o e => hk z List.mem_cons_self o e, Heap.IsTuple.at st.2 fun o e => hk q (List.mem_cons_of_mem _ List.mem_cons_self) o e⟩
  · have hx : vs[k]? = some vs[k] := by simp [hk]
    exact RZ.nextOf_tuple_item st.1 st.2 hx fun g g1 g2 => hQ _ g s.toks hx ⟨g1, Heap.IsTuple.extBut st.2 g2.extBut hq⟩ g2
  · exact RZ.nextOf_tuple_end calm st.1 st.2 (by simp) hE
theorem enumNewT (q : Addr) (vs : Array Value) (k : Nat) (od : Option Addr) (sl : Array (Option Value)) :
    Meets (Builtin.«enumerate.__new__» ⟨[.type "enumerate", .ref q], []⟩) (fun _ R s => s.heap.get? q = some ⟨.type "tuple", od, .seq vs k, sl⟩ ∧
      R (.ok (.ret (.ref (s.heap.push { cls := .type "tuple_iterator", data := .fields #[.ref q, .int 0 0] }).objs.size)))
        ⟨(s.heap.push { cls := .type "tuple_iterator", data := .fields #[.ref q, .int 0 0] }).push { cls := .type "enumerate", data := .fields #[.none, .bool false, .ref s.heap.objs.size, rawInt 0, .none, .none] }, s.gens, s.drawn, s.toks, s.os⟩) :=
  .of_wp fun prog w A R s h => by
    obtain ⟨hp, g, d, tk, os⟩ := s
    obtain ⟨hl, h⟩ := h
    have sub := sub_enumerate
    have tup : Heap.IsTuple (Shared.heap ⟨hp, g, d, tk, os⟩) q vs := ⟨_, hl, rfl, k, rfl⟩
    wp_walk using wpAny_loadPart' hl
    refine wpAny_stack_any fun _ => wpAny_pure ?_
    split
    · rename_i c _ _ _ _ _
      cases (c == Value.type "enumerate") <;>
        (wp_walk using wpAny_loadPart' hl, wpAny_pyIter_tuple tup
         exact ⟨_, rfl, h⟩)
    · wp_walk using wpAny_loadPart' hl, wpAny_pyIter_tuple tup
      exact ⟨_, rfl, h⟩
theorem callEnumT {P : Program} {w : World} {B : Around} {E : Value → Shared → Prop} {s : Shared} {q : Addr} {vs : Array Value} {Q : Value → Shared → Prop} (tup : s.heap.IsTuple q vs)
    (hQ : ∀ g, IsEnum g (s.heap.objs.size + 1) s.heap.objs.size 0 .none → g.IsTupleIter s.heap.objs.size q 0 → (∀ b o, s.heap.get? b = some o → g.get? b = some o) → Q (.ref (s.heap.objs.size + 1)) { s with heap := g }) :
    wpAny (model P w) B (call (.type "enumerate") [.ref q]) Q E s := by
  obtain ⟨⟨c, od, dt, sl⟩, hl, hc, k, hd⟩ := tup
  obtain rfl : c = .type "tuple" := hc
  obtain rfl : dt = .seq vs k := hd
  refine callType_new F.called_enumerate (by decide) (F.typeCall_enumerate_1 _) (F.newCall_enumerate_1 _) (fun x => F.args_object_init_2 x _) F.entry_enumerate_new (enumNewT q vs k od sl) ⟨hl, ?_⟩
  have size1 : (s.heap.push { cls := .type "tuple_iterator", data := .fields #[.ref q, .int 0 0] }).objs.size = s.heap.objs.size + 1 := Heap.size_push ..
  show _ ∧ _
  rw [size1]
  have made : IsEnum ((s.heap.push { cls := .type "tuple_iterator", data := .fields #[.ref q, .int 0 0] }).push { cls := .type "enumerate", data := .fields #[.none, .bool false, .ref s.heap.objs.size, rawInt 0, .none, .none] }) (s.heap.objs.size + 1) s.heap.objs.size 0 .none := by
    have e := Heap.get?_push_size (s.heap.push { cls := .type "tuple_iterator", data := .fields #[.ref q, .int 0 0] }) (o := { cls := .type "enumerate", data := .fields #[.none, .bool false, .ref s.heap.objs.size, rawInt 0, .none, .none] }) rfl
    rw [size1] at e
    exact e
  exact ⟨⟨_, made, rfl⟩, hQ _ made ⟨_, Heap.get?_push_of_some _ (Heap.get?_push_size _ rfl), rfl, rfl⟩ fun b o z => Heap.get?_push_of_some _ (Heap.get?_push_of_some _ z)⟩
/-- the tuple at q, each item in a new pair -/
def ItEt (K : PySem.W.Frag) (q : Addr) : It where
  go := fun i H => ∃ (xs : List V) (x : V), SqT K H q xs ∧ xs[i]? = some x
  yld := fun i H v H' => ∃ T x, v = .ref T ∧ H T = none ∧ H' = upd H T (.tup [.int (i : Nat), x]) ∧ ∀ xs, SqT K H q xs → xs[i]? = some x
  stop := fun i H => ∃ xs : List V, SqT K H q xs ∧ xs.length = i
theorem turn_enumT {P : Program} {w : World} {K : PySem.W.Frag} {tgs : List Expr} {kk : Nat} {tp : Pos} (q e z : Addr) :
    Turn P w K (.Tuple tgs kk tp) (ItEt K q) [e, z] e (fun i g => (∃ old, IsEnum g e z ((i : Nat) : Int) old) ∧ g.IsTupleIter z q i ∧ e ≠ z ∧ q ≠ z ∧ q ≠ e) := by
  refine ⟨List.mem_cons_self, fun i g st b hb => ?_, fun i g g' st k => ?_, ?_, ?_, fun B i s Q E st h => ?_⟩
  · obtain ⟨⟨old, he⟩, ⟨o, ho, hc, hd⟩, _⟩ := st
    rcases List.mem_cons.mp hb with y | y
    · rw [y]; exact ⟨_, he, fun v t => nomatch t⟩
    · rw [List.mem_singleton.mp y]; exact ⟨o, ho, fun v t => by rw [hd] at t; cases t⟩
  · obtain ⟨⟨old, he⟩, hz, ne⟩ := st
    exact ⟨⟨old, k e List.mem_cons_self _ he⟩, Heap.IsTupleIter.at hz fun o t => k z (List.mem_cons_of_mem _ List.mem_cons_self) o t, ne⟩
  · intro X hP hw hK hc i pins s σ H E I hf st hg
    subst hP hw hK
    obtain ⟨⟨old, he⟩, hz, ne, n1, n2⟩ := st
    obtain ⟨xs, x, hq, hx⟩ := hg
    obtain ⟨its, rv, p, len⟩ := I.tuple hq
    obtain ⟨u, hu, ru⟩ := rv.get hx
    have lt : i < its.toArray.size := by
      have := (List.getElem?_eq_some_iff.mp hu).1
      simpa using this
    have heL : e < s.heap.objs.size := Heap.lt_size he
    have hzL : z < s.heap.objs.size := by obtain ⟨_, t, _⟩ := hz; exact Heap.lt_size t
    refine wpAny_pyNext_enum_itemD (draws_tup (P := X.prog) (w := X.w) (B := X.A.in1) (show X.A.in1.handled = none from I.ok.hd hc) z q n1 its.toArray) he ⟨hz, tupIn p⟩ lt ne (by simp [ne, Ne.symm n2]) fun u' g tk hu' ho st' hT hsz hk => ?_
    have eu : u' = u := by
      have a : its.toArray[i]? = some u := by simpa using hu
      rw [a] at hu'
      exact (Option.some.inj hu').symm
    subst eu
    refine ⟨_, rfl, wpAny_letOwnedTupleGo_enum (s := { s with heap := g, toks := tk + 1 }) ho fun g2 he' sb => ?_⟩
    have hT2 : g2.get? s.heap.objs.size = some { cls := .type "tuple", data := .seq #[.int i tk, u'] } := (sb.2 _ (Nat.ne_of_gt heL)).trans hT
    have fresh : ObjOk X.prog X.w (upd H s.heap.objs.size (.tup [.int (i : Nat), x])) g2 s.heap.objs.size (.tup [.int (i : Nat), x]) := ⟨by show 2 ≤ sizeLine; decide, [.int i tk, u'], .cons ⟨_, rfl⟩ (.cons ru .nil), ⟨_, hT2, rfl, _, rfl⟩⟩
    have I1 : Inv X pins σ (upd H s.heap.objs.size (.tup [.int (i : Nat), x])) { s with heap := g2, toks := tk + 1 } :=
      I.turnedNew (ch := [e, z]) (fun b ob hb t => (sb.2 b (fun y => hb (by simp [y]))).trans (hk b ob (fun y => hb (by simp [y])) (fun y => hb (by simp [y])) t)) hf (Nat.le_refl _) fresh
    refine ⟨.ref s.heap.objs.size, _, I1, rfl, ⟨_, x, rfl, I.hok.fresh (Nat.le_refl _), rfl, fun ys hy => by rw [I.tuple_inj hy hq]; exact hx⟩, ⟨⟨u', ?_⟩, Heap.IsTupleIter.at st'.1 fun o t => (sb.2 z (Ne.symm ne)).trans t, ne, n1, n2⟩, fun b hb => ?_⟩
    · have e1 : ((i + 1 : Nat) : Int) = (i : Int) + 1 := by omega
      rw [e1]
      exact he'
    · have hb' : b < s.heap.objs.size := by
        rcases List.mem_cons.mp hb with y | y
        · rw [y]; exact heL
        · rw [List.mem_singleton.mp y]; exact hzL
      rw [upd_ne (Nat.ne_of_lt hb')]
      exact (hf b hb).1
  · intro X hP hw hK hc i pins s σ H E I hf st hg
    subst hP hw hK
    obtain ⟨⟨old, he⟩, hz, ne, n1, n2⟩ := st
    obtain ⟨xs, hq, hx⟩ := hg
    obtain ⟨its, rv, p, len⟩ := I.tuple hq
    obtain ⟨f0, f1, f2, f3, f4, f5⟩ := hf z (List.mem_cons_of_mem _ List.mem_cons_self)
    have hl : i = its.toArray.size := by
      have := rv.length
      simp
      omega
    have he0 : IsEnum s.heap e z ((its.toArray.size : Nat) : Int) old := hl ▸ he
    have hz0 : s.heap.IsTupleIter z q its.toArray.size := hl ▸ hz
    refine wpAny_pyNext_enum_endD (draws_tup (P := X.prog) (w := X.w) (B := X.A.in1) (show X.A.in1.handled = none from I.ok.hd hc) z q n1 its.toArray) he0 ⟨hz0, tupIn p⟩ fun g eb => ⟨rfl, I.turned (t' := s.toks) (fun b o hb t => eb b o hb t) f0 f1 f3 f4 f5⟩
  · obtain ⟨⟨_, he⟩, _⟩ := st
    exact wpAny_pyIter_enum he h
def iEnumT (K : PySem.W.Frag) (ta : TA) : TI := fun σ H R => ta σ H fun vs H1 => ∃ q xs, vs = [.ref q] ∧ SqT K H1 q xs ∧ R (ItEt K q) H1
theorem pi_enumT {X : Cx} {e : Expr} {ta : TA} {p pos tp : Pos} {tgs : List Expr} {kk : Nat} (hg : Gl X "enumerate") (hm : X.mg "enumerate" = none) (ha : PA X [e] ta) (hs : starEach [e] X.env = [(false, eval e X.env)] := by rfl) :
    PI X (.Tuple tgs kk tp) (.Call (.Name "enumerate" p) [e] [] pos) (iEnumT X.K ta) := by
  refine ⟨fun pins s σ H R I h => Call_ (ld_blt I hg hm boot_enumerate (PyProof.Rows.callWith_type1 (thn (ha.run pos pins s σ H _ I h) fun us s1 ⟨vs, H1, I1, r1, q1⟩ => ?_) hs rfl))⟩
  obtain ⟨a, xs, ex, hq, q⟩ := q1
  subst ex
  obtain ⟨u, rfl, ru⟩ := vals1 r1
  cases (show u = Value.ref a from ru)
  obtain ⟨its, rv, p', hz⟩ := I1.tuple hq
  have old : a < s1.heap.objs.size := by obtain ⟨o, e1, _⟩ := p'; exact Heap.lt_size e1
  refine callEnumT (tupIn p') fun g he hit hk => wpAny_pyIter_enum he ?_
  have I2 : Inv X pins σ H1 { s1 with heap := g } := I1.kept (t' := s1.toks) hk
  refine ⟨s1.heap.objs.size + 1, [s1.heap.objs.size + 1, s1.heap.objs.size], _, _, H1, rfl, I2, turn_enumT a (s1.heap.objs.size + 1) s1.heap.objs.size, ⟨⟨.none, he⟩, hit, Nat.succ_ne_self _, Nat.ne_of_lt old, Nat.ne_of_lt (Nat.lt_succ_of_lt old)⟩, fun b hb => ?_, q⟩
  have hle : s1.heap.objs.size ≤ b := by
    rcases List.mem_cons.mp hb with y | y
    · rw [y]; exact Nat.le_add_right _ _
    · rw [List.mem_singleton.mp y]; exact Nat.le_refl _
  exact I1.fpOk hle (I1.hok.fresh hle)
theorem walk_enumT {K : PySem.W.Frag} {q : Addr} {xs : List V} : Walk (ItEt K q) xs.length (fun H => SqT K H q xs) (YPair (fun i => some (.int (i : Nat))) (fun i => xs[i]?)) := by
  refine ⟨fun i _ hi h => ⟨xs, xs[i], h, by simp [hi]⟩, fun _ h => ⟨xs, h, rfl⟩, fun i H v H' _ h y => ?_⟩
  obtain ⟨T, x, h1, h2, h3, h4⟩ := y
  exact ⟨T, .int (i : Nat), x, h1, h2, h3, rfl, h4 xs h⟩
/-- enumerate of a list or a tuple -/
def iEnumA (K : PySem.W.Frag) (ta : TA) : TI := fun σ H R => iEnum K ta σ H R ∨ iEnumT K ta σ H R
theorem pi_enumA {X : Cx} {e : Expr} {ta : TA} {p pos tp : Pos} {tgs : List Expr} {kk : Nat} (hg : Gl X "enumerate") (hm : X.mg "enumerate" = none) (ha : PA X [e] ta) (hs : starEach [e] X.env = [(false, eval e X.env)] := by rfl) :
    PI X (.Tuple tgs kk tp) (.Call (.Name "enumerate" p) [e] [] pos) (iEnumA X.K ta) := PI.or (pi_enum hg hm ha hs) (pi_enumT hg hm ha hs)
end
section
variable {X : Cx} (K : PySem.W.Frag) (hK : X.K = K := by rfl)
include hK
theorem kEn {tg e : Expr} {ta : TA} (h : PI X tg e (iEnumA X.K ta)) : PI X tg e (iEnumA K ta) := hK ▸ h
end
end AT

set_option Elab.async false
set_option linter.all false
set_option maxRecDepth 100000
set_option maxHeartbeats 8000000
/-! own words, seventh part: a name that is set to a dict comprehension on its own line -/
namespace AT
open PySem L2 PySem.Spec PyProof.Rows
/-- whatever the block of the comprehension is -/
abbrev InBlk (X : Cx) (sc : Scope) (R : Cx → Prop) : Prop := ∀ s H C cl fp, R (X.blk s H sc (compEnvC sc cl C X.env) fp)
/-- the comprehension, with one for -/
abbrev DC1 (a b t e : Expr) (cs : List Expr) (sc : Scope) (o : Pos) : Expr := .DictComp a b [⟨t, e, cs, 0⟩] sc o
theorem ps_setDc {X : Cx} {i : Nat} {n : Str} {np o so : Pos} {a b t e : Expr} {cs : List Expr} {sc : Scope} {own : List (Str × Nat)} {wi : TI} {g : TG} {tt : TT} {ta tb : TE}
    (calm : X.calm = true) (nd : X.N.Nodup) (at' : X.N[i]? = some n) (loc : X.env.scope.names.lookup n = some .local) (sw : swapsWith (DC1 a b t e cs sc o) (some (.Name n np)) so.line X.env = pure true)
    (pi : PI X t e wi) (bk : BlkOk X.N X.env.scope sc own) (pg : InBlk X sc fun Y => PG Y t g) (pt : InBlk X sc fun Y => PTs Y cs tt) (pa : InBlk X sc fun Y => PE Y a ta) (pb : InBlk X sc fun Y => PE Y b tb)
    (fo : ∀ x, foldedSetIterable e X.env x = pure x := by intro _; rfl) : PS X (.Assign [.Name n np] (DC1 a b t e cs sc o) so) (tAsg (tDc wi g tt ta tb (own.map (·.2))) (gName i)) :=
  ⟨fun P s σ H D J w => by
    rw [exec_Assign_Name_used n np _ so sw]
    apply wpAny_bind; apply wpAny_standAt; apply wpAny_bind
    refine wpAny_bind (thn ?core fun _ s2 h2 => wpAny_pure (wpAny_pure h2))
    refine dc_core (Qf := fun _ s2 => SP X P D .next s2) (Q := fun x H1 => gName i x σ H1 D.nx) calm nd J pi bk pg pt pa pb fo w fun L C s2 m H2 J2 h2 ns fp => ?_
    refine wpAny_assign_Name (store_ok2 (v := V.ref L) J2 nd at' (.inl loc) rfl (fun s3 J3 ⟨z, but, or⟩ => ⟨m, ns.sameBut but (or.elim (fun y => y ▸ fp.2.1) fun y q => fp.2.2.2.2.1 n z y q.symm), fun h4 but4 => ?_⟩) (.inr loc))
    exact ⟨_, H2, J3.turned (t' := s3.toks) (fun c u hc y => (but4.2 c hc).trans y) fp.1 fp.2.1 fp.2.2.2.1 fp.2.2.2.2.1 fp.2.2.2.2.2, h2⟩⟩
theorem sw_trueD {a b : Expr} {gs : List Comprehension} {sc : Scope} {o np : Pos} {n : Str} {l : Nat} {env : Env} (fn : env.scope.kind = .function) (loc : env.scope.names.lookup n = some .local) (ln : (np.line == o.line) = true)
    (no : (sc.names.any fun (m, k) => m == n && (k == .local || k == .cell)) = false) : swapsWith (.DictComp a b gs sc o) (some (.Name n np)) l env = pure true := by
  have k1 : env.kindOf n = some .local := loc
  have k2 : env.blockKind = .function := by simp only [Env.blockKind, fn]; decide
  simp only [swapsWith, k1, k2, no, Expr.pos, ln]
  rfl
end AT

set_option Elab.async false
set_option linter.all false
set_option maxRecDepth 100000
set_option maxHeartbeats 4000000
/-! own words, eighth part: defs and lambdas with captured names as values, called by whoever holds them -/
namespace AT
open PySem PySem.Spec PyProof.Rows L2 LamX NdefX
/-! ### cells that stand still -/
def frC (c : Addr) (o : Obj) : HO := .frz o (.ext fun h => h.get? c = some o)
theorem frC_ok {P : Program} {w : World} {H : Hp} {h : Heap} {c : Addr} {o : Obj} (e : h.get? c = some o) : ObjOk P w H h c (frC c o) :=
  ⟨e, e, ⟨o, e⟩, fun _ _ q k => k o q⟩
def fz (as : List Addr) (O : Addr → Obj) (H : Hp) : Hp := fun b => if b ∈ as then some (frC b (O b)) else H b
def rz (as : List Addr) (H H' : Hp) : Hp := fun b => if b ∈ as then H b else H' b
section
variable {as : List Addr} {O : Addr → Obj} {H H' : Hp} {b : Addr} {P : Program} {w : World} {h h' : Heap} {fs : List Addr}
theorem fz_in (hb : b ∈ as) : fz as O H b = some (frC b (O b)) := if_pos hb
theorem fz_at (hb : b ∉ as) : fz as O H b = H b := if_neg hb
theorem rz_in (hb : b ∈ as) : rz as H H' b = H b := if_pos hb
theorem rz_at (hb : b ∉ as) : rz as H H' b = H' b := if_neg hb
theorem fz_ex (W : ∀ c ∈ as, H c = none) : Ex H (fz as O H) := fun b o e => by
  rw [fz_at fun z => by rw [W b z] at e; cases e]
  exact e
theorem fz_hid (W : ∀ c ∈ as, H c = none) : hid as (fz as O H) = H := by
  funext b
  by_cases hb : b ∈ as
  · rw [hid_in hb, W b hb]
  · rw [hid_at hb, fz_at hb]
theorem rz_ex (e : Ex (hid as H) H') : Ex H (rz as H H') := fun b o q => by
  by_cases hb : b ∈ as
  · rw [rz_in hb]; exact q
  · rw [rz_at hb]; exact e b o (by rw [hid_at hb]; exact q)
theorem hok_fz (ok : HOk P w H h) (W : ∀ c ∈ as, h.get? c = some (O c) ∧ H c = none) : HOk P w (fz as O H) h := fun a o e => by
  have nin : ∀ {b u}, H b = some u → b ∉ as := fun {b u} q z => by rw [(W b z).2] at q; cases q
  by_cases ha : a ∈ as
  · rw [fz_in ha] at e
    cases e
    exact frC_ok (W a ha).1
  · rw [fz_at ha] at e
    exact (ok a o e).stay (fun _ _ _ z => z) (fun b q => by rw [fz_at (nin q)]; exact q) fun b xs q => by rw [fz_at (nin q)]; exact q
theorem hok_hid (ok : HOk P w H h) (W : ∀ c ∈ as, ∃ o u, H c = some (.frz o u)) : HOk P w (hid as H) h := fun a o e => by
  have nin : ∀ {b u}, H b = some u → (∀ o v, u ≠ .frz o v) → b ∉ as := fun {b u} q n z => by
    obtain ⟨o, v, e⟩ := W b z
    rw [q] at e
    exact n o v (Option.some.inj e)
  refine (ok a o (hid_some e).2).stay (fun _ _ _ z => z) (fun b q => ?_) fun b xs q => ?_
  · rw [hid_at (nin q fun o v z => by cases z)]; exact q
  · rw [hid_at (nin q fun o v z => by cases z)]; exact q
/-- behind a call that was told of the frame's own cells -/
theorem un_hid (W : ∀ c ∈ as, h.get? c = some (O c) ∧ H c = none) (u : Un fs [] (fz as O H) H' h h') (ok : HOk P w H' h') : Un fs [] H (hid as H') h h' := by
  have same : ∀ c, c ∈ as → h'.get? c = some (O c) := fun c hc => (ok c _ (u.frzs c _ _ (fz_in hc))).1
  have nin : ∀ {b v}, H b = some v → b ∉ as := fun {b v} q z => by rw [(W b z).2] at q; cases q
  have here : ∀ {b o}, h.get? b = some o → b ∈ as → h'.get? b = some o := fun {b o} e hb => by
    have q := (W b hb).1
    rw [e] at q
    rw [same b hb, Option.some.inj q]
  refine ⟨fun b o e n nf nx => ?_, fun b o e n nf nx => ?_, fun b o e n nx => ?_, u.there, fun b xs q => ?_, fun b o v q => ?_, fun b ps q => ?_⟩
  · by_cases hb : b ∈ as
    · exact here e hb
    · exact u.keep b o e (by rw [fz_at hb]; exact n) nf nx
  · by_cases hb : b ∈ as
    · exact ⟨o.slots, here e hb⟩
    · exact u.slot b o e (by rw [fz_at hb]; exact n) nf nx
  · by_cases hb : b ∈ as
    · exact hid_in hb
    · rw [hid_at hb]; exact u.free b o e (by rw [fz_at hb]; exact n) nx
  · rw [hid_at (nin q)]; exact u.tups b xs (by rw [fz_at (nin q)]; exact q)
  · rw [hid_at (nin q)]; exact u.frzs b o v (by rw [fz_at (nin q)]; exact q)
  · obtain ⟨m, z⟩ := u.tbls b ps (by rw [fz_at (nin q)]; exact q)
    exact ⟨m, by rw [hid_at (nin q)]; exact z⟩
/-- behind the call of a function whose cells stood still -/
theorem un_rz (W : ∀ c ∈ as, ∃ o, H c = some (frC c o) ∧ h.get? c = some o ∧ c ∉ fs) (u : Un fs [] (hid as H) H' h h') : Un fs [] H (rz as H H') h h' := by
  have nin : ∀ {b : Addr}, H b = none → b ∉ as := fun {b} q z => by
    obtain ⟨o, e, _⟩ := W b z
    rw [q] at e; cases e
  refine ⟨fun b o e n nf nx => ?_, fun b o e n nf nx => ?_, fun b o e n nx => ?_, u.there, fun b xs q => ?_, fun b o v q => ?_, fun b ps q => ?_⟩
  · exact u.keep b o e (by rw [hid_at (nin n)]; exact n) nf nx
  · exact u.slot b o e (by rw [hid_at (nin n)]; exact n) nf nx
  · rw [rz_at (nin n)]; exact u.free b o e (by rw [hid_at (nin n)]; exact n) nx
  all_goals by_cases hb : b ∈ as
  · rw [rz_in hb]; exact q
  · rw [rz_at hb]; exact u.tups b xs (by rw [hid_at hb]; exact q)
  · rw [rz_in hb]; exact q
  · rw [rz_at hb]; exact u.frzs b o v (by rw [hid_at hb]; exact q)
  · rw [rz_in hb]; exact ⟨#[], by rw [q]; simp⟩
  · rw [rz_at hb]; exact u.tbls b ps (by rw [hid_at hb]; exact q)
theorem hok_rz (W : ∀ c ∈ as, ∃ o, H c = some (frC c o) ∧ h.get? c = some o ∧ c ∉ fs) (u : Un fs [] (hid as H) H' h h') (ok : HOk P w H' h') : HOk P w (rz as H H') h' := fun a o e => by
  have gone : ∀ c, c ∈ as → H' c = none := fun c hc => by
    obtain ⟨o, _, e2, _⟩ := W c hc
    exact u.free c o e2 (hid_in hc) (by simp)
  have nin : ∀ {b v}, H' b = some v → b ∉ as := fun {b v} q z => by rw [gone b z] at q; cases q
  by_cases ha : a ∈ as
  · obtain ⟨o', e1, e2, nf⟩ := W a ha
    rw [rz_in ha, e1] at e
    cases e
    exact frC_ok (u.keep a o' e2 (hid_in ha) nf (by simp))
  · rw [rz_at ha] at e
    exact (ok a o e).stay (fun _ _ _ z => z) (fun b q => by rw [rz_at (nin q)]; exact q) fun b xs q => by rw [rz_at (nin q)]; exact q
end
/-! ### what holds a function -/
/-- what never changes while it is tracked so -/
def isX : HO → Prop
  | .ext _ => True
  | .frz _ _ => True
  | _ => False
def StX (H H' : Hp) : Prop := ∀ b o, H b = some o → isX o → H' b = some o
theorem StX.of_ex {H H' : Hp} (e : Ex H H') : StX H H' := fun b o q _ => e b o q
theorem StX.of_kp {S : List Addr} {H H' : Hp} (k : Kp S H H') (n : ∀ b ∈ S, ∀ o, H b = some o → ¬ isX o) : StX H H' := fun b o q x => k b o (fun z => n b z o q x) q
/-- f is a function that keeps sp where G stands -/
structure FV (P : Program) (w : World) (K : PySem.W.Frag) (mg : Str → Option Value) (base : Heap) (k : Nat) (f : Addr) (G : Hp → Prop) (sp : List V → Hp → VK → Prop) : Prop where
  fn : ∀ (H : Hp) (h : Heap), HOk P w H h → G H → PySem.W.FnAt f h
  st : ∀ H H', StX H H' → G H → G H'
  run : ∀ (A : Around) (outer : List Env) (s : Shared) (H : Hp) (us : List Value) (vs : List V) (Q : VK), Room k A → Env0 P w K mg base A outer s H → G H → Vals vs us → sp vs H Q →
    codeAny (model P w) A (.call (.ref f) ⟨us, []⟩) (CR L2.CX0 outer P w H s Q L2.E0) s
theorem FV.mono {P : Program} {w : World} {K : PySem.W.Frag} {mg : Str → Option Value} {base : Heap} {j k : Nat} {f : Addr} {G : Hp → Prop} {sp : List V → Hp → VK → Prop} (F : FV P w K mg base j f G sp) (h : j ≤ k) : FV P w K mg base k f G sp :=
  ⟨F.fn, F.st, fun A outer s H us vs Q hr => F.run A outer s H us vs Q (hr.mono h)⟩
def tCallQ (P : Program) (w : World) (K : PySem.W.Frag) (mg : Str → Option Value) (base : Heap) (k i : Nat) (t : TA) : TE := fun σ H Q => ∃ (f : Addr) (G : Hp → Prop) (sp : List V → Hp → VK → Prop), σ[i]? = some (some (.ref f)) ∧ FV P w K mg base k f G sp ∧ G H ∧ t σ H fun vs H1 => G H1 ∧ sp vs H1 Q
section
variable {X : Cx} {k i : Nat} {x : Str} {p pos : Pos} {e : Expr} {es : List Expr} {t : TA}
theorem run_fv {pins : List (Addr × Obj)} {σ : L2.St} {H : Hp} {s : Shared} {Q : VK} {f : Addr} {G : Hp → Prop} {sp : List V → Hp → VK → Prop} {us : List Value} {vs : List V} (F : FV X.prog X.w X.K X.mg X.base k f G sp) (hr : Room k X.A) (I : Inv X pins σ H s) (g : G H) (r : Vals vs us) (q : sp vs H Q) :
    wpAny (model X.prog X.w) X.A (call (.ref f) us) (EP X pins σ Q) X.xe s := by
  refine wpAny_call (codeAny_mono (F.run X.A X.stack s H us vs Q hr I.env0 g r q) fun res s' z => ?_)
  match res, z with
  | .error e, z => exact z.elim
  | .ok (.ret u), z => exact I.after z
  | .ok .next, z => exact z.elim
  | .ok .brk, z => exact z.elim
  | .ok .cont, z => exact z.elim
/-- x(..), x a name that holds a function -/
theorem pe_callQ (hr : Room k X.A) (hN : X.N[i]? = some x) (hv : Vis X.env.scope x) (ha : PA X (e :: es) t) (hd : (x == ("__debug__" : Str)) = false := by decide) (hcd : (x == ("__classdict__" : Str)) = false := by decide)
    (he : starEach (e :: es) X.env = (false, eval e X.env) :: starEach es X.env := by rfl) (hpl : (backTo pos (starEach es X.env)).any (·.1) = false := by rfl) : PE X (.Call (.Name x p) (e :: es) [] pos) (tCallQ X.prog X.w X.K X.mg X.base k i t) := by
  constructor
  intro pins s σ H Q I q
  obtain ⟨f, G, sp, hs, F, g, ht⟩ := q
  have hx := (pe_var (pos := p) hN hv hd hcd).run pins s σ H (fun v H1 => v = .ref f ∧ H1 = H) I ⟨_, hs, rfl, rfl⟩
  refine wpAny_Call_Name_kw (thn hx fun u s1 z => ?_)
  obtain ⟨v, H1, I1, rv, ev, eH⟩ := z
  subst ev eH
  obtain rfl : u = .ref f := rv
  refine PySem.W.callWith_F (first := []) (F.fn _ _ I1.hok g) (thn (ha.run pos pins s1 σ _ _ I1 ht) fun us s2 z => ?_) he hpl
  obtain ⟨vs, H2, I2, r, g2, q⟩ := z
  exact ⟨F.fn _ _ I2.hok g2, run_fv F hr I2 g2 r q⟩
end
/-! ### a frame's own cells, told to a callee -/
def ca (X : Cx) : List Addr := X.env.cells.filterMap fun p => X.env.cells.lookup p.1
theorem mem_ca {X : Cx} {c : Addr} : c ∈ ca X ↔ ∃ y, X.env.cells.lookup y = some c := by
  unfold ca
  rw [List.mem_filterMap]
  constructor
  · rintro ⟨p, _, e⟩
    exact ⟨_, e⟩
  · rintro ⟨y, e⟩
    exact ⟨(y, c), PySem.mem_of_lookup e, e⟩
structure OwnC (X : Cx) (σ : L2.St) (O : Addr → Obj) (H : Hp) : Prop where
  inj : ∀ x y c, X.env.cells.lookup x = some c → X.env.cells.lookup y = some c → x = y
  has : ∀ x, (X.env.kindOf x = some .cell ∨ X.env.kindOf x = some .free) → ∃ c, X.env.cells.lookup x = some c
  non : ∀ c ∈ ca X, H c = none
  dat : ∀ c ∈ ca X, ∃ v, (O c).data = .cell v
  val : ∀ (i : Nat) y v c, X.N[i]? = some y → σ[i]? = some (some v) → (X.env.scope.names.lookup y = some .cell ∨ X.env.scope.names.lookup y = some .free) → X.env.cells.lookup y = some c → ∃ u, L2.RelV v u ∧ (O c).data = .cell (some u)
def tCallZ (X : Cx) (sp : Sp) (t : TA) : TE := fun σ H Q => t σ H fun vs H1 => ∀ O, OwnC X σ O H1 → sp vs (fz (ca X) O H1) (fun v H2 => Q v (hid (ca X) H2)) L2.E0
section
variable {X : Cx} {k : Nat} {f : Addr} {fd : FuncData} {ps : List Str} {sp : Sp} {x : Str} {p pos : Pos} {e : Expr} {es : List Expr} {t : TA}
theorem own_of {pins : List (Addr × Obj)} {σ : L2.St} {H : Hp} {s : Shared} (I : Inv X pins σ H s) (hfn : ∀ y, X.fn y = true) :
    ∃ O : Addr → Obj, OwnC X σ O H ∧ (∀ c ∈ ca X, s.heap.get? c = some (O c) ∧ H c = none) ∧ (∀ c ∈ ca X, X.base.get? c = none) ∧ ∀ c ∈ ca X, c ∉ frs X.stack := by
  have at_ : ∀ c ∈ ca X, ∃ o v, s.heap.get? c = some o ∧ o.data = .cell v := fun c hc => by
    obtain ⟨y, e⟩ := mem_ca.mp hc
    obtain ⟨v, o, ho, hd⟩ := I.cell y c e
    exact ⟨o, v, ho, hd⟩
  have up : ∀ c ∈ ca X, X.s_0.heap.objs.size ≤ c := fun c hc => by
    obtain ⟨y, e⟩ := mem_ca.mp hc
    exact I.ok.cab y c (hfn y) e
  have nn : ∀ c ∈ ca X, H c = none := fun c hc => by
    obtain ⟨y, e⟩ := mem_ca.mp hc
    exact I.freeC y c e
  let O : Addr → Obj := fun c => (s.heap.get? c).getD default
  have hO : ∀ {c o}, s.heap.get? c = some o → O c = o := fun {c o} e => by
    show (s.heap.get? c).getD default = o
    rw [e]; rfl
  refine ⟨O, ⟨I.ok.inj, I.ok.has, nn, fun c hc => ?_, fun i y v c e1 e2 hk e3 => ?_⟩, fun c hc => ?_, fun c hc => ?_, fun c hc z => ?_⟩
  · obtain ⟨o, v, ho, hd⟩ := at_ c hc
    exact ⟨v, by rw [hO ho]; exact hd⟩
  · obtain ⟨m, _, hl⟩ := I.loc
    obtain ⟨u, r, l⟩ := hl i y v e1 e2 (hk.elim (fun z => .inr (.inl z)) fun z => .inr (.inr z))
    rcases l with ⟨z, _⟩ | ⟨_, c', e', o, ho, hd⟩
    · have z' : X.env.scope.names.lookup y = some .local := z
      rcases hk with hk | hk <;> rw [hk] at z' <;> cases z'
    · rw [e3] at e'
      cases e'
      exact ⟨u, r, by rw [hO ho]; exact hd⟩
  · obtain ⟨o, v, ho, hd⟩ := at_ c hc
    exact ⟨by rw [hO ho]; exact ho, nn c hc⟩
  · exact Heap.get?_none_of_le (Nat.le_trans I.ok.bsz (up c hc))
  · rcases List.mem_cons.mp (I.stkSub _ z) with e | hb
    · obtain ⟨y, e2⟩ := mem_ca.mp hc
      exact I.cne y c e2 e
    · obtain ⟨_, o, ho, _⟩ := I.ok.funs.mem hb
      exact Nat.lt_irrefl _ (Nat.lt_of_lt_of_le (Heap.lt_size ho) (up c hc))
/-- a call that hands on functions which captured this frame's names -/
theorem pe_callZ (F : FnOk X.prog X.w X.K X.mg X.base L2.CX0 k f fd ps sp) (hr : Room k X.A) (B : Own X.K X.mg x f fd ps) (hfn : ∀ y, X.fn y = true) (ha : PA X (e :: es) t) (hg : Gl X x := by rfl)
    (hdb : (x == ("__debug__" : Str)) = false := by decide) (he : starEach (e :: es) X.env = (false, eval e X.env) :: starEach es X.env := by rfl) (hpl : (backTo pos (starEach es X.env)).any (·.1) = false := by rfl) :
    PE X (.Call (.Name x p) (e :: es) [] pos) (tCallZ X sp t) := by
  constructor
  intro pins s σ H Q I q
  refine wpAny_Call_Name_kw (ld_glob I hg B.g ?_ hdb)
  refine PySem.W.callWith_K (h₀ := X.base) I.ok.mod.kin B.k (thn (ha.run pos pins s σ H _ I q) fun us s2 z => ?_) he hpl
  obtain ⟨vs, H2, I2, r, q2⟩ := z
  refine ⟨I2.kIn, ?_⟩
  obtain ⟨O, ow, W, nb, nf⟩ := own_of I2 hfn
  have q3 := q2 O ow
  have hl : us.length = ps.length := by rw [← r.length]; exact F.len _ _ _ _ q3
  have e0 := I2.env0
  have e1 : Env0 X.prog X.w X.K X.mg X.base X.A X.stack s2 (fz (ca X) O H2) := by
    refine ⟨e0.frames, e0.mod, fun b o z => ⟨(e0.bs b o z).1, ?_⟩, e0.bsz, e0.funs, fun b hb => ?_, hok_fz e0.hok W, e0.bare⟩
    · rw [fz_at fun m => by rw [nb b m] at z; cases z]
      exact (e0.bs b o z).2
    · rw [fz_at fun m => nf b m hb]
      exact e0.frf b hb
  have hb0 := B.b s2 us I2.kIn (by rw [List.append_nil]; exact hl)
  rw [List.append_nil] at hb0
  refine wpAny_call (codeAny_mono (F.run X.A X.stack s2 _ ⟨us, []⟩ us vs _ L2.E0 hr e1 hb0 r q3) fun res s' z => ?_)
  match res, z with
  | .error e, z => exact z.elim
  | .ok (.ret u), z =>
    obtain ⟨v, H', os, bare, un, hok, rv, qv⟩ := z
    refine I2.after ⟨v, hid (ca X) H', os, bare, un_hid W un hok, hok_hid hok fun c hc => ⟨_, _, un.frzs c _ _ (fz_in hc)⟩, rv, qv⟩
  | .ok .next, z => exact z.elim
  | .ok .brk, z => exact z.elim
  | .ok .cont, z => exact z.elim
end
/-! ### what a made function leans on -/
structure Clo (H : Hp) (f : Addr) (o : HO) (c : Addr) (q : Str) (cl : List (Str × Addr)) (fr : List Str) (ws : List (Option V)) : Prop where
  fn : H f = some o
  code : H c = some (CodeO c q)
  cel : ∀ a ∈ cl.map (·.2), ∃ u, H a = some (frC a u) ∧ ∃ v, u.data = .cell v
  inj : ∀ x y a, cl.lookup x = some a → cl.lookup y = some a → x = y
  len : ws.length = fr.length
  has : ∀ (i : Nat) (y : Str), fr[i]? = some y → ∃ a, cl.lookup y = some a ∧ ∀ v, ws[i]? = some (some v) → ∃ u o, H a = some (frC a o) ∧ L2.RelV v u ∧ o.data = .cell (some u)
theorem Clo.st {H H' : Hp} {f c : Addr} {o : HO} {q : Str} {cl : List (Str × Addr)} {fr : List Str} {ws : List (Option V)} (h : Clo H f o c q cl fr ws) (ho : isX o) (s : StX H H') : Clo H' f o c q cl fr ws :=
  ⟨s _ _ h.fn ho, s _ _ h.code True.intro, fun a ha => let ⟨u, e, r⟩ := h.cel a ha; ⟨u, s _ _ e True.intro, r⟩, h.inj, h.len, fun i y e => let ⟨a, e1, r⟩ := h.has i y e; ⟨a, e1, fun v ev => let ⟨u, o, e2, r2⟩ := r v ev; ⟨u, o, s _ _ e2 True.intro, r2⟩⟩⟩
/-- of the frame that made it -/
theorem clo_made {X : Cx} {σ : L2.St} {O : Addr → Obj} {H : Hp} {scope : Scope} {f c : Addr} {o : HO} {q : Str} {fr : List Str} {js : List Nat} (ow : OwnC X σ O H) (hf : H f = some o) (hc : H c = some (CodeO c q)) (hb : ndefB X.env.scope scope fr = true) (hjs : js.map (fun j => X.N[j]?) = fr.map some) :
    Clo (fz (ca X) O H) f o c q (cloFrom X.env.cells scope.names []) fr (js.map (slotAt σ)) := by
  have hfree : ∀ y ∈ scope.names, y.2 = .free → ∃ a, X.env.cells.lookup y.1 = some a := fun y hy e => ow.has _ (ndef_free hb y hy e)
  have up : ∀ {a u}, H a = some u → fz (ca X) O H a = some u := fun {a u} e => fz_ex ow.non a u e
  refine ⟨up hf, up hc, fun a ha => ?_, fun x y a e1 e2 => ow.inj x y a (clo_cm hfree e1) (clo_cm hfree e2), ?_, fun i y e => ?_⟩
  · obtain ⟨⟨y, a'⟩, hm, rfl⟩ := List.mem_map.mp ha
    obtain ⟨h1, h2⟩ := (cloFrom_mem hm).resolve_left (by simp)
    obtain ⟨a1, ha1⟩ := hfree _ h1 rfl
    have ha1 : X.env.cells.lookup y = some a1 := ha1
    have e : a' = a1 := by rw [h2, ha1]; rfl
    subst e
    have hi : a' ∈ ca X := mem_ca.mpr ⟨y, ha1⟩
    exact ⟨O a', fz_in hi, ow.dat a' hi⟩
  · have q := congrArg List.length hjs
    rw [List.length_map, List.length_map] at q
    rw [List.length_map]; exact q
  · have e2 : (js.map fun j => X.N[j]?)[i]? = some (some y) := by rw [hjs, List.getElem?_map, e]; rfl
    rw [List.getElem?_map] at e2
    obtain ⟨j, ej, hj⟩ : ∃ j, js[i]? = some j ∧ X.N[j]? = some y := by
      cases ej : js[i]? with
      | none => rw [ej] at e2; cases e2
      | some j => rw [ej] at e2; exact ⟨j, rfl, Option.some.inj e2⟩
    have hy : (y, NameKind.free) ∈ scope.names := ndef_fr hb y (List.mem_of_getElem? e)
    have hk := ndef_free hb _ hy rfl
    obtain ⟨a, ha⟩ := ow.has y hk
    refine ⟨a, clo_has hfree hy ha, fun v ev => ?_⟩
    rw [List.getElem?_map, ej] at ev
    obtain ⟨u, r, d⟩ := ow.val j y v a hj (slotAt_some (Option.some.inj ev)) hk ha
    exact ⟨u, O a, fz_in (mem_ca.mpr ⟨y, ha⟩), r, d⟩
section
variable {P : Program} {w : World} {K : PySem.W.Frag} {mg : Str → Option Value} {base : Heap} {A : Around} {outer : List Env} {s : Shared} {H : Hp}
theorem env0_hid {as : List Addr} (e0 : Env0 P w K mg base A outer s H) (W : ∀ c ∈ as, ∃ o u, H c = some (.frz o u)) : Env0 P w K mg base A outer s (hid as H) := by
  refine ⟨e0.frames, e0.mod, fun b o z => ⟨(e0.bs b o z).1, ?_⟩, e0.bsz, e0.funs, fun b hb => ?_, hok_hid e0.hok W, e0.bare⟩
  · by_cases hb : b ∈ as
    · exact hid_in hb
    · rw [hid_at hb]; exact (e0.bs b o z).2
  · by_cases m : b ∈ as
    · exact hid_in m
    · rw [hid_at m]; exact e0.frf b hb
theorem Clo.cells {f c : Addr} {o : HO} {q : Str} {cl : List (Str × Addr)} {fr : List Str} {ws : List (Option V)} (h : Clo H f o c q cl fr ws) (hok : HOk P w H s.heap) : CellsAt cl fr ws s.heap (hid (cl.map (·.2)) H) := by
  refine ⟨h.len, fun y a e => ?_, h.inj, fun i y e => ?_⟩
  · have ha : a ∈ cl.map (·.2) := List.mem_map.mpr ⟨(y, a), PySem.mem_of_lookup e, rfl⟩
    obtain ⟨u, e1, v, hd⟩ := h.cel a ha
    exact ⟨hid_in ha, v, u, (hok a _ e1).1, hd⟩
  · obtain ⟨a, e1, r⟩ := h.has i y e
    refine ⟨a, e1, fun v ev => ?_⟩
    obtain ⟨u, o, e2, rv, hd⟩ := r v ev
    exact ⟨u, rv, o, (hok a _ e2).1, hd⟩
/-- back from the function's own heap -/
theorem cr_rz {as : List Addr} {Q : VK} {res : Result} {s' : Shared} (e0 : Env0 P w K mg base A outer s H) (W : ∀ c ∈ as, ∃ o, H c = some (frC c o)) (z : CR L2.CX0 outer P w (hid as H) s (fun v H' => (∀ b ∈ as, H' b = none) → Q v (rz as H H')) L2.E0 res s') : CR L2.CX0 outer P w H s Q L2.E0 res s' := by
  match res, z with
  | .error e, z => exact z
  | .ok .next, z => exact z
  | .ok .brk, z => exact z
  | .ok .cont, z => exact z
  | .ok (.ret u), z =>
    obtain ⟨v, H', os, bare, un, hok, rv, q⟩ := z
    have W' : ∀ c ∈ as, ∃ o, H c = some (frC c o) ∧ s.heap.get? c = some o ∧ c ∉ frs outer := fun c hc => by
      obtain ⟨o, e⟩ := W c hc
      exact ⟨o, e, (e0.hok c _ e).1, fun m => by rw [e0.frf c m] at e; cases e⟩
    exact ⟨v, rz as H H', os, bare, un_rz W' un, hok_rz W' un hok, rv, q fun c hc => let ⟨o, _, e2, _⟩ := W' c hc; un.free c o e2 (hid_in hc) (by simp)⟩
end
section
variable {P : Program} {w : World} {K : PySem.W.Frag} {mg : Str → Option Value} {base : Heap} {k : Nat} {f : Addr} {ps fr : List Str} {ws : List (Option V)}
/-- a nested def as a value -/
theorem FV.of_nok {F : NF} {sp : List (Option V) → Sp} (N : NOk P w K mg base L2.CX0 k f F ps fr sp) :
    FV P w K mg base k f (fun H => Clo H f (FnO f F) F.c F.qual F.cl fr ws) (fun vs H Q => sp ws vs (hid (F.cl.map (·.2)) H) (fun v H' => (∀ b ∈ F.cl.map (·.2), H' b = none) → Q v (rz (F.cl.map (·.2)) H H')) L2.E0) := by
  refine ⟨fun H h ok g => ?_, fun H H' st g => g.st True.intro st, fun A outer s H us vs Q hr e0 g r q => ?_⟩
  · obtain ⟨od, sl, doc, pm, ctv, ho⟩ := fnO_at ok g.fn
    exact ⟨_, od, _, sl, ho⟩
  · have W : ∀ c ∈ F.cl.map (·.2), ∃ o, H c = some (frC c o) := fun c hc => let ⟨u, e, _⟩ := g.cel c hc; ⟨u, e⟩
    have nin : ∀ {b φ}, H b = some (.ext φ) → b ∉ F.cl.map (·.2) := fun {b φ} e m => by
      obtain ⟨u, z⟩ := W b m
      rw [e] at z; cases z
    have e1 := env0_hid e0 fun c hc => let ⟨u, e⟩ := W c hc; ⟨_, _, e⟩
    refine codeAny_mono (N.run A outer s _ us vs ws _ L2.E0 hr e1 ?_ ?_ (g.cells e0.hok) r q) fun res s' z => cr_rz e0 W z
    · rw [hid_at (nin g.fn)]; exact g.fn
    · rw [hid_at (nin g.code)]; exact g.code
/-! ### lambdas -/
/-- the object at f is the lambda F, its body an expression -/
def FnE (f : Addr) (F : NF) (body : Expr) : HO := .ext fun h => ∃ pm ctv, h.get? f = some (PySem.W.kla_obj F.name F.qual F.params body F.scope F.cl pm F.c ctv)
theorem FV.of_lam {N : List Str} {F : NF} {body : Expr} {sp : List (Option V) → Sp} (S : NScope N ps fr F.scope) (hb : ∀ (pm ctv : Value) (us : List Value), us.length = ps.length → bindArgs (PySem.W.kla_fn F.name F.qual F.params body F.scope F.cl pm (.ref F.c) ctv) ⟨us, []⟩ = pure (ps.zip us))
    (len : ∀ ws vs H Q E, sp ws vs H Q E → vs.length = ps.length)
    (hbody : ∀ (A : Around) (outer : List Env) (s : Shared) (H : Hp) (vs : List V) (Q : VK), Room k (A.deeper (envF F f s.heap.objs.size)) → ws.length = fr.length → sp ws vs H Q L2.E0 → ∃ t, PE (ncx L2.CX0 P w K mg base N F f A outer s H L2.E0) body t ∧ t (startF N vs ws) H Q) :
    FV P w K mg base (k + 1) f (fun H => Clo H f (FnE f F body) F.c F.qual F.cl fr ws) (fun vs H Q => sp ws vs (hid (F.cl.map (·.2)) H) (fun v H' => (∀ b ∈ F.cl.map (·.2), H' b = none) → Q v (rz (F.cl.map (·.2)) H H')) L2.E0) := by
  refine ⟨fun H h ok g => ?_, fun H H' st g => g.st True.intro st, fun A outer s H us vs Q hr e0 g r q => ?_⟩
  · obtain ⟨⟨pm, ctv, ho⟩, _⟩ := ok f _ g.fn
    exact ⟨_, _, _, _, ho⟩
  · have W : ∀ c ∈ F.cl.map (·.2), ∃ o, H c = some (frC c o) := fun c hc => let ⟨u, e, _⟩ := g.cel c hc; ⟨u, e⟩
    have e1 := env0_hid e0 fun c hc => let ⟨u, e⟩ := W c hc; ⟨_, _, e⟩
    obtain ⟨⟨pm, ctv, ho⟩, _⟩ := e0.hok f _ g.fn
    have hco := codeO_at e0.hok g.code
    have hl := len _ _ _ _ _ q
    have lim : s.heap.NoLimit := e0.mod.nolimit.keeps fun b o e => (e0.bs b o e).1
    have C := g.cells e0.hok
    suffices h : codeAny (model P w) A (.call (.ref f) ⟨us, []⟩) (CR L2.CX0 outer P w (hid (F.cl.map (·.2)) H) s (fun v H' => (∀ b ∈ F.cl.map (·.2), H' b = none) → Q v (rz (F.cl.map (·.2)) H H')) L2.E0) s from codeAny_mono h fun res s' z => cr_rz e0 W z
    refine PySem.W.kla_callFunE hr.depth ho rfl S.co S.gen rfl hco ?_
    rw [hb pm ctv us (by rw [← r.length]; exact hl)]
    refine wpAny_pure (wpAny_newFunctionEnv S.nocell (fun y hy => S.par y.1 (List.of_mem_zip (show (y.1, y.2) ∈ ps.zip us from hy)).1) (fun h₁ hns hsb => ⟨lim.fresh _ hsb, ?_⟩) S.kind)
    have kp : ∀ b o, s.heap.get? b = some o → h₁.get? b = some o := fun b o e => hsb.extBut b o (Nat.ne_of_lt (Heap.lt_size e)) (Heap.get?_push_of_some _ e)
    obtain ⟨t, ht, hq⟩ := hbody A outer s _ vs _ (hr.deeper _) g.len q
    have I := inv_startN (N := N) (F := F) (f := f) (CX := L2.CX0) (E := L2.E0) (tk := s.toks + (ps.zip us).length) S hr.hd e1 hl r C hns kp
    refine PySem.W.kla_codeExpr (wpAny_mono (ht.run [] _ _ _ _ I hq) (fun v s' z => ?_) fun e s' z => z)
    obtain ⟨v', H', J, rv, qv⟩ := z
    exact ⟨v', H', J.os, J.bare, J.base, J.hok, rv, qv⟩
end
end AT

set_option Elab.async false
set_option linter.all false
set_option maxRecDepth 100000
set_option maxHeartbeats 4000000
/-! own words, ninth part: making defs and lambdas within a def -/
namespace AT
open PySem PySem.Spec PyProof.Rows L2 LamX NdefX
/-- the makers' tables: one table of names for the whole text -/
def Tbs (nm : Nat → Nat → Str) (Ps : List Addr) (H : Hp) : Prop := ∀ P ∈ Ps, TabN H P nm
theorem Tbs.ex {nm : Nat → Nat → Str} {Ps : List Addr} {H H' : Hp} (t : Tbs nm Ps H) (e : Ex H H') : Tbs nm Ps H' := fun P hP => (t P hP).ext e
theorem TabN.isT {nm : Nat → Nat → Str} {H : Hp} {P : Addr} (t : TabN H P nm) : ∃ ps, H P = some (.tbl ps) := let ⟨ps, e, _⟩ := t; ⟨ps, e⟩
/-- kept by what changes other things -/
theorem Tbs.kp {nm : Nat → Nat → Str} {Ps S : List Addr} {H H' : Hp} (t : Tbs nm Ps H) (k : Kp S H H') (n : ∀ b ∈ S, ∀ o, H b = some o → ¬ isX o ∧ ∀ ps, o ≠ .tbl ps) : Tbs nm Ps H' := fun P hP => by
  obtain ⟨ps, e, h1, h2⟩ := t P hP
  refine ⟨ps, k P _ (fun z => (n P z _ e).2 _ rfl) e, h1, fun pos cv hc => ?_⟩
  obtain ⟨c, e1, e2⟩ := h2 pos cv hc
  exact ⟨c, e1, k c _ (fun z => (n c z _ e2).1 True.intro) e2⟩
section
variable {X : Cx} {pins : List (Addr × Obj)} {σ : L2.St} {H : Hp} {s : Shared} {nm : Nat → Nat → Str} {Ps : List Addr} {c P c' : Addr} {ps : Array Value} {pos : Pos} {q : Str} {ho : HO} {o : Obj} {h' : Heap} {tk : Tok}
/-- the code object found: the function alone is new -/
theorem inv_hit (I : Inv X pins σ H s) (hx : ∀ b o, s.heap.get? b = some o → h'.get? b = some o) (hsz : s.heap.objs.size ≤ h'.objs.size) (new : ∀ H1, ObjOk X.prog X.w H1 (h'.push o) h'.objs.size ho) :
    Inv X pins σ (upd H h'.objs.size ho) { s with heap := h'.push o, toks := tk } ∧ H h'.objs.size = none :=
  ⟨I.laid (fun b u e => Heap.get?_push_of_some _ (hx b u e)) hsz (new _), I.hok.fresh hsz⟩
/-- the code object made: the table grows, the code object and the function are new -/
theorem inv_made (I : Inv X pins σ H s) (T : Tbs nm Ps H) (hm : P ∈ Ps) (hP : H P = some (.tbl ps)) (ht : TriplesOk ps.toList) (ha : ∀ (p : Pos) cv, codeAmong p ps.toList = some cv → ∃ c, cv = .ref c ∧ H c = some (CodeO c (nm p.line p.col))) (hn : nm pos.line pos.col = q)
    (hx : Heap.ExtBut P s.heap h') (hge : s.heap.objs.size ≤ c') (hlt : c' < h'.objs.size) (hrec : h'.CodeRec (.ref c') q) (htb : h'.get? P = some (PySem.W.tabObj (ps ++ #[rawInt pos.line, rawInt pos.col, .ref c'])))
    (new : ∀ H1, ObjOk X.prog X.w H1 (h'.push o) h'.objs.size ho) :
    ∃ H1, Inv X pins σ H1 { s with heap := h'.push o, toks := tk } ∧ Kp [P] H H1 ∧ Tbs nm Ps H1 ∧ H h'.objs.size = none ∧ H1 h'.objs.size = some ho ∧ H1 c' = some (CodeO c' q) := by
  obtain ⟨c2, oc, vs, t, e2, hoc, hd, hv⟩ := hrec
  cases e2
  have nC : H c' = none := I.hok.fresh hge
  have hsz : s.heap.objs.size ≤ h'.objs.size := Nat.le_trans hge (Nat.le_of_lt hlt)
  have nF : H h'.objs.size = none := I.hok.fresh hsz
  have I1 := inv_table (t' := tk) (more := #[rawInt pos.line, rawInt pos.col, .ref c']) (h' := h') I hP (fun b o hb e => hx b o hb e) htb hge ⟨oc, vs, t, hoc, hd, hv⟩
  have hF1 : ∀ b, b ≠ P → b ≠ c' → upd (upd H P (.tbl (ps ++ #[rawInt pos.line, rawInt pos.col, .ref c']))) c' (CodeO c' q) b = H b := fun b h1 h2 => by rw [upd_ne h2, upd_ne h1]
  have nPc : P ≠ c' := ne_of_none hP nC
  have nPf : P ≠ h'.objs.size := ne_of_none hP nF
  have ncf : c' ≠ h'.objs.size := Nat.ne_of_lt hlt
  have I2 := I1.laid (a := h'.objs.size) (o := ho) (h' := h'.push o) (t' := tk) (fun b u e => Heap.get?_push_of_some _ e) (Nat.le_refl _) (new _)
  generalize hH2 : upd (upd (upd H P (.tbl (ps ++ #[rawInt pos.line, rawInt pos.col, .ref c']))) c' (CodeO c' q)) h'.objs.size ho = H2 at I2
  have old : ∀ b u, b ≠ P → H b = some u → H2 b = some u := fun b u hb e => by
    rw [← hH2, upd_ne (ne_of_none e nF), hF1 b hb (ne_of_none e nC)]
    exact e
  have atP : H2 P = some (.tbl (ps ++ #[rawInt pos.line, rawInt pos.col, .ref c'])) := by rw [← hH2, upd_ne nPf, upd_ne nPc, upd_same]
  have atc : H2 c' = some (CodeO c' q) := by rw [← hH2, upd_ne ncf, upd_same]
  have code : ∀ {b r}, H b = some (CodeO b r) → H2 b = some (CodeO b r) := fun {b r} e => old b _ (fun z => by rw [z, hP] at e; exact codeO_ne _ (Option.some.inj e).symm) e
  refine ⟨H2, I2, fun b u hb e => old b u (fun z => hb (by rw [z]; exact List.mem_cons_self)) e, fun R hR => ?_, nF, by rw [← hH2, upd_same], atc⟩
  by_cases hb : R = P
  · subst hb
    refine ⟨_, atP, ?_, fun p' cv hcv => ?_⟩
    · rw [Array.toList_append]; exact PySem.TriplesOk_snoc _ _ _ _ ht
    · rw [Array.toList_append] at hcv
      rcases among_app2 _ ht hcv with z | ⟨z, z1, z2⟩
      · obtain ⟨c0, e1, e2⟩ := ha p' cv z
        exact ⟨c0, e1, code e2⟩
      · exact ⟨c', z, by rw [← z1, ← z2, hn]; exact atc⟩
  · obtain ⟨ps', a1, a2, a3⟩ := T R hR
    refine ⟨ps', old R _ hb a1, a2, fun p' cv hcv => ?_⟩
    obtain ⟨c0, e1, e2⟩ := a3 p' cv hcv
    exact ⟨c0, e1, code e2⟩
end
/-! ### the statement «def name(..): ..» in a def -/
def tNdf (nm : Nat → Nat → Str) (Ps : List Addr) (P : Addr) (i : Nat) (mk : Addr → NF) : TS := fun D σ H => Tbs nm Ps H ∧ ∀ (f c' : Addr) (H1 : Hp), Kp [P] H H1 → Tbs nm Ps H1 → H f = none → H1 f = some (FnO f (mk c')) → H1 c' = some (CodeO c' (mk c').qual) → D.nx (σ.set i (some (.ref f))) H1
section
variable {X : Cx} {nm : Nat → Nat → Str} {Ps : List Addr} {c P : Addr}
theorem fnO_new {P : Program} {w : World} {F : NF} {h : Heap} {doc pm ctv : Value} {f : Addr} (e : h.get? f = some ({ cls := .type "function", data := .func (F.fd doc pm ctv) } : Obj)) (H1 : Hp) : ObjOk P w H1 h f (FnO f F) :=
  ⟨⟨_, _, doc, pm, ctv, e⟩, ⟨_, e⟩, fun _ _ ⟨od, sl, d, p, t, z⟩ st => ⟨od, sl, d, p, t, st _ z⟩⟩
theorem fnE_new {P : Program} {w : World} {F : NF} {body : Expr} {h : Heap} {pm ctv : Value} {f : Addr} (e : h.get? f = some (PySem.W.kla_obj F.name F.qual F.params body F.scope F.cl pm F.c ctv)) (H1 : Hp) : ObjOk P w H1 h f (FnE f F body) :=
  ⟨⟨pm, ctv, e⟩, ⟨_, e⟩, fun _ _ ⟨p, t, z⟩ st => ⟨p, t, st _ z⟩⟩
theorem ps_ndf {st : Stmt} {name : Str} {pos : Pos} {i : Nat} (hst : st = .FunctionDef name (C8.fnArgs st) (C8.fnBody st) [] none [] (C8.fnScope st) none name pos) (TB : TabB X.base X.mg c P) (hcode : X.env.code = .ref c) (hm : P ∈ Ps) (hn : nm pos.line pos.col = X.env.qual ++ name) {fr : List Str} (hfr : ndefB X.env.scope (C8.fnScope st) fr = true)
    (hd0 : (C8.fnArgs st).defaults = []) (hk0 : (C8.fnArgs st).kw_defaults = []) (ha : annTrees (C8.fnArgs st) none X.env = []) (hN : X.N.Nodup) (hi : X.N[i]? = some name) (hx : Loc X.env.scope name) (hf : X.fn name = true ∨ X.env.scope.names.lookup name = some .local) :
    PS X st (tNdf nm Ps P i (NF.of st name (X.env.qual ++ name) (cloFrom X.env.cells (C8.fnScope st).names []))) := by
  rw [hst]
  constructor
  intro pins s σ H D I q
  obtain ⟨T, q⟩ := q
  have hq : qualnameIn X.env name name = X.env.qual ++ name := by
    have hk : X.env.kindOf name = some .local ∨ X.env.kindOf name = some .cell := hx
    unfold qualnameIn
    rcases hk with k | k
    · rw [k]; rfl
    · rw [k]; exact if_neg (by decide)
  refine PySem.W.nestDef_K hd0 hk0 ha ?_
  rw [hq]
  have hfree : ∀ y ∈ (C8.fnScope st).names, y.2 = .free → ∃ a, X.env.cells.lookup y.1 = some a := fun y hy e => I.ok.has _ (ndef_free hfr y hy e)
  obtain ⟨ps, hP, ht, hal⟩ := T P hm
  have bP : s.heap.BuiltinsAt X.mg P := TB.bm.keeps I.bk
  have hP' : s.heap.get? P = some { cls := .none, data := .fields ps } := I.hok P _ hP
  have gl := I.mod.glob.keeps I.bk
  have cd := TB.code.keeps I.bk
  have go : ∀ (f c' : Addr) (H1 : Hp) (s' : Shared), Inv X pins σ H1 s' → Kp [P] H H1 → Tbs nm Ps H1 → H f = none → H1 f = some (FnO f (NF.of st name (X.env.qual ++ name) (cloFrom X.env.cells (C8.fnScope st).names []) c')) → H1 c' = some (CodeO c' (X.env.qual ++ name)) →
      wpAny (model X.prog X.w) X.A (storeName X.env name (.ref f)) (fun _ s'' => SP X pins D .next s'') X.xe s' := fun f c' H1 s' I1 k t n h1 h2 =>
    store_ok I1 hN hi hx (v := .ref f) rfl (fun s'' J => ⟨_, H1, J, q f c' H1 k t n h1 h2⟩) hf
  cases hc : codeAmong pos ps.toList with
  | some cv =>
    obtain ⟨c', rfl, hco⟩ := hal pos cv hc
    rw [hn] at hco
    refine PySem.W.makeFunction_hit (mg := X.mg) (closure_ok hfree) I.ok.glob gl hcode cd hP' ht hc bP fun ctv doc h' tk hx2 hsz => ?_
    obtain ⟨J, nF⟩ := inv_hit (tk := tk) (ho := FnO h'.objs.size (NF.of st name (X.env.qual ++ name) (cloFrom X.env.cells (C8.fnScope st).names []) c')) I hx2 hsz fun H1 => fnO_new (doc := doc) (pm := (X.mg "__name__").getD .none) (ctv := ctv) (Heap.get?_push_size _ rfl) H1
    have e := Evl.Ex.new (o := FnO h'.objs.size (NF.of st name (X.env.qual ++ name) (cloFrom X.env.cells (C8.fnScope st).names []) c')) nF
    exact go _ c' _ _ J (Kp.of_ex e) (T.ex e) nF upd_same (e _ _ hco)
  | none =>
    refine PySem.W.makeFunction_K (mg := X.mg) (closure_ok hfree) I.ok.glob gl hcode cd hP' ht hc TB.gP bP fun c' ctv doc h' tk hx2 hge hlt hrec htb => ?_
    obtain ⟨H1, J, k, t, n, h1, h2⟩ := inv_made (tk := tk) (ho := FnO h'.objs.size (NF.of st name (X.env.qual ++ name) (cloFrom X.env.cells (C8.fnScope st).names []) c')) I T hm hP ht hal hn hx2 hge hlt hrec htb fun H1 => fnO_new (doc := doc) (pm := (X.mg "__name__").getD .none) (ctv := ctv) (Heap.get?_push_size _ rfl) H1
    exact go _ c' _ _ J k t n h1 h2
/-! ### a lambda -/
def tLmd (nm : Nat → Nat → Str) (Ps : List Addr) (P : Addr) (mk : Addr → NF) (body : Expr) : TE := fun σ H Q => Tbs nm Ps H ∧ ∀ (f c' : Addr) (H1 : Hp), Kp [P] H H1 → Tbs nm Ps H1 → H f = none → H1 f = some (FnE f (mk c') body) → H1 c' = some (CodeO c' (mk c').qual) → Q (.ref f) H1
theorem pe_lmd {params : Arguments} {body : Expr} {scope : Scope} {pos : Pos} (TB : TabB X.base X.mg c P) (hcode : X.env.code = .ref c) (hm : P ∈ Ps) (hn : nm pos.line pos.col = X.env.qual ++ "<lambda>") {fr : List Str} (hfr : ndefB X.env.scope scope fr = true) (hdef : defaultsOf params X.env = ([], [])) :
    PE X (.Lambda params body scope pos) (tLmd nm Ps P (fun c' => ⟨"<lambda>", X.env.qual ++ "<lambda>", params, [], scope, cloFrom X.env.cells scope.names [], c'⟩) body) := by
  constructor
  intro pins s σ H Q I q
  obtain ⟨T, q⟩ := q
  refine PySem.W.kla_eval hdef ?_
  have hfree : ∀ y ∈ scope.names, y.2 = .free → ∃ a, X.env.cells.lookup y.1 = some a := fun y hy e => I.ok.has _ (ndef_free hfr y hy e)
  obtain ⟨ps, hP, ht, hal⟩ := T P hm
  have bP : s.heap.BuiltinsAt X.mg P := TB.bm.keeps I.bk
  have hP' : s.heap.get? P = some { cls := .none, data := .fields ps } := I.hok P _ hP
  have gl := I.mod.glob.keeps I.bk
  have cd := TB.code.keeps I.bk
  cases hc : codeAmong pos ps.toList with
  | some cv =>
    obtain ⟨c', rfl, hco⟩ := hal pos cv hc
    rw [hn] at hco
    refine PySem.W.kla_makeFunctionHit (mg := X.mg) (closure_ok hfree) I.ok.glob gl hcode cd hP' ht hc bP fun ctv h' tk hx2 hsz => ?_
    obtain ⟨J, nF⟩ := inv_hit (tk := tk) (ho := FnE h'.objs.size ⟨"<lambda>", X.env.qual ++ "<lambda>", params, [], scope, cloFrom X.env.cells scope.names [], c'⟩ body) I hx2 hsz fun H1 => fnE_new (pm := (X.mg "__name__").getD .none) (ctv := ctv) (Heap.get?_push_size _ rfl) H1
    have e := Evl.Ex.new (o := FnE h'.objs.size ⟨"<lambda>", X.env.qual ++ "<lambda>", params, [], scope, cloFrom X.env.cells scope.names [], c'⟩ body) nF
    exact ⟨.ref _, _, J, rfl, q _ c' _ (Kp.of_ex e) (T.ex e) nF upd_same (e _ _ hco)⟩
  | none =>
    refine PySem.W.kla_makeFunction (mg := X.mg) (closure_ok hfree) I.ok.glob gl hcode cd hP' ht hc TB.gP bP fun c' ctv h' tk hx2 hge hlt hrec htb => ?_
    obtain ⟨H1, J, k, t, n, h1, h2⟩ := inv_made (tk := tk) (ho := FnE h'.objs.size ⟨"<lambda>", X.env.qual ++ "<lambda>", params, [], scope, cloFrom X.env.cells scope.names [], c'⟩ body) I T hm hP ht hal hn hx2 hge hlt hrec htb fun H1 => fnE_new (pm := (X.mg "__name__").getD .none) (ctv := ctv) (Heap.get?_push_size _ rfl) H1
    exact ⟨.ref _, H1, J, rfl, q _ c' H1 k t n h1 h2⟩
end
/-! ### a maker of the text -/
structure FunT (K : PySem.W.Frag) (x qual : Str) (st : Stmt) (f : Addr) (fd : FuncData) (c : Addr) : Prop where
  ex : ∃ (oc : Value) (od : Option Addr) (kV doc pm : Value) (an : Option Addr) (ct : Value) (osl : Array (Option Value)), fd = PySem.W.fnOf x qual (defArgs st) (defBody st) (defScope st) .none kV doc pm an (.ref c) ct ∧ K.lookup f = some ⟨oc, od, .func fd, osl⟩ ∧ PySem.W.codeIn K (.ref c) qual = true
theorem funT_mk {K : PySem.W.Frag} {x qual : Str} {st : Stmt} {f c : Addr} {oc : Value} {od an : Option Addr} {osl : Array (Option Value)} {kV doc pm cd ct : Value} (l : K.lookup f = some ⟨oc, od, .func (PySem.W.fnOf x qual (defArgs st) (defBody st) (defScope st) .none kV doc pm an cd ct), osl⟩) (ec : cd = .ref c)
    (h : PySem.W.codeIn K cd qual = true) : FunT K x qual st f (PySem.W.fnOf x qual (defArgs st) (defBody st) (defScope st) .none kV doc pm an cd ct) c := by
  subst ec
  exact ⟨oc, od, kV, doc, pm, an, ct, osl, rfl, l, h⟩
/-- a maker, by its body -/
theorem FunT.ok {P : Program} {w : World} {K : PySem.W.Frag} {mg : Str → Option Value} {base : Heap} {x qual : Str} {st : Stmt} {f c : Addr} {fd : FuncData} {N ps : List Str} {k : Nat} {sp : Sp} (F : FunT K x qual st f fd c) (S : FnScope N ps (defScope st)) (len : ∀ vs H Q E, sp vs H Q E → vs.length = ps.length)
    (hb : ∀ (A : Around) (outer : List Env) (s : Shared) (H : Hp) (vs : List V) (Q : VK) (E : XK), Room k (A.deeper (PyProof.Rows.envOfC qual (defScope st) s.heap.objs.size f (.ref c))) → sp vs H Q E →
      ∃ t, PSs (cxOf L2.CX0 P w K mg base N qual (defScope st) f (.ref c) A outer s H E).nox (defBody st) t ∧ t { nx := fun _ H' => Q .non H', rt := Q } (L2.start N vs) H) : FnOk P w K mg base L2.CX0 (k + 1) f fd ps sp := by
  obtain ⟨oc, od, kV, doc, pm, an, ct, osl, rfl, lk, hcd⟩ := F.ex
  refine fn_of lk hcd S len fun A outer s H vs Q E hr hsp => ?_
  obtain ⟨t, h, q⟩ := hb A outer s H vs Q E hr hsp
  exact ⟨t, PSs.nox h, q⟩
/-- a nested def, by its body -/
theorem nok_by {P : Program} {w : World} {K : PySem.W.Frag} {mg : Str → Option Value} {base : Heap} {N ps fr : List Str} {F : NF} {f : Addr} {k : Nat} {sp : List (Option V) → Sp} (S : NScope N ps fr F.scope)
    (hb : ∀ (doc pm ctv : Value) (us : List Value), us.length = ps.length → bindArgs (F.fd doc pm ctv) ⟨us, []⟩ = pure (ps.zip us)) (len : ∀ ws vs H Q E, sp ws vs H Q E → vs.length = ps.length)
    (hbody : ∀ (A : Around) (outer : List Env) (s : Shared) (H : Hp) (vs : List V) (ws : List (Option V)) (Q : VK) (E : XK), Room k (A.deeper (envF F f s.heap.objs.size)) → ws.length = fr.length → sp ws vs H Q E →
      ∃ t, PSs (ncx L2.CX0 P w K mg base N F f A outer s H E).nox F.body t ∧ t { nx := fun _ H' => Q .non H', rt := Q } (startF N vs ws) H) : NOk P w K mg base L2.CX0 (k + 1) f F ps fr sp := by
  refine nok_of S hb len fun A outer s H vs ws Q E hr _ _ hl hsp => ?_
  obtain ⟨t, h, q⟩ := hbody A outer s H vs ws Q E hr hl hsp
  exact ⟨t, PSs.nox h, q⟩
def inBody (st : Stmt) (i : Nat) : Stmt := (defBody st).getD i (.Pass ⟨0, 0, 0, 0⟩)
/-- which table the code object at c has -/
def tabOf (K : PySem.W.Frag) (c : Addr) : Addr := match K.lookup c with
  | some ⟨_, _, .fields vs, _⟩ => match (vs[11]? : Option PySem.Value) with
    | some (.ref p) => p
    | _ => 0
  | _ => 0
theorem tab_is {K : PySem.W.Frag} {c : Addr} (h : PySem.W.codeHdIn K c (tabOf K c) = true) : PySem.W.codeHdIn K c (tabOf K c) = true := h
theorem mem_dec {p : Addr} {l : List Addr} (h : decide (p ∈ l) = true) : p ∈ l := of_decide_eq_true h
end AT

set_option Elab.async false
set_option linter.all false
set_option maxRecDepth 100000
set_option maxHeartbeats 4000000
/-! own words, tenth part: enumerate over a text; sep.join(reversed(a list)) -/
namespace AT
open PySem PySem.Spec PyProof.Rows L2
section
abbrev SgnP (x : Str) : Nat → Value → Prop := fun i v => ∃ c u, x.cps[i]? = some c ∧ v = .str ⟨#[c]⟩ u
theorem draws_sgn {P : Program} {w : World} {B : Around} (calm : B.handled = none) (z : Addr) (x : Str) (t : Tok) : Draws P w B z [z] x.cps.size (SgnP x) (fun i g => g.IsStrIter z (strIterType x) x t i) := by
  unfold strIterType
  cases x.cps.all (· < 128) with
  | true => exact Draws.strAscii calm z x t
  | false => exact Draws.strWide calm z x t
/-- the text x, each sign in a new pair with its place -/
def ItEs (x : Str) : It where
  go := fun i _ => i < x.cps.size
  yld := fun i H v H' => ∃ T c, v = .ref T ∧ H T = none ∧ x.cps[i]? = some c ∧ H' = upd H T (.tup [.int (i : Nat), .str ⟨#[c]⟩])
  stop := fun i _ => x.cps.size ≤ i
theorem turn_enumS {P : Program} {w : World} {K : PySem.W.Frag} {tgs : List Expr} {kk : Nat} {tp : Pos} (x : Str) (t : Tok) (e z : Addr) :
    Turn P w K (.Tuple tgs kk tp) (ItEs x) [e, z] e (fun i g => (∃ old, IsEnum g e z ((i : Nat) : Int) old) ∧ g.IsStrIter z (strIterType x) x t i ∧ e ≠ z ∧ i ≤ x.cps.size) := by
  refine ⟨List.mem_cons_self, fun i g st b hb => ?_, fun i g g' st k => ?_, ?_, ?_, fun B i s Q E st h => ?_⟩
  · obtain ⟨⟨old, he⟩, ⟨o, ho, hc, hd⟩, _⟩ := st
    rcases List.mem_cons.mp hb with y | y
    · rw [y]; exact ⟨_, he, fun v t => nomatch t⟩
    · rw [List.mem_singleton.mp y]; exact ⟨o, ho, fun v t => by rw [hd] at t; cases t⟩
  · obtain ⟨⟨old, he⟩, ⟨o, ho, r⟩, ne, hi⟩ := st
    exact ⟨⟨old, k e List.mem_cons_self _ he⟩, ⟨o, k z (List.mem_cons_of_mem _ List.mem_cons_self) _ ho, r⟩, ne, hi⟩
  · intro X hP hw hK hc i pins s σ H E I hf st hg
    subst hP hw hK
    obtain ⟨⟨old, he⟩, hz, ne, hi⟩ := st
    have lt : i < x.cps.size := hg
    have heL : e < s.heap.objs.size := Heap.lt_size he
    have hzL : z < s.heap.objs.size := by obtain ⟨_, q, _⟩ := hz; exact Heap.lt_size q
    refine wpAny_pyNext_enum_itemD (draws_sgn (P := X.prog) (w := X.w) (B := X.A.in1) (show X.A.in1.handled = none from I.ok.hd hc) z x t) he hz lt ne (by simp [ne]) fun u' g tk hu' ho st' hT hsz hk => ?_
    obtain ⟨c, tu, hc1, rfl⟩ := hu'
    refine ⟨_, rfl, wpAny_letOwnedTupleGo_enum (s := { s with heap := g, toks := tk + 1 }) ho fun g2 he' sb => ?_⟩
    have hT2 : g2.get? s.heap.objs.size = some { cls := .type "tuple", data := .seq #[.int i tk, .str ⟨#[c]⟩ tu] } := (sb.2 _ (Nat.ne_of_gt heL)).trans hT
    have new : ObjOk X.prog X.w (upd H s.heap.objs.size (.tup [.int (i : Nat), .str ⟨#[c]⟩])) g2 s.heap.objs.size (.tup [.int (i : Nat), .str ⟨#[c]⟩]) :=
      ⟨by show 2 ≤ sizeLine; decide, [.int i tk, .str ⟨#[c]⟩ tu], .cons ⟨_, rfl⟩ (.cons ⟨_, rfl⟩ .nil), ⟨_, hT2, rfl, _, rfl⟩⟩
    have I1 : Inv X pins σ (upd H s.heap.objs.size (.tup [.int (i : Nat), .str ⟨#[c]⟩])) { s with heap := g2, toks := tk + 1 } :=
      I.turnedNew (ch := [e, z]) (fun b ob hb t => (sb.2 b (fun y => hb (by simp [y]))).trans (hk b ob (fun y => hb (by simp [y])) (fun y => hb (by simp [y])) t)) hf (Nat.le_refl _) new
    refine ⟨.ref s.heap.objs.size, _, I1, rfl, ⟨_, c, rfl, I.hok.fresh (Nat.le_refl _), hc1, rfl⟩, ⟨⟨.str ⟨#[c]⟩ tu, ?_⟩, ?_, ne, lt⟩, fun b hb => ?_⟩
    · have e1 : ((i + 1 : Nat) : Int) = (i : Int) + 1 := by omega
      rw [e1]
      exact he'
    · obtain ⟨o, q, r⟩ := st'
      exact ⟨o, (sb.2 z (Ne.symm ne)).trans q, r⟩
    · have hb' : b < s.heap.objs.size := by
        rcases List.mem_cons.mp hb with y | y
        · exact y ▸ heL
        · exact List.mem_singleton.mp y ▸ hzL
      rw [upd_ne (Nat.ne_of_lt hb')]
      exact (hf b hb).1
  · intro X hP hw hK hc i pins s σ H E I hf st hg
    subst hP hw hK
    obtain ⟨⟨old, he⟩, hz, ne, hi⟩ := st
    obtain ⟨f0, f1, f2, f3, f4, f5⟩ := hf z (List.mem_cons_of_mem _ List.mem_cons_self)
    have hl : i = x.cps.size := Nat.le_antisymm hi hg
    rw [hl] at he hz
    refine wpAny_pyNext_enum_endD (draws_sgn (P := X.prog) (w := X.w) (B := X.A.in1) (show X.A.in1.handled = none from I.ok.hd hc) z x t) he hz fun g eb => ⟨rfl, I.turned (t' := s.toks) (fun b o hb t => eb b o hb t) f0 f1 f3 f4 f5⟩
  · obtain ⟨⟨_, he⟩, _⟩ := st
    exact wpAny_pyIter_enum he h
def iEnumS (ta : TA) : TI := fun σ H R => ta σ H fun vs H1 => ∃ x, vs = [.str x] ∧ R (ItEs x) H1
theorem pi_enumS {X : Cx} {e : Expr} {ta : TA} {p pos tp : Pos} {tgs : List Expr} {kk : Nat} (hg : Gl X "enumerate") (hm : X.mg "enumerate" = none) (ha : PA X [e] ta) (hs : starEach [e] X.env = [(false, eval e X.env)] := by rfl) :
    PI X (.Tuple tgs kk tp) (.Call (.Name "enumerate" p) [e] [] pos) (iEnumS ta) := by
  constructor
  intro pins s σ H R I h
  refine Call_ (ld_blt I hg hm boot_enumerate (PyProof.Rows.callWith_type1 (thn (ha.run pos pins s σ H _ I h) fun us s1 z => ?_) hs rfl))
  obtain ⟨vs, H1, I1, r1, x, ex, q⟩ := z
  subst ex
  obtain ⟨u, rfl, ru⟩ := vals1 r1
  obtain ⟨t, rfl⟩ := ru
  refine call_enumerate_str fun g he hit hsz hk => wpAny_pyIter_enum he ?_
  have I2 : Inv X pins σ H1 { s1 with heap := g } := I1.kept (t' := s1.toks) hk
  refine ⟨s1.heap.objs.size + 1, [s1.heap.objs.size + 1, s1.heap.objs.size], _, _, H1, rfl, I2, turn_enumS x t (s1.heap.objs.size + 1) s1.heap.objs.size, ⟨⟨.none, he⟩, hit, Nat.succ_ne_self _, Nat.zero_le _⟩, fun b hb => ?_, q⟩
  have hle : s1.heap.objs.size ≤ b := by
    rcases List.mem_cons.mp hb with y | y
    · rw [y]; exact Nat.le_succ _
    · rw [List.mem_singleton.mp y]; exact Nat.le_refl _
  exact I1.fpOk hle (I1.hok.fresh hle)
theorem walk_enumS {x : Str} : Walk (ItEs x) x.cps.size (fun _ => True) (fun i H v H' => ∃ T c, v = .ref T ∧ H T = none ∧ x.cps[i]? = some c ∧ H' = upd H T (.tup [.int (i : Nat), .str ⟨#[c]⟩])) :=
  ⟨fun i _ hi _ => hi, fun _ _ => Nat.le_refl _, fun i H v H' _ _ y => y⟩
/-- enumerate of a list, a tuple or a text -/
def iEnumX (K : PySem.W.Frag) (ta : TA) : TI := fun σ H R => iEnumS ta σ H R ∨ iEnumA K ta σ H R
theorem pi_enumX {X : Cx} {e : Expr} {ta : TA} {p pos tp : Pos} {tgs : List Expr} {kk : Nat} (hg : Gl X "enumerate") (hm : X.mg "enumerate" = none) (ha : PA X [e] ta) (hs : starEach [e] X.env = [(false, eval e X.env)] := by rfl) :
    PI X (.Tuple tgs kk tp) (.Call (.Name "enumerate" p) [e] [] pos) (iEnumX X.K ta) := PI.or (pi_enumS hg hm ha hs) (pi_enumA hg hm ha hs)
end
/-! ### sep.join(reversed(a list)) -/
section
variable {P : Program} {w : World} {A : Around} {E : Value → Shared → Prop} {s : Shared}
theorem join_rev {x : Str} {t : Tok} {it l : Addr} {its : Array Value} {ys : List Str} {Q : Value → Shared → Prop} (calm : A.handled = none) (hit : s.heap.IsRevIter it l ((its.size : Int) - 1)) (hl : s.heap.IsList l its) (hne : l ≠ it) (hn : its.size ≤ sizeLine)
    (hP : ∀ acc : Array Value, ItemsOf (fun i v => its[its.size - 1 - i]? = some v) acc its.size → StrsAre acc.toList ys) (hok : (ys.map (·.length)).sum + ys.length * x.length ≤ 16777216)
    (hq : ∀ h' tk t', (∀ b o, b ≠ it → s.heap.get? b = some o → h'.get? b = some o) → Q (.str (Txt.join x ys) t') { s with heap := h', toks := tk }) : wpAny (model P w) A (call (.builtin "str.join") [.str x t, .ref it]) Q E s := by
  refine wpAny_call (codeAny_call_builtin F.slot_str_join.plain F.entry_str_join (F.slot_str_join.check _ _ _ _ _ _ _ _ (typeIs_str _ _ _) (F.args_str_join_2 _ _) ?_))
  rw [join_tree_other]
  have ty : s.TypeIs (.ref it) "list_reverseiterator" := hit.typeIs
  refine wpAny_bind (wpAny_typeOf ty ?_)
  rw [if_neg (by decide)]
  refine wpAny_bind (wpAny_tryCatch (wpAny_pyIter_revIter hit ?_))
  have calm1 : A.in1.in1.handled = none := calm
  refine wpAny_bind (RT.collect_rev (A := A.in1) calm hit hl hne hn fun h' tk acc kp items => ?_)
  obtain ⟨ps, hps, es⟩ := strsAre_values (hP acc items)
  subst es
  rw [hps]
  have fit := joinOk_of hok
  unfold JoinOk at fit
  rw [Bool.not_eq_true'] at fit
  have g : Gives (PySem.joinTail x (strValues ps)) (joinMade x ps) := by
    have made := PySem.gives_joinTail x ps fit
    rcases ps with _ | ⟨one, _ | ⟨two, rest⟩⟩
    · exact made
    · exact made
    · exact made
  exact g P w A (wants Q E) _ (PySem.post_join ps ⟨PySem.joinFit_length fit, fun t' k => hq h' k t' kp⟩)
end
theorem strs_rev {ys : List Str} {its : List Value} {acc : Array Value} (r : Vals (ys.map V.str) its) (h : ItemsOf (fun i v => its.toArray[its.toArray.size - 1 - i]? = some v) acc its.toArray.size) : StrsAre acc.toList ys.reverse := by
  have r2 := RT.vals_rev r h
  rw [← List.map_reverse] at r2
  generalize ys.reverse = zs at r2
  generalize acc.toList = us at r2
  clear h r
  induction zs generalizing us with
  | nil => cases r2; exact .nil
  | cons z zs ih =>
    cases r2 with
    | cons r1 r3 =>
      obtain ⟨t, rfl⟩ := r1
      exact .cons z t (ih _ r3)
def tJoinRev (K : PySem.W.Frag) (to : TE) (ta : TA) : TE := fun σ H Q => to σ H fun v H1 => (∃ a : Str, v = .str a) ∧ ta σ H1 fun vs H2 => ∃ (a : Str) (q : Addr) (ys : List Str), v = .str a ∧ vs = [.ref q] ∧ SqL K H2 q (ys.map V.str) ∧
  (ys.map (·.length)).sum + ys.length * a.length ≤ 16777216 ∧ Q (.str (Txt.join a ys.reverse)) H2
theorem pe_joinRev {X : Cx} {o e : Expr} {to : TE} {ta : TA} {apos pos p2 pos2 : Pos} (calm : X.calm = true) (ho : PE X o to) (hg : Gl X "reversed") (hm : X.mg "reversed" = none) (ha : PA X [e] ta) (hs : starEach [e] X.env = [(false, eval e X.env)] := by rfl)
    (hs1 : starEach [.Call (.Name "reversed" p2) [e] [] pos2] X.env = [(false, eval (.Call (.Name "reversed" p2) [e] [] pos2) X.env)] := by rfl) (hbase : attributeBase o "join" X.env (eval o X.env) = eval o X.env := by rfl) (hline : (apos.endLine == pos.line) = true := by rfl) :
    PE X (.Call (.Attribute o "join" apos) [.Call (.Name "reversed" p2) [e] [] pos2] [] pos) (tJoinRev X.K to ta) := by
  constructor
  intro pins s σ H Q I h
  refine PySem.Call_method1 hbase hs1 hline (thn (ho.run pins s σ H _ I h) fun v s1 z => ?_)
  obtain ⟨x, H1, I1, r1, ⟨a, rfl⟩, q1⟩ := z
  obtain ⟨t, rfl⟩ := _root_.id r1
  refine ⟨"str", _, F.plainAttrs_str, F.slot_str_join, F.type_str_join, typeIs_str _ _ _, (fun _ e => nomatch e), Calls.callWith_builtin rfl (Calls.evalArgs_plain (Calls.spliced_cons ?_))⟩
  refine Call_ (ld_blt I1 hg hm PyProof.Rows.boot_reversed (PyProof.Rows.callWith_type1 (thn (ha.run pos2 pins s1 σ H1 _ I1 q1) fun us s2 z => ?_) hs rfl))
  obtain ⟨vs, H2, I2, r2, a', q, ys, ea, ev, hq, hz, q2⟩ := z
  cases ea
  subst ev
  obtain ⟨u, rfl, ru⟩ := vals1 r2
  cases (show u = Value.ref q from ru)
  obtain ⟨its, rv, p', hl⟩ := I2.list hq
  refine call_reversed_list p'.isList (Calls.spliced_nil ?_)
  have hol : q < s2.heap.objs.size := by obtain ⟨o, z, _⟩ := p'.isList; exact Heap.lt_size z
  have k0 : ∀ b o, s2.heap.get? b = some o → (s2.heap.push (revObj q ((its.toArray.size : Int) - 1))).get? b = some o := fun b o z => Heap.get?_push_of_some _ z
  have J : Inv X pins σ H2 { s2 with heap := s2.heap.push (revObj q ((its.toArray.size : Int) - 1)) } := I2.kept (t' := s2.toks) k0
  obtain ⟨f0, f1, f2, f3, f4, f5⟩ := I2.fpOk (H' := H2) (b := s2.heap.objs.size) (Nat.le_refl _) (I2.hok.fresh (Nat.le_refl _))
  refine join_rev (s := { s2 with heap := s2.heap.push (revObj q ((its.toArray.size : Int) - 1)) }) (ys := ys.reverse) (I2.ok.hd calm) ⟨_, Heap.get?_push_size _ rfl, rfl, rfl⟩ (p'.isList.push _) (Nat.ne_of_lt hol) ?_ (fun acc hi => strs_rev rv hi) ?_ fun h' tk t' kp => ?_
  · rw [List.size_toArray, ← rv.length]; exact hl
  · rw [List.map_reverse, List.sum_reverse, List.length_reverse]; exact hz
  · exact ⟨.str _, H2, J.turned (t' := tk) (fun b o hb z => kp b o hb z) f0 f1 f3 f4 f5, ⟨t', rfl⟩, q2⟩
section
variable {X : Cx} (K : PySem.W.Frag) (hK : X.K = K := by rfl)
include hK
theorem kJr {e : Expr} {to : TE} {ta : TA} (h : PE X e (tJoinRev X.K to ta)) : PE X e (tJoinRev K to ta) := hK ▸ h
end
section
variable {σ : L2.St} {H : Hp} {Q : VK} {D : Ends} {t : TA} {to : TE} {ta : TA} {nm : Nat → Nat → Str} {Ps : List Addr} {P : Addr} {i : Nat} {mk : Addr → NdefX.NF} {X : Cx} {sp : Sp} {R : It → Hp → Prop}
theorem rd_ndf (T : Tbs nm Ps H) (h : ∀ (f c' : Addr) (H1 : Hp), Kp [P] H H1 → Tbs nm Ps H1 → H f = none → H1 f = some (NdefX.FnO f (mk c')) → H1 c' = some (LamX.CodeO c' (mk c').qual) → D.nx (σ.set i (some (.ref f))) H1) : tNdf nm Ps P i mk D σ H := ⟨T, h⟩
theorem rd_callZ (h : t σ H fun vs H1 => ∀ O, OwnC X σ O H1 → sp vs (fz (ca X) O H1) (fun v H2 => Q v (hid (ca X) H2)) L2.E0) : tCallZ X sp t σ H Q := h
theorem rd_enS (h : ta σ H fun vs H1 => ∃ x, vs = [.str x] ∧ R (ItEs x) H1) : iEnumS ta σ H R := h
end
section
variable {X : Cx}
/-- t.index(True), t a tuple of truth values -/
def rIdxB (K : PySem.W.Frag) : V → List V → Hp → VK → Prop := fun x xs H Q => ∃ (p : Addr) (bs : List Bool) (j : Nat), x = .ref p ∧ xs = [.bl true] ∧ SqT K H p (bs.map V.bl) ∧ bs[j]? = some true ∧ (∀ m, m < j → bs[m]? ≠ some true) ∧ Q (.int (j : Nat)) H
theorem flat_bls : ∀ bs : List Bool, (bs.map V.bl).all flatV = true
  | [] => rfl
  | _ :: bs => flat_bls bs
theorem mt_tupIdxB : MtR X "tuple.index" (rIdxB X.K) := by
  intro pins s σ H x xs v us Q I rx rs h
  obtain ⟨p, bs, j, rfl, rfl, hq, hj, no, q⟩ := h
  cases rx
  obtain ⟨u, rfl, ru⟩ := vals1 rs
  cases (show u = Value.bool true from ru)
  obtain ⟨its, r, ⟨⟨cls, dd, dt, sl⟩, ho, hc, n, hd⟩, hz⟩ := I.tuple hq
  simp only at hc hd
  subst hc hd
  have len : its.toArray.size = bs.length := by
    have := r.length
    rw [List.length_map] at this
    rw [List.size_toArray]; exact this.symm
  have jl : j < its.toArray.size := by rw [len]; exact (List.getElem?_eq_some_iff.mp hj).1
  have here : ∀ (m : Nat) (hm : m < its.toArray.size), ∃ b, bs[m]? = some b ∧ its.toArray[m] = Value.bool b := fun m hm => by
    have hm' : m < bs.length := len ▸ hm
    obtain ⟨z, hz1, hz2⟩ := r.get (i := m) (x := .bl bs[m]) (by simp [hm'])
    refine ⟨bs[m], List.getElem?_eq_getElem hm', ?_⟩
    cases (show z = Value.bool bs[m] from hz2)
    simpa using (List.getElem?_eq_some_iff.mp hz1).2
  refine call_meets PySem.F.slot_tuple_index ⟨_, ho, rfl⟩ PySem.F.entry_tuple_index (PySem.F.args_tuple_index_2 _ _) (TI.tuple_indexAt p its.toArray n dd sl (.bool true) (eqU (.bl true)) j jl ?_ ?_) ⟨ho, fun z hz => mem_eqAt (x := .bl true) rfl rfl r (flat_bls bs) z (by simpa using hz), ⟨.int (j : Nat), H, I.tok _, ⟨_, rfl⟩, q⟩⟩
  · obtain ⟨b, h1, h2⟩ := here j jl
    rw [hj] at h1
    cases h1
    rw [h2]
    rfl
  · intro m hm hmj
    obtain ⟨b, h1, h2⟩ := here m hm
    rw [h2]
    cases b with
    | true => exact absurd h1 (no m hmj)
    | false => rfl
end
section
variable {X : Cx} (K : PySem.W.Frag) (hK : X.K = K := by rfl)
include hK
theorem kIdxB : MtR X "tuple.index" (rIdxB K) := hK ▸ mt_tupIdxB
end
theorem PE.or {X : Cx} {e : Expr} {t t' : TE} (h : PE X e t) (h' : PE X e t') : PE X e (fun σ H Q => t σ H Q ∨ t' σ H Q) := by
  constructor
  intro pins s σ H Q I q
  exact q.elim (h.run pins s σ H Q I) (h'.run pins s σ H Q I)
/-! ### what stands still hides no data -/
section
variable {K : PySem.W.Frag} {S : List Addr} {H H' : Hp}
theorem rz_hid : rz S H (hid S H) = H := by
  funext b
  by_cases hb : b ∈ S
  · rw [rz_in hb]
  · rw [rz_at hb, hid_at hb]
/-- all of S are things that no data leans on -/
def NoD (S : List Addr) (H : Hp) : Prop := ∀ b ∈ S, ∀ o, H b = some o → (∀ xs, o ≠ .lst xs) ∧ (∀ xs, o ≠ .tup xs) ∧ (∀ u xs, o ≠ .frz u (.lst xs)) ∧ ∀ u xs, o ≠ .frz u (.tup xs)
theorem NoD.of_fr (W : ∀ b ∈ S, ∃ o, H b = some (frC b o)) : NoD S H := fun b hb o e => by
  obtain ⟨u, z⟩ := W b hb
  rw [z] at e
  cases e
  exact ⟨fun xs z => (nomatch z), fun xs z => (nomatch z), (fun u xs z => by cases z), (fun u xs z => by cases z)⟩
theorem sqt_noD (h : NoD S H) {a : Addr} {vs : List V} (q : SqT K H a vs) : SqT K (hid S H) a vs := by
  rcases q with (q | ⟨o, q⟩) | q
  · exact .inl (.inl (by rw [hid_at fun hb => (h a hb _ q).2.1 _ rfl]; exact q))
  · exact .inl (.inr ⟨o, by rw [hid_at fun hb => (h a hb _ q).2.2.2 _ _ rfl]; exact q⟩)
  · exact .inr q
theorem sql_noD (h : NoD S H) {a : Addr} {vs : List V} (q : SqL K H a vs) : SqL K (hid S H) a vs := by
  rcases q with (q | ⟨o, q⟩) | q
  · exact .inl (.inl (by rw [hid_at fun hb => (h a hb _ q).1 _ rfl]; exact q))
  · exact .inl (.inr ⟨o, by rw [hid_at fun hb => (h a hb _ q).2.2.1 _ _ rfl]; exact q⟩)
  · exact .inr q
mutual
theorem Dp.hidF (h : NoD S H) : ∀ (d : PyData) {v : V}, Dp K H v d → Dp K (hid S H) v d
  | .none, _, q => by cases q; exact .non
  | .bool b, _, q => by cases q; exact .bl b
  | .int i, _, q => by cases q; exact .int i
  | .str x, _, q => by cases q; exact .str x
  | .list ds, _, q => by
    cases q with
    | lst hs ha => exact .lst (sql_noD h hs) (DpAll.hidF h ds ha)
  | .tuple ds, _, q => by
    cases q with
    | tup hs ha => exact .tup (sqt_noD h hs) (DpAll.hidF h ds ha)
  | .dict _, _, q => by cases q
theorem DpAll.hidF (h : NoD S H) : ∀ (ds : List PyData) {vs : List V}, DpAll K H vs ds → DpAll K (hid S H) vs ds
  | [], _, q => by cases q; exact .nil
  | d :: ds, _, q => by
    cases q with
    | cons h1 h2 => exact .cons (Dp.hidF h d h1) (DpAll.hidF h ds h2)
end
end
section
variable {nm : Nat → Nat → Str} {Ps S : List Addr} {H H' : Hp}
/-- the tables are no data -/
theorem Tbs.noD (t : Tbs nm Ps H) : NoD Ps H := fun b hb o e => by
  obtain ⟨ps, z⟩ := TabN.isT (t b hb)
  rw [z] at e
  cases e
  exact ⟨fun xs z => (nomatch z), fun xs z => (nomatch z), fun u xs z => (nomatch z), fun u xs z => (nomatch z)⟩
theorem kp_one {P : Addr} (hP : P ∈ Ps) (k : Kp [P] H H') : Kp Ps H H' := k.sub fun b hb => by rw [List.mem_singleton.mp hb]; exact hP
end
/-! ### made functions, for those who get them -/
section
open LamX NdefX
/-- the promise, the function's cells out of sight -/
def spC (as : List Addr) (sp : Sp) : List V → Hp → VK → Prop := fun vs H Q => (∀ b ∈ as, ∃ o, H b = some (frC b o)) → sp vs (hid as H) (fun v H' => (∀ b ∈ as, H' b = none) → Q v (rz as H H')) L2.E0
theorem FV.weak {P : Program} {w : World} {K : PySem.W.Frag} {mg : Str → Option Value} {base : Heap} {k : Nat} {f : Addr} {G : Hp → Prop} {sp sp' : List V → Hp → VK → Prop} (F : FV P w K mg base k f G sp) (h : ∀ vs H Q, G H → sp' vs H Q → sp vs H Q) : FV P w K mg base k f G sp' :=
  ⟨F.fn, F.st, fun A outer s H us vs Q hr e0 g r q => F.run A outer s H us vs Q hr e0 g r (h vs H Q g q)⟩
variable {X : Cx} {σ : L2.St} {O : Addr → Obj} {H : Hp} {f c : Addr} {name q : Str} {params : Arguments} {scope : Scope} {N ps fr : List Str} {js : List Nat} {k : Nat} {sp : List (Option V) → Sp}
theorem lam_made {body : Expr} (ow : OwnC X σ O H) (hf : H f = some (FnE f ⟨name, q, params, [], scope, cloFrom X.env.cells scope.names [], c⟩ body)) (hc : H c = some (CodeO c q)) (js : List Nat) (hb : ndefB X.env.scope scope fr = true) (hjs : js.map (fun j => X.N[j]?) = fr.map some) (S : NScope N ps fr scope)
    (hbind : ∀ (cl : List (Str × Addr)) (pm ctv : Value) (us : List Value), us.length = ps.length → bindArgs (PySem.W.kla_fn name q params body scope cl pm (.ref c) ctv) ⟨us, []⟩ = pure (ps.zip us)) (len : ∀ ws vs H Q E, sp ws vs H Q E → vs.length = ps.length)
    (hbody : ∀ (cl : List (Str × Addr)) (A : Around) (outer : List Env) (s : Shared) (H : Hp) (vs : List V) (ws : List (Option V)) (Q : VK), Room k (A.deeper (envF ⟨name, q, params, [], scope, cl, c⟩ f s.heap.objs.size)) → ws.length = fr.length → sp ws vs H Q L2.E0 →
      ∃ t, PE (ncx L2.CX0 X.prog X.w X.K X.mg X.base N ⟨name, q, params, [], scope, cl, c⟩ f A outer s H L2.E0) body t ∧ t (startF N vs ws) H Q) :
    ∃ (G : Hp → Prop) (as : List Addr), FV X.prog X.w X.K X.mg X.base (k + 1) f G (spC as (sp (js.map (slotAt σ)))) ∧ G (fz (ca X) O H) := by
  have F := FV.of_lam (P := X.prog) (w := X.w) (K := X.K) (mg := X.mg) (base := X.base) (f := f) (F := ⟨name, q, params, [], scope, cloFrom X.env.cells scope.names [], c⟩) (body := body) (ws := js.map (slotAt σ)) (sp := sp) S (hbind _) len fun A outer s H vs Q hr hl h => hbody _ A outer s H vs _ Q hr hl h
  exact ⟨_, _, F.weak fun vs H' Q g h => h fun b hb => let ⟨u, e, _⟩ := g.cel b hb; ⟨u, e⟩, clo_made ow hf hc hb hjs⟩
theorem ndf_made {body : List Stmt} (ow : OwnC X σ O H) (hf : H f = some (FnO f ⟨name, q, params, body, scope, cloFrom X.env.cells scope.names [], c⟩)) (hc : H c = some (CodeO c q)) (js : List Nat) (hb : ndefB X.env.scope scope fr = true) (hjs : js.map (fun j => X.N[j]?) = fr.map some)
    (Nk : ∀ cl, NOk X.prog X.w X.K X.mg X.base L2.CX0 k f ⟨name, q, params, body, scope, cl, c⟩ ps fr sp) :
    ∃ (G : Hp → Prop) (as : List Addr), FV X.prog X.w X.K X.mg X.base k f G (spC as (sp (js.map (slotAt σ)))) ∧ G (fz (ca X) O H) := by
  have F := FV.of_nok (ws := js.map (slotAt σ)) (Nk (cloFrom X.env.cells scope.names []))
  exact ⟨_, _, F.weak fun vs H' Q g h => h fun b hb => let ⟨u, e, _⟩ := g.cel b hb; ⟨u, e⟩, clo_made ow hf hc hb hjs⟩
end
theorem Tbs.kpX {nm : Nat → Nat → Str} {Ps : List Addr} {P : Addr} {H H' : Hp} (t : Tbs nm Ps H) (hP : P ∈ Ps) (k : Kp [P] H H') {b : Addr} {o : HO} (e : H b = some o) (x : isX o) : H' b = some o := by
  obtain ⟨ps, z⟩ := TabN.isT (t P hP)
  refine k b o (fun m => ?_) e
  rw [List.mem_singleton.mp m, z] at e
  cases e
  exact x
/-- the data that stands while a table grows -/
theorem Tbs.kpD {nm : Nat → Nat → Str} {Ps : List Addr} {P : Addr} {H H' : Hp} (t : Tbs nm Ps H) (hP : P ∈ Ps) (k : Kp [P] H H') {b : Addr} {o : HO} (e : H b = some o) (x : ∀ ps, o ≠ .tbl ps) : H' b = some o := by
  obtain ⟨ps, z⟩ := TabN.isT (t P hP)
  refine k b o (fun m => ?_) e
  rw [List.mem_singleton.mp m, z] at e
  cases e
  exact absurd rfl (x ps)
/-- out of the callee's heap, the cells left behind -/
theorem fz_out {as : List Addr} {O : Addr → Obj} {H H' : Hp} (n : ∀ c ∈ as, H c = none) (e : Ex (fz as O H) H') : Ex H (hid as H') := fun b o z => by
  have nb : b ∉ as := fun m => by rw [n b m] at z; cases z
  rw [hid_at nb]
  exact e b o (by rw [fz_at nb]; exact z)
section
open LamX NdefX
/-- what stands but for the cells -/
def StE (H H' : Hp) : Prop := ∀ b φ, H b = some (.ext φ) → H' b = some (.ext φ)
theorem StE.hid {S : List Addr} {H : Hp} (W : ∀ b ∈ S, ∃ o, H b = some (frC b o)) : StE H (hid S H) := fun b φ e => by
  rw [hid_at fun m => by obtain ⟨o, z⟩ := W b m; rw [z] at e; cases e]
  exact e
theorem StE.of_ex {H H' : Hp} (e : Ex H H') : StE H H' := fun b φ z => e b _ z
theorem StE.trans {H H1 H2 : Hp} (a : StE H H1) (b : StE H1 H2) : StE H H2 := fun x φ z => b x φ (a x φ z)
/-- a lambda that captured nothing -/
theorem lam_free {P : Program} {w : World} {K : PySem.W.Frag} {mg : Str → Option Value} {base : Heap} {f c : Addr} {name q : Str} {params : Arguments} {scope : Scope} {N ps : List Str} {k : Nat} {sp : Sp} {body : Expr} {H : Hp} {cl : List (Str × Addr)} (hf : H f = some (FnE f ⟨name, q, params, [], scope, cl, c⟩ body)) (hc : H c = some (CodeO c q)) (hcl : cl = [])
    (S : NScope N ps [] scope) (hbind : ∀ (pm ctv : Value) (us : List Value), us.length = ps.length → bindArgs (PySem.W.kla_fn name q params body scope [] pm (.ref c) ctv) ⟨us, []⟩ = pure (ps.zip us)) (len : ∀ vs H Q E, sp vs H Q E → vs.length = ps.length)
    (hbody : ∀ (A : Around) (outer : List Env) (s : Shared) (H : Hp) (vs : List V) (Q : VK), Room k (A.deeper (envF ⟨name, q, params, [], scope, [], c⟩ f s.heap.objs.size)) → sp vs H Q L2.E0 →
      ∃ t, PE (ncx L2.CX0 P w K mg base N ⟨name, q, params, [], scope, [], c⟩ f A outer s H L2.E0) body t ∧ t (startF N vs []) H Q) :
    ∃ G : Hp → Prop, FV P w K mg base (k + 1) f G (fun vs H Q => sp vs H Q L2.E0) ∧ G H ∧ ∀ H H', StE H H' → G H → G H' := by
  subst hcl
  have F := FV.of_lam (P := P) (w := w) (K := K) (mg := mg) (base := base) (f := f) (F := ⟨name, q, params, [], scope, [], c⟩) (body := body) (fr := []) (ws := []) (sp := fun _ => sp) S hbind (fun _ => len) fun A outer s H vs Q hr _ h => hbody A outer s H vs Q hr h
  have all : ∀ H, H f = some (FnE f ⟨name, q, params, [], scope, [], c⟩ body) ∧ H c = some (CodeO c q) → Clo H f (FnE f ⟨name, q, params, [], scope, [], c⟩ body) c q [] [] [] := fun H h =>
    ⟨h.1, h.2, (fun a ha => nomatch ha), (fun x y a e => nomatch e), rfl, fun i y e => by rw [List.getElem?_nil] at e; cases e⟩
  refine ⟨fun H => H f = some (FnE f ⟨name, q, params, [], scope, [], c⟩ body) ∧ H c = some (CodeO c q), ⟨fun H h ok g => F.fn H h ok (all H g), fun H H' st g => ⟨st _ _ g.1 True.intro, st _ _ g.2 True.intro⟩, fun A outer s H us vs Q hr e0 g r q => F.run A outer s H us vs Q hr e0 (all H g) r ?_⟩, ⟨hf, hc⟩, fun H H' st g => ⟨st _ _ g.1, st _ _ g.2⟩⟩
  show sp vs (hid [] H) (fun v H' => (∀ b ∈ ([] : List Addr), H' b = none) → Q v (rz [] H H')) L2.E0
  have e1 : (fun (v : V) (H' : Hp) => (∀ b ∈ ([] : List Addr), H' b = none) → Q v (rz [] H H')) = Q := by
    funext v H'
    have e2 : rz [] H H' = H' := by
      funext b
      exact rz_at (by simp)
    rw [e2]
    exact propext ⟨fun h => h fun b hb => (nomatch hb), fun h _ => h⟩
  rw [hid_nil, e1]
  exact q
end
theorem Tbs.hidC {nm : Nat → Nat → Str} {Ps as : List Addr} {H : Hp} (t : Tbs nm Ps H) (W : ∀ b ∈ as, ∃ o, H b = some (frC b o)) : Tbs nm Ps (hid as H) := fun P hP => by
  obtain ⟨ps, e, h1, h2⟩ := t P hP
  refine ⟨ps, by rw [hid_at fun m => by obtain ⟨o, z⟩ := W P m; rw [e] at z; cases z]; exact e, h1, fun pos cv hc => ?_⟩
  obtain ⟨c, e1, e2⟩ := h2 pos cv hc
  exact ⟨c, e1, by rw [hid_at fun m => by obtain ⟨o, z⟩ := W c m; rw [e2] at z; cases z]; exact e2⟩
/-- back from a callee that may make functions -/
theorem out_T {nm : Nat → Nat → Str} {Ps as : List Addr} {O : Addr → Obj} {H H' : Hp} (n : ∀ c ∈ as, H c = none) (t : Tbs nm Ps H) (k : Kp Ps (fz as O H) H') (t' : Tbs nm Ps H') : Kp Ps H (hid as H') ∧ Tbs nm Ps (hid as H') := by
  have np : ∀ b ∈ as, b ∉ Ps := fun b hb hP => by
    obtain ⟨ps, z⟩ := TabN.isT (t b hP)
    rw [n b hb] at z; cases z
  refine ⟨fun b o hb e => ?_, t'.hidC fun b hb => ⟨O b, k b _ (np b hb) (fz_in hb)⟩⟩
  have nb : b ∉ as := fun m => by rw [n b m] at e; cases e
  rw [hid_at nb]
  exact k b o hb (by rw [fz_at nb]; exact e)
theorem rd_neB {K : PySem.W.Frag} {x y : Bool} {H : Hp} {Q : VK} (h : Q (.bl (x != y)) H) : oNe K (.bl x) (.bl y) H Q := .inl ⟨rfl, by
  have e : (!decide (V.bl x = V.bl y)) = (x != y) := by cases x <;> cases y <;> rfl
  rw [e]; exact h⟩
theorem rd_eqB {K : PySem.W.Frag} {x y : Bool} {H : Hp} {Q : VK} (h : Q (.bl (x == y)) H) : oEq K (.bl x) (.bl y) H Q := .inl ⟨rfl, by
  have e : decide (V.bl x = V.bl y) = (x == y) := by cases x <;> cases y <;> rfl
  rw [e]; exact h⟩
/-! ### tuples that are known to the object: their methods -/
/-- a tuple with no dict of its own -/
def TupF (H : Hp) (p : Addr) (xs : List V) : Prop := ∃ o : Obj, H p = some (.frz o (.tup xs)) ∧ o.cls = .type "tuple" ∧ o.dict = none
theorem TupF.sq {K : PySem.W.Frag} {H : Hp} {p : Addr} {xs : List V} (h : TupF H p xs) : SqT K H p xs := let ⟨o, e, _⟩ := h; .inl (.inr ⟨o, e⟩)
theorem TupF.ex {H H' : Hp} {p : Addr} {xs : List V} (h : TupF H p xs) (e : Ex H H') : TupF H' p xs := let ⟨o, z, r⟩ := h; ⟨o, e _ _ z, r⟩
/-- tuple(a list): the new tuple, known to the object -/
def cTupF (K : PySem.W.Frag) : List V → Hp → VK → Prop := fun xs H Q => ∃ p ys, xs = [.ref p] ∧ SqL K H p ys ∧ ∀ l o, H l = none → o.cls = .type "tuple" → o.dict = none → Q (.ref l) (upd H l (.frz o (.tup ys)))
theorem call_tupF {X : Cx} : CallR X (.type "tuple") (cTupF X.K) := by
  intro pins s σ H xs us Q I r h
  obtain ⟨p, ys, rfl, hq, q⟩ := h
  obtain ⟨u, rfl, ru⟩ := vals1 r
  cases (show u = Value.ref p from ru)
  obtain ⟨its, rv, pl, hz⟩ := I.list hq
  have len := rv.length
  refine call_tuple_list pl.isList (fun h' kp => ?_) (by rw [List.size_toArray]; omega)
  have J : Inv X pins σ H { s with heap := h' } := I.kept (t' := s.toks) kp
  have got : (h'.push { cls := .type "tuple", data := .seq its.toArray }).get? h'.objs.size = some { cls := .type "tuple", data := .seq its.toArray } := Heap.get?_push_size _ rfl
  refine ⟨.ref h'.objs.size, _, J.laid (t' := s.toks) (o := .frz { cls := .type "tuple", data := .seq its.toArray } (.tup ys)) (fun b o e => Heap.get?_push_of_some _ e) (Nat.le_refl _) ⟨got, hz, its, rv, IsTup.new _ _⟩, rfl, q _ _ (J.hok.fresh (Nat.le_refl _)) rfl rfl⟩
/-- o.m(..), o a tuple that is known to the object -/
def tBMF (r : V → List V → Hp → VK → Prop) (to : TE) (t : TA) : TE := fun σ H Q => to σ H fun x H1 => (∃ p xs, x = .ref p ∧ TupF H1 p xs) ∧ t σ H1 fun vs H2 => r x vs H2 Q
theorem pe_bmF {X : Cx} {o e : Expr} {es : List Expr} {name : Str} {id : String} {r : V → List V → Hp → VK → Prop} {to : TE} {t : TA} {apos cpos : Pos} (pa : PlainAttrs "tuple") (slot : Slot "tuple" name id) (hty : typeOf (.builtin id) = pure (.type "method_descriptor")) (hm : MtR X id r) (ho : PE X o to) (ha : PA X (e :: es) t)
    (hbase : attributeBase o name X.env (eval o X.env) = eval o X.env := by rfl)
    (hfew : ((backTo cpos (starEach (e :: es) X.env)).all (fun x => !x.1) && (backToKw cpos (keywordEach [] X.env)).all (fun x => x.1.isSome) && decide ((e :: es).length + ([] : List Keyword).length + (if ([] : List Keyword).isEmpty then 0 else 1) < 30)) = true := by rfl)
    (hline : (apos.endLine == cpos.line) = true := by rfl) (hs : starEach (e :: es) X.env = (false, eval e X.env) :: starEach es X.env := by rfl) (hpl : (backTo cpos (starEach es X.env)).any (·.1) = false := by rfl) :
    PE X (.Call (.Attribute o name apos) (e :: es) [] cpos) (tBMF r to t) := by
  constructor
  intro pins s σ H Q I h
  refine wpAny_Call_method_late hbase hfew hline rfl (thn (ho.run pins s σ H _ I h) fun v s1 z => ?_)
  obtain ⟨x, H1, I1, r1, ⟨p, xs, rfl, u, hp, hc, hd⟩, q1⟩ := z
  have hv : v = Value.ref p := r1
  obtain ⟨got, _⟩ := I1.hok p _ hp
  refine ⟨"tuple", id, pa, slot, hty, by rw [hv]; exact ⟨u, got, hc⟩, fun a e => ?_, ?_⟩
  · rw [hv] at e
    cases e
    exact ⟨u, got, hd⟩
  have hA := ha.run cpos pins s1 σ H1 _ I1 q1
  rw [hs] at hA ⊢
  refine Calls.callWith_builtin (by show (false || (backTo cpos (starEach es X.env)).any (·.1)) = false; rw [hpl]; rfl) (Calls.evalArgs_plain ?_)
  exact thn hA fun us s2 z => by
    obtain ⟨vs, H2, I2, r2, q2⟩ := z
    exact hm pins s2 σ H2 _ vs v us Q I2 r1 r2 q2
section
variable {X : Cx} (K : PySem.W.Frag) (hK : X.K = K := by rfl)
include hK
theorem kTupF : CallR X (.type "tuple") (cTupF K) := hK ▸ call_tupF
end
theorem rd_bmF {r : V → List V → Hp → VK → Prop} {to : TE} {t : TA} {σ : L2.St} {H : Hp} {Q : VK} (h : to σ H fun x H1 => (∃ p xs, x = .ref p ∧ TupF H1 p xs) ∧ t σ H1 fun vs H2 => r x vs H2 Q) : tBMF r to t σ H Q := h
end AT

set_option Elab.async false
set_option linter.all false
set_option maxRecDepth 100000
set_option maxHeartbeats 4000000
/-! own words, eleventh part: calls of function values within comprehensions -/
namespace AT
open PySem PySem.Spec PyProof.Rows L2
section
variable {X : Cx} {k i : Nat} {x : Str} {p pos : Pos} {e : Expr} {es : List Expr} {t : TA} {P : Program} {w : World} {K : PySem.W.Frag} {mg : Str → Option Value} {base : Heap}
/-- x(..), x a name that holds a function, its parts named -/
theorem pe_callQB (h1 : X.prog = P) (h2 : X.w = w) (h3 : X.K = K) (h4 : X.mg = mg) (h5 : X.base = base) (hr : Room k X.A) (hN : X.N[i]? = some x) (hv : Vis X.env.scope x) (ha : PA X (e :: es) t) (hd : (x == ("__debug__" : Str)) = false := by decide) (hcd : (x == ("__classdict__" : Str)) = false := by decide)
    (he : starEach (e :: es) X.env = (false, eval e X.env) :: starEach es X.env := by rfl) (hpl : (backTo pos (starEach es X.env)).any (·.1) = false := by rfl) : PE X (.Call (.Name x p) (e :: es) [] pos) (tCallQ P w K mg base k i t) := by
  subst h1 h2 h3 h4 h5
  exact pe_callQ hr hN hv ha hd hcd he hpl
end
/-- o[i] of a tracked list, from its start, as `o[i] += ..` reads it -/
def gGetL : V → V → Hp → VK → Prop := fun x y H Q => ∃ p xs i v, x = .ref p ∧ y = .int i ∧ H p = some (.lst xs) ∧ 0 ≤ i ∧ xs[i.toNat]? = some v ∧ Q v H
theorem pget_list {X : Cx} : PGet X gGetL := by
  intro pins s σ H x y v u Q I rx ry h
  obtain ⟨p, xs, i, z, rfl, rfl, hq, h0, he, q⟩ := h
  cases rx
  obtain ⟨t, rfl⟩ := ry
  obtain ⟨its, r, pl, hz⟩ := I.list (.inl (.inl hq))
  obtain ⟨w, ew, rw'⟩ := r.get he
  have hl := r.length
  have hn := line63
  have hi : i.toNat < xs.length := (List.getElem?_eq_some_iff.mp he).1
  exact wpAny_mono (wpAny_getItem_list (Q := fun r s' => r = w ∧ s' = s) pl.isList h0 (by omega) (by simpa using ew) ⟨rfl, rfl⟩) (fun r s' e => by obtain ⟨rfl, rfl⟩ := e; exact ⟨z, H, I, rw', q⟩) fun _ _ z => z
theorem rd_augS {to ti te : TE} {tget : V → V → Hp → VK → Prop} {tip : TIp} {tset : TSet} {D : Ends} {σ : L2.St} {H : Hp} (h : to σ H fun o H1 => ti σ H1 fun i H2 => tget o i H2 fun x H3 => te σ H3 fun y H4 => tip x y H4 fun z H5 => tset o i z H5 fun H6 => D.nx σ H6) : tAugS to ti te tget tip tset D σ H := h
/-- d.setdefault(k, v), its reading -/
theorem rd_dsetd {td ty tx : TE} {σ : L2.St} {H : Hp} {Q : VK} (h : td σ H fun x H1 => ∃ a, x = .ref a ∧ IsD H1 a ∧ ty σ H1 fun y H2 => tx σ H2 fun z H3 => ∃ (kvs : List (L2.Key × V)) (k : L2.Key), H3 a = some (.dK kvs) ∧ y = kV k ∧ kvs.length < sizeLine ∧
  (∀ v, valV kvs k = some v → Q v H3) ∧ (valV kvs k = none → Q z (upd H3 a (.dK (putK kvs k z))))) : tDSetd td ty tx σ H Q := h
end AT

set_option Elab.async false
set_option linter.all false
set_option maxRecDepth 100000
set_option maxHeartbeats 4000000
/-! own words, twelfth part: dicts whose keys are truth values; setdefault -/
namespace AT
open PySem PySem.Spec PyProof.Rows L2
/-- a dict whose keys are truth values -/
def dB (P : Program) (w : World) (a : Addr) (kvs : List (Bool × V)) : HO := .ext fun h => kvs.length ≤ sizeLine ∧ (a == sysModules) = false ∧ ∃ vs, KV kvs vs ∧ h.DictOf (PpSet.boolK P w) a vs
section
variable {P : Program} {w : World} {H : Hp} {h : Heap} {a : Addr} {kvs : List (Bool × V)}
theorem dB_ok {vs : List (Bool × Value)} (z : kvs.length ≤ sizeLine) (hd : (a == sysModules) = false) (rel : KV kvs vs) (dd : h.DictOf (PpSet.boolK P w) a vs) : ObjOk P w H h a (dB P w a kvs) := by
  have he : ∃ q, h.get? a = some q := let ⟨q, _, _, hq, _⟩ := dd; ⟨q, hq⟩
  exact ⟨⟨z, hd, vs, rel, dd⟩, he, fun h1 h2 x k => by
    obtain ⟨z, y, vs, r, ob, es, ep, e, c⟩ := x
    exact ⟨z, y, vs, r, ob, es, ep, k _ e, c⟩⟩
theorem dB_rd (ok : HOk P w H h) (e : Rd H a (dB P w a kvs)) : kvs.length ≤ sizeLine ∧ (a == sysModules) = false ∧ ∃ vs, KV kvs vs ∧ h.DictOf (PpSet.boolK P w) a vs :=
  (show ObjOk P w H h a (dB P w a kvs) from rd_of ok e).1
theorem dB_of (ok : HOk P w H h) (e : H a = some (dB P w a kvs)) : kvs.length ≤ sizeLine ∧ (a == sysModules) = false ∧ ∃ vs, KV kvs vs ∧ h.DictOf (PpSet.boolK P w) a vs := dB_rd ok (.inl e)
theorem bl_is {k : Bool} {u : Value} (r : RelV (.bl k) u) : (PpSet.boolK P w).is k u = true := by
  obtain rfl : u = Value.bool k := r
  exact PpSet.boolK_is P w k
end
section
variable {X : Cx} {pins : List (Addr × Obj)} {σ : L2.St} {H : Hp} {s : Shared} {a : Addr} {u r : Value} {d : V} {k : Bool} {A : Around} {E : Value → Shared → Prop}
theorem d_setdB {kvs : List (Bool × V)} {Q : Value → Shared → Prop} (I : Inv X pins σ H s) (e : H a = some (dB X.prog X.w a kvs)) (ry : RelV (.bl k) u) (rd : RelV d r) (hl : kvs.length < sizeLine)
    (h1 : ∀ v, valV kvs k = some v → ∀ (w' : Value) (s' : Shared), Inv X pins σ H s' → RelV v w' → Q w' s') (h2 : valV kvs k = none → ∀ (w' : Value) (s' : Shared), Inv X pins σ (upd H a (dB X.prog X.w a (putK kvs k d))) s' → RelV d w' → Q w' s') :
    wpAny (model X.prog X.w) A (call (.builtin "dict.setdefault") [.ref a, u, r]) Q E s := by
  obtain ⟨z, hd, vs, rel, dd⟩ := dB_of I.hok e
  have hz : vs.length ≤ sizeLine := by
    rw [← rel.length]
    exact z
  refine call_meetsIn PySem.F.slot_dict_setdefault dd.typeIs PySem.F.entry_dict_setdefault (PySem.F.args_dict_setdefault_3 _ _ _) (kt_meets_setdefault (PpSet.boolK X.prog X.w) a (bl_is ry) hd r) ⟨vs, dd, hz, fun v hv => ?_, fun hn h' dd' hs => ?_⟩
  · have q := rel.val k
    rw [hv] at q
    cases q0 : valV kvs k with
    | none =>
      rw [q0] at q
      exact (show False from q).elim
    | some v0 =>
      rw [q0] at q
      exact h1 v0 q0 _ _ (I.tok _) q
  · have q := rel.val k
    rw [hn] at q
    cases q0 : valV kvs k with
    | some v0 =>
      rw [q0] at q
      exact (show False from q).elim
    | none =>
      have hl2 : (putK kvs k d).length ≤ sizeLine := by
        have := length_putK kvs k d
        omega
      have he : ∃ q, h'.get? a = some q := let ⟨q, _, _, hq, _⟩ := dd'; ⟨q, hq⟩
      exact h2 q0 _ _ (d_write (t' := s.toks + 1) I (by rw [e]; exact True.intro) hs he (dB_ok hl2 hd (rel.put k rd) dd')) rd
end
def tDNewB (P : Program) (w : World) : TE := fun _ H Q => ∀ p, H p = none → Q (.ref p) (upd H p (dB P w p []))
def tDSetdB (P : Program) (w : World) (td ty tx : TE) : TE := fun σ H Q => td σ H fun x H1 => (∃ a kvs, x = .ref a ∧ H1 a = some (dB P w a kvs)) ∧ ty σ H1 fun y H2 => tx σ H2 fun z H3 => ∃ (a : Addr) (kvs : List (Bool × V)) (k : Bool), x = .ref a ∧ H3 a = some (dB P w a kvs) ∧ y = .bl k ∧ kvs.length < sizeLine ∧
  (∀ v, valV kvs k = some v → Q v H3) ∧ (valV kvs k = none → Q z (upd H3 a (dB P w a (putK kvs k z))))
def tDGetB (P : Program) (w : World) (td ty : TE) : TE := fun σ H Q => td σ H fun x H1 => ty σ H1 fun y H2 => ∃ (a : Addr) (kvs : List (Bool × V)) (k : Bool) (v : V), x = .ref a ∧ Rd H2 a (dB P w a kvs) ∧ y = .bl k ∧ valV kvs k = some v ∧ Q v H2
section
variable {X : Cx} {o e f i : Expr} {td ty tx : TE} {apos cpos pos : Pos} (P : Program) (w : World) (hP : X.prog = P := by rfl) (hw : X.w = w := by rfl)
include hP hw
theorem pe_dnewB : PE X (.Dict [] [] pos) (tDNewB P w) := by
  subst hP hw
  exact ⟨fun pins s σ H Q I h =>
    wpAny_Dict_empty ⟨.ref s.heap.objs.size, _, I.laid (a := s.heap.objs.size) (o := dB X.prog X.w s.heap.objs.size []) (t' := s.toks) (fun _ _ q => Heap.get?_push_of_some _ q) (Nat.le_refl _)
      (dB_ok (Nat.zero_le _) (beq_eq_false_iff_ne.mpr (Ne.symm (Nat.ne_of_lt I.big))) .nil (Heap.DictOf.new s.heap)), rfl, h _ (I.hok.fresh (Nat.le_refl _))⟩⟩
theorem pe_dsetdB (ho : PE X o td) (he : PE X e ty) (hf : PE X f tx) (m : M2 X o "setdefault" apos e f cpos) : PE X (.Call (.Attribute o "setdefault" apos) [e, f] [] cpos) (tDSetdB P w td ty tx) := by
  subst hP hw
  refine ⟨fun pins s σ H Q I h => ?_⟩
  refine wpAny_Call_method m.base m.few m.line PySem.F.plainAttrs_dict PySem.F.slot_dict_setdefault PySem.F.type_dict_setdefault (thn (ho.run pins s σ H _ I h) fun u s1 ⟨x, H1, I1, rx, ⟨a, kvs0, ex, ea0⟩, q1⟩ => ?_)
  subst ex
  obtain rfl : u = Value.ref a := rx
  obtain ⟨_, _, vs, _, dd⟩ := dB_of I1.hok ea0
  refine ⟨dd.typeIs, dd.mapOf.noDict, ?_⟩
  rw [m.trees]
  refine Calls.callWith_builtin rfl (Calls.evalArgs_plain (Calls.spliced_cons (thn (he.run pins s1 σ H1 _ I1 q1) fun iv s2 ⟨y, H2, I2, ry, q2⟩ =>
    Calls.spliced_cons (thn (hf.run pins s2 σ H2 _ I2 q2) fun fv s3 ⟨z, H3, I3, rz, a', kvs, k, ex2, ea, ey, hl, q3, q4⟩ => Calls.spliced_nil ?_))))
  cases ex2
  subst ey
  exact d_setdB I3 ea ry rz hl (fun v hv w' s4 I4 rw' => ⟨v, _, I4, rw', q3 v hv⟩) fun hn w' s4 I4 rw' => ⟨z, _, I4, rw', q4 hn⟩
theorem pe_dgetB (ho : PE X o td) (hi : PE X i ty) (hs : NoSl i) : PE X (.Subscript o i pos) (tDGetB P w td ty) := by
  subst hP hw
  refine ⟨fun pins s σ H Q I h => ?_⟩
  refine subD_of PySem.F.slot_dict_getitem.lookup hs (thn (ho.run pins s σ H _ I h) fun u s1 ⟨x, H1, I1, rx, q1⟩ => thn (hi.run pins s1 σ H1 _ I1 q1) fun iv s2 ⟨y, H2, I2, ry, a, kvs, k, v, ex, g, ey, hv, q2⟩ => ?_)
  subst ex ey
  obtain rfl : u = Value.ref a := rx
  obtain ⟨z, hd, vs, rel, dd⟩ := dB_rd I2.hok g
  obtain ⟨w', hw, rw'⟩ := RelO.some_of (v := v) (o := valueAt vs k) (by rw [← hv]; exact rel.val k)
  exact ⟨dd.typeIs, wpAny_getItem_of (bl_is ry) dd.mapOf hw ⟨v, H2, I2.tok _, rw', q2⟩⟩
end
/-! the keys of a locked dict -/
section
variable {X : Cx} {pins : List (Addr × Obj)} {σ : L2.St} {H : Hp} {s : Shared} {d : Addr} {o : Obj}
theorem frzB {kvs : List (Bool × V)} (I : Inv X pins σ H s) (h : H d = some (.frz o (dB X.prog X.w d kvs))) :
    (d == sysModules) = false ∧ s.heap.get? d = some o ∧ o.ExactDict ∧ ∃ (es : Array DictEntry) (ep : Nat) (vs : List (Bool × Value)), o.data = .dict es ep ∧ es.size = kvs.length ∧ KV kvs vs ∧ s.heap.DictAt (PpSet.boolK X.prog X.w) d vs ep := by
  obtain ⟨hd, ⟨z, hs, vs, kv, o', es, ep, ho, hx, hdt, r⟩, _⟩ := I.hok d _ h
  rw [hd] at ho
  cases ho
  refine ⟨hs, hd, hx, es, ep, vs, hdt, ?_, kv, o, es, hd, hx, hdt, r⟩
  have l1 := r.2.1.length
  have l2 : kvs.length = vs.length := Paired.length kv
  rw [Array.length_toList] at l1
  omega
end
def Itb (P : Program) (w : World) (d : Addr) (o : Obj) (kvs : List (Bool × V)) : It :=
  ⟨fun i H => H d = some (.frz o (dB P w d kvs)) ∧ i < kvs.length, fun i H x H' => H' = H ∧ ∃ k v, kvs[i]? = some (k, v) ∧ x = .bl k, fun i H => H d = some (.frz o (dB P w d kvs)) ∧ kvs.length ≤ i⟩
theorem kvB_get {kvs : List (Bool × V)} {vs : List (Bool × Value)} (r : KV kvs vs) {i : Nat} {k : Bool} {v : V} (h : kvs[i]? = some (k, v)) : ∃ u, vs[i]? = some (k, u) ∧ RelV v u := by
  unfold KV at r
  induction r generalizing i with
  | nil => simp at h
  | @cons p q ps qs h1 t ih =>
    cases i with
    | zero =>
      simp only [List.getElem?_cons_zero, Option.some.injEq] at h
      subst h
      obtain ⟨h1, h2⟩ := h1
      exact ⟨q.2, by simp only [List.getElem?_cons_zero, Option.some.injEq]; exact Prod.ext h1.symm rfl, h2⟩
    | succ i =>
      simp only [List.getElem?_cons_succ] at h ⊢
      exact ih h
section
variable {P : Program} {w : World} {K : PySem.W.Frag} {tg : Expr} {d : Addr} {o : Obj} {es : Array DictEntry} {ep : Nat}
theorem turn_keysB {kvs : List (Bool × V)} (it : Addr) (hod : o.data = .dict es ep) : Turn P w K tg (Itb P w d o kvs) [it] it (fun i h => h.IsKeyIter it d i kvs.length ep) where
  mem := by simp
  obj := fun i h st b hb => by
    have e : b = it := by simpa using hb
    subst e
    obtain ⟨oi, e, c, dd⟩ := st
    exact ⟨oi, e, fun v z => by rw [dd] at z; cases z⟩
  keep := fun i h h' st k => st.at fun oi e => k it (by simp) oi e
  item := by
    intro X hP hw hK hc i pins s σ H E I hf st hg
    subst hP hw hK
    obtain ⟨hd, hi⟩ := hg
    obtain ⟨f0, f1, f2, f3, f4, f5⟩ := hf it (by simp)
    obtain ⟨hs, hgd, hx, es', ep', vs, hdt, hsz, kv, hm⟩ := frzB I hd
    obtain ⟨rfl, rfl⟩ := dict_ep hod hdt
    obtain ⟨⟨k, v⟩, hkv⟩ : ∃ p, kvs[i]? = some p := ⟨kvs[i], List.getElem?_eq_getElem hi⟩
    obtain ⟨u, hu, ru⟩ := kvB_get kv hkv
    have hl : kvs.length = vs.length := Paired.length kv
    rw [hl] at st
    refine wpAny_pyNext_dict_item st hm hu fun key h' hkey st' sb => ?_
    have I1 : Inv X pins σ H { s with heap := h' } := I.turned (t' := s.toks) (fun b ob hb e => (sb.2 b hb).trans e) f0 f1 f3 f4 f5
    obtain ⟨oi, e, c, dd⟩ := id st'
    refine ⟨key, rfl, go_of (s := { s with heap := h' }) e c dd (by decide) ⟨.bl k, H, I1, PpSet.isB_shape hkey, ⟨rfl, k, v, hkv, rfl⟩, ?_, fun b hb => (hf b hb).1⟩⟩
    show h'.IsKeyIter it d (i + 1) kvs.length _
    rw [hl]
    exact st'
  done := by
    intro X hP hw hK hc i pins s σ H E I hf st hg
    subst hP hw hK
    obtain ⟨hd, hi⟩ := hg
    obtain ⟨f0, f1, f2, f3, f4, f5⟩ := hf it (by simp)
    obtain ⟨hs, hgd, hx, es', ep', vs, hdt, hsz, kv, hm⟩ := frzB I hd
    obtain ⟨rfl, rfl⟩ := dict_ep hod hdt
    exact next_key_end (I.ok.hd hc) st hgd hdt hsz hi fun h' eb => ⟨rfl, I.turned (t' := s.toks) (fun b ob hb e => eb b ob hb e) f0 f1 f3 f4 f5⟩
  self := fun A i s Q E st h => wpAny_pyIter_keyiter st h
end
def iKeysB (P : Program) (w : World) (td : TE) : TI := fun σ H R => td σ H fun x H1 => ∃ d o kvs, x = .ref d ∧ H1 d = some (.frz o (dB P w d kvs)) ∧ R (Itb P w d o kvs) H1
theorem pi_keysB {X : Cx} {tg e : Expr} {td : TE} (P : Program) (w : World) (hP : X.prog = P) (hw : X.w = w) (he : PE X e td) : PI X tg e (iKeysB P w td) := by
  subst hP hw
  refine ⟨fun pins s σ H R I h => ?_⟩
  refine thn (he.run pins s σ H _ I h) fun u s1 ⟨x, H1, I1, rx, d, o, kvs, ex, hd, q⟩ => ?_
  subst ex
  obtain rfl : u = Value.ref d := rx
  obtain ⟨hs, hgd, hx, es, ep, vs, hdt, hsz, kv, hm⟩ := frzB I1 hd
  refine iter_keys hs hgd hx hdt (pi_one (tk := s1.toks) I1 _ (turn_keysB _ hdt) ⟨_, Heap.get?_push_size _ rfl, rfl, ?_⟩ q)
  rw [hsz] <;> rfl
theorem walk_keysB {P : Program} {w : World} {d : Addr} {o : Obj} {kvs : List (Bool × V)} : Walk (Itb P w d o kvs) kvs.length (fun H => H d = some (.frz o (dB P w d kvs))) (fun i H x H' => H' = H ∧ ∃ k v, kvs[i]? = some (k, v) ∧ x = .bl k) :=
  ⟨fun _ _ hi q => ⟨q, hi⟩, fun _ q => ⟨q, Nat.le_refl _⟩, fun _ _ _ _ _ _ y => y⟩
/-! reading -/
section
variable {K : PySem.W.Frag} {σ : L2.St} {H : Hp} {Q : VK} {td ty tx : TE} {P : Program} {w : World}
theorem rd_dsetdB (h : td σ H fun x H1 => (∃ a kvs, x = .ref a ∧ H1 a = some (dB P w a kvs)) ∧ ty σ H1 fun y H2 => tx σ H2 fun z H3 => ∃ (a : Addr) (kvs : List (Bool × V)) (k : Bool), x = .ref a ∧ H3 a = some (dB P w a kvs) ∧ y = .bl k ∧ kvs.length < sizeLine ∧
  (∀ v, valV kvs k = some v → Q v H3) ∧ (valV kvs k = none → Q z (upd H3 a (dB P w a (putK kvs k z))))) : tDSetdB P w td ty tx σ H Q := h
theorem rd_dgetB (h : td σ H fun x H1 => ty σ H1 fun y H2 => ∃ (a : Addr) (kvs : List (Bool × V)) (k : Bool) (v : V), x = .ref a ∧ Rd H2 a (dB P w a kvs) ∧ y = .bl k ∧ valV kvs k = some v ∧ Q v H2) : tDGetB P w td ty σ H Q := h
theorem rd_dnB (h : ∀ p, H p = none → Q (.ref p) (upd H p (dB P w p []))) : tDNewB P w σ H Q := h
end
end AT

set_option Elab.async false
set_option linter.all false
set_option maxRecDepth 100000
set_option maxHeartbeats 4000000
/-! own words, thirteenth part: a tuple, several times or once; sorted ints; list of a dict -/
namespace AT
open PySem PySem.Spec PyProof.Rows L2
theorem tuple_mul1 (l : Addr) (items : Array Value) (n : Nat) (dd : Option Addr) (sl : Array (Option Value)) (u : Tok) (c1 : items.isEmpty = false) :
    Meets (Builtin.«tuple.__mul__» ⟨[.ref l, .int 1 u], []⟩) (fun _ R s => s.heap.get? l = some { cls := .type "tuple", dict := dd, data := .seq items n, slots := sl } ∧ R (.ok (.ret (Value.ref l))) s) :=
  .of_wp fun prog w A R s h => by
    obtain ⟨hp, g, d, tk, os⟩ := s
    obtain ⟨hl, h⟩ := h
    have f1 := AutoSeq1.idx_int
    have c0 : (decide ((1 : Int) < -(2 ^ 63)) || decide ((1 : Int) ≥ 2 ^ 63)) = false := by decide
    have c2 : (items.isEmpty || (1 : Int) == 1) = true := by rw [c1]; rfl
    wp_walk using wpAny_loadPart' hl
    exact ⟨_, rfl, h⟩
/-- a tuple, once -/
def rRepT1 (K : PySem.W.Frag) : R2 := fun x y H Q => ∃ l xs, x = .ref l ∧ y = .int 1 ∧ SqT K H l xs ∧ xs ≠ [] ∧ Q (.ref l) H
section
variable {X : Cx}
theorem op_repT1 : OpR X (binaryOp .Mult) (rRepT1 X.K) := by
  intro pins s σ H x y v u Q I rx ry h
  obtain ⟨l, xs, rfl, rfl, hT, hne, q⟩ := h
  cases rx
  obtain ⟨t, rfl⟩ := ry
  obtain ⟨its, r, ⟨⟨cls, dd, data, sl⟩, ho, hc, n, hd⟩, hs⟩ := I.tuple hT
  simp only at hc hd
  subst hc hd
  have hle : its.length = xs.length := r.length.symm
  have hn : its ≠ [] := fun e => hne (by
    rw [e] at hle
    exact List.eq_nil_of_length_eq_zero hle.symm)
  have hi : its.toArray.isEmpty = false := by
    cases its with
    | nil => exact absurd rfl hn
    | cons a b => rfl
  refine wpAny_binaryOp_repeat_ref (T := "tuple") (U := "int") (by decide) ⟨_, ho, rfl⟩ (fun s' => typeIs_int s' 1 t) noFill_tuple_mul F.fills_int_mul F.slot_int_rmul repeat_tuple F.slot_int_index.lookup
    (call_meets F.slot_int_rmul (typeIs_int s 1 t) F.entry_int_rmul (F.args_int_rmul_2 _ _) (int_rmul_tuple 1 t l its.toArray n dd sl)
      ⟨ho, rfl, ⟨_, ho, rfl⟩, call_meets F.slot_tuple_mul ⟨_, ho, rfl⟩ F.entry_tuple_mul (F.args_tuple_mul_2 _ _) (tuple_mul1 l its.toArray n dd sl t hi) ⟨ho, ?_⟩⟩)
  exact ⟨.ref l, H, I, rfl, q⟩
end
/-- a tuple, several times or once -/
def oMulT (K : PySem.W.Frag) : R2 := fun x y H Q => rRepT K x y H Q ∨ rRepT1 K x y H Q
section
variable {X : Cx} (K : PySem.W.Frag) (hK : X.K = K := by rfl)
include hK
theorem kMulT : OpR X (binaryOp .Mult) (oMulT K) := hK ▸ OpR.or op_repT op_repT1
theorem kIndex : MtR X "list.index" (rIndex K) := hK ▸ mt_index
theorem kIsi : CallR X (.builtin "isinstance") (rIsi K) := hK ▸ call_isi
theorem kSortI : CallR X (.builtin "sorted") (rSortedI K) := hK ▸ cr_sortedI
end
section
variable {K : PySem.W.Frag} {H : Hp} {Q : VK}
theorem rd_isiL {a : Addr} {xs : List V} (h : H a = some (.lst xs)) (q : Q (.bl true) H) : rIsi K [.ref a, .ty "list"] H Q := ⟨_, _, _, _, true, rfl, .ty _, .base (.lst h), kit_ty (by decide +kernel), q⟩
theorem rd_lidx {a : Addr} {l : List Nat} {x : Nat} (h : SqL K H a (l.map fun n : Nat => V.int (n : Int))) (hx : x ∈ l) (q : Q (.int ((l.idxOf x : Nat) : Int)) H) : rIndex K (.ref a) [.int (x : Int)] H Q := by
  have hlt := List.idxOf_lt_length_iff.mpr hx
  have hg : l[l.idxOf x]? = some x := by rw [List.getElem?_eq_getElem hlt, List.getElem_idxOf hlt]
  refine ⟨a, _, .int (x : Int), l.idxOf x, .int (x : Int), rfl, rfl, h, rfl, List.all_eq_true.mpr fun y hy => ?_, by rw [List.getElem?_map, hg]; rfl, beq_self_eq_true _, fun m z' hm hz => ?_, q⟩
  · obtain ⟨n, _, rfl⟩ := List.mem_map.mp hy
    rfl
  · rw [List.getElem?_map] at hz
    obtain ⟨n, hn, rfl⟩ := Option.map_eq_some_iff.mp hz
    show (((n : Nat) : Int) == ((x : Nat) : Int)) = false
    refine beq_eq_false_iff_ne.mpr fun e => ?_
    have e : n = x := by omega
    have := List.not_of_lt_findIdx (p := (· == x)) (xs := l) hm
    obtain ⟨h1, h2⟩ := List.getElem?_eq_some_iff.mp hn
    rw [h2, e] at this
    simp at this
/-- (v,) * k -/
theorem rd_tupk {l : Addr} {v : V} {k : Nat} (h : H l = some (.tup [v])) (k0 : 0 < k) (k1 : k ≤ 1000) (q : ∀ p H', Ex H H' → H' p = some (.tup (List.replicate k v)) → (H p = none ∨ p = l) → Q (.ref p) H') : oMulT K (.ref l) (.int (k : Int)) H Q := by
  rcases Nat.lt_or_ge 1 k with z | z
  · refine .inl ⟨l, (k : Int), [v], rfl, rfl, Evl.st_of h, (fun z => nomatch z), by omega, by omega, by show 1 ≤ 1000; decide, fun p hp => ?_⟩
    have e : (List.replicate ((k : Int)).toNat [v]).flatten = List.replicate k v := by
      rw [Int.toNat_natCast, List.flatten_replicate_singleton]
    rw [e]
    exact q p _ (Evl.Ex.new hp) upd_same (.inl hp)
  · obtain rfl : k = 1 := by omega
    exact .inr ⟨l, [v], rfl, rfl, Evl.st_of h, (fun z => nomatch z), q l H (Evl.Ex.refl H) h (.inr rfl)⟩
theorem rd_catT {l m : Addr} {xs : List V} {v : V} (h1 : H l = some (.tup xs)) (h2 : H m = some (.tup [v])) (hx : xs ≠ []) (c : xs.length + 1 ≤ sizeLine) (h : ∀ p, H p = none → Q (.ref p) (upd H p (.tup (xs ++ [v])))) : oAdd K (.ref l) (.ref m) H Q :=
  .inr (.inr (.inr ⟨l, m, xs, [v], rfl, rfl, Evl.st_of h1, Evl.st_of h2, hx, c, fun z => (nomatch z), fun _ => h⟩))
end
end AT

set_option Elab.async false
set_option linter.all false
set_option maxRecDepth 100000
set_option maxHeartbeats 4000000
/-! own words, fourteenth part: dicts whose keys are tuples that may hold tuples -/
namespace AT
open PySem PySem.Spec PyProof.Rows L2
mutual
/-- v is this key, by what is tracked -/
inductive NV : Hp → NestedKey → V → Prop
  | non {H : Hp} : NV H .none .non
  | int {H : Hp} (i : Int) : NV H (.num i) (.int i)
  | str {H : Hp} (x : Str) : NV H (.text x) (.str x)
  | tup {H : Hp} {b : Addr} {vs : List V} {ks : List NestedKey} : H b = some (.tup vs) → NVs H ks vs → NV H (.tup ks) (.ref b)
inductive NVs : Hp → List NestedKey → List V → Prop
  | nil {H : Hp} : NVs H [] []
  | cons {H : Hp} {k : NestedKey} {v : V} {ks : List NestedKey} {vs : List V} : NV H k v → NVs H ks vs → NVs H (k :: ks) (v :: vs)
end
mutual
theorem NV.ex {H H' : Hp} (e : ∀ b xs, H b = some (.tup xs) → H' b = some (.tup xs)) {k : NestedKey} {v : V} : NV H k v → NV H' k v
  | .non => .non
  | .int i => .int i
  | .str x => .str x
  | .tup h r => .tup (e _ _ h) (NVs.ex e r)
theorem NVs.ex {H H' : Hp} (e : ∀ b xs, H b = some (.tup xs) → H' b = some (.tup xs)) {ks : List NestedKey} {vs : List V} : NVs H ks vs → NVs H' ks vs
  | .nil => .nil
  | .cons h r => .cons (NV.ex e h) (NVs.ex e r)
end
mutual
theorem NV.is {P : Program} {w : World} {H : Hp} {h : Heap} (ok : HOk P w H h) {k : NestedKey} {v : V} {u : Value} : NV H k v → RelV v u → NestedIs h k u
  | .non, r => by
    obtain rfl : u = Value.none := r
    exact .none
  | .int i, r => by
    obtain ⟨t, rfl⟩ : ∃ t, u = Value.int i t := r
    exact .int i t
  | .str x, r => by
    obtain ⟨t, rfl⟩ : ∃ t, u = Value.str x t := r
    exact .text x t
  | .tup (b := b) (vs := vs) hb q, r => by
    obtain rfl : u = Value.ref b := r
    obtain ⟨_, its, rel, o, h1, h2, n, h3⟩ := (show ObjOk P w H h b (.tup vs) from ok b _ hb)
    exact .tup h1 h2 h3 (by rw [List.toList_toArray]; exact NVs.is ok q rel)
theorem NVs.is {P : Program} {w : World} {H : Hp} {h : Heap} (ok : HOk P w H h) {ks : List NestedKey} {vs : List V} {us : List Value} : NVs H ks vs → Vals vs us → NestedAll h ks us
  | .nil, r => by
    cases r
    exact .nil
  | .cons q qs, r => by
    cases r with
    | cons r1 r2 => exact .cons (NV.is ok q r1) (NVs.is ok qs r2)
end
section
variable {X : Cx}
theorem PC.or {op : CmpOp} {a b : Expr} {t t' : TE} (h : PC X op a b t) (h' : PC X op a b t') : PC X op a b fun σ H Q => t σ H Q ∨ t' σ H Q :=
  ⟨fun pins s σ H Q I q => q.elim (h.run pins s σ H Q I) (h'.run pins s σ H Q I)⟩
theorem PS.or {st : Stmt} {t t' : TS} (h : PS X st t) (h' : PS X st t') : PS X st fun D σ H => t D σ H ∨ t' D σ H :=
  ⟨fun pins s σ H D I q => q.elim (h.run pins s σ H D I) (h'.run pins s σ H D I)⟩
end
end AT

set_option Elab.async false
set_option linter.all false
set_option maxRecDepth 100000
set_option maxHeartbeats 4000000
/-! own words, fifteenth part: dicts whose keys are None, numbers and tuples together -/
namespace AT
open PySem PySem.Spec PyProof.Rows L2
abbrev KVV := List (NestedKey × Value × Value)
def entV (w : World) (x : NestedKey × Value × Value) : DictEntry := { hash := NestedKey.hash w x.1, key := x.2.1, val := x.2.2 }
/-- no text: the finding of texts goes another way -/
def NoStr (v : Value) : Prop := ∀ x t, v ≠ .str x t
structure KeyVl (h : Heap) (k : NestedKey) (v : Value) : Prop where
  is : NestedIs h k v
  d : k.depth ≤ 8
  n : NoStr v
def DictV (w : World) (h : Heap) (d : Addr) (xs : KVV) : Prop := ∃ o es ep, h.get? d = some o ∧ o.ExactDict ∧ o.data = .dict es ep ∧ es.toList = xs.map (entV w) ∧ (xs.map (·.1)).Nodup
section
variable {P : Program} {w : World} {A : Around} {E : Value → Shared → Prop} {s : Shared}
theorem entV_at {es : Array DictEntry} {xs : KVV} (he : es.toList = xs.map (entV w)) (j : Nat) : es[j]? = xs[j]?.map (entV w) := by
  rw [← Array.getElem?_toList, he, List.getElem?_map]
theorem idV_unique {xs : KVV} (hn : (xs.map (·.1)).Nodup) {i j : Nat} {k : NestedKey} {p q : Value × Value} (hi : xs[i]? = some (k, p)) (hj : xs[j]? = some (k, q)) : i = j := by
  have l1 := (List.getElem?_eq_some_iff.mp hi).1
  refine (List.getElem?_inj (l := xs.map (·.1)) (by rw [List.length_map]; exact l1) hn).mp ?_
  rw [List.getElem?_map, List.getElem?_map, hi, hj]
  rfl
theorem eqV {x y : NestedKey} {a b : Value} {Q : Bool → Shared → Prop} (hx : KeyVl s.heap x a) (hy : KeyVl s.heap y b) (hu : A.units + 8 < cLine) (q : Q (decide (x = y)) s) : wpAny (model P w) A (eqBool a b) Q E s := by
  have h1 := hx.d
  have h2 := hy.d
  exact eqAt_key x y A s _ _ hx.is hy.is (by omega) _ _ _ _ (by rw [← NestedKey.decide_eq]; exact q)
theorem tellV {k : NestedKey} {key : Value} {stored : List Value} {Q : Bool → Shared → Prop} (hk : KeyVl s.heap k key) (hst : ∀ v ∈ stored, ∃ k', KeyVl s.heap k' v) (q : Q false s) : wpAny (model P w) A (tableMayTell key stored) Q E s := by
  unfold tableMayTell
  split
  · exact wpAny_pure q
  · refine wpAny_bind (quiet_key k key 8 s hk.is hk.d A E _ ?_)
    simp only [Bool.not_true, Bool.false_eq_true, if_false]
    refine wpAny_bind ?_
    refine wpAny_forIn_list _ (fun rest r s' => s' = s ∧ r = (none, ()) ∧ ∀ v ∈ rest, ∃ k', KeyVl s.heap k' v) _ ?_ ?_ _ _ ⟨rfl, rfl, hst⟩
    · rintro x rest r s' ⟨rfl, rfl, hr⟩
      obtain ⟨k', hb⟩ := hr x List.mem_cons_self
      refine wpAny_bind (quiet_key k' x 8 s' hb.is hb.d A E _ ?_)
      simp only [Bool.not_true, Bool.false_eq_true, if_false]
      exact wpAny_pure ⟨rfl, rfl, fun v hv => hr v (List.mem_cons_of_mem _ hv)⟩
    · rintro r s' ⟨rfl, rfl, _⟩
      exact wpAny_pure q
/-- found so far -/
def FndV (xs : KVV) (k : NestedKey) (i : Nat) (hit : Option Nat) : Prop := (hit = none ∧ ∀ (j : Nat) p, j < i → xs[j]? ≠ some (k, p)) ∨ ∃ (j : Nat) (p : Value × Value), hit = some j ∧ j < i ∧ xs[j]? = some (k, p)
section
variable {d : Addr} {o : Obj} {es : Array DictEntry} {ep : Nat} {xs : KVV} {k : NestedKey} {key : Value} {Q : Option Nat → Shared → Prop}
abbrev plV (w : World) (es : Array DictEntry) (k : NestedKey) (i : Nat) : List Nat := (List.range' i (es.size - i)).filter fun i => (es[i]?.map (·.hash)) == some (NestedKey.hash w k)
theorem hasV (he : es.toList = xs.map (entV w)) {j : Nat} {p : Value × Value} (hj : xs[j]? = some (k, p)) : ((es[j]?.map (·.hash)) == some (NestedKey.hash w k)) = true := by
  rw [entV_at he j, hj]
  simp [entV]
/-- the next place of this hash -/
theorem nextV (he : es.toList = xs.map (entV w)) {i x : Nat} {rest : List Nat} {hit : Option Nat} (hr : x :: rest = plV w es k i) (hi : i ≤ es.size) (F : FndV xs k i hit) :
    x < es.size ∧ rest = plV w es k (x + 1) ∧ FndV xs k x hit ∧ ∃ k' u v, xs[x]? = some (k', u, v) ∧ es[x]? = some ⟨NestedKey.hash w k', u, v⟩ ∧ (k' ≠ k → FndV xs k (x + 1) hit) := by
  obtain ⟨hix, hxn, hpx, hskip, hrest⟩ := filter_range'_cons _ _ _ _ _ hr.symm
  have hlt : x < es.size := by omega
  have hsz : es.size = xs.length := by rw [← Array.length_toList, he, List.length_map]
  obtain ⟨⟨k', u, v⟩, hkv⟩ : ∃ y, xs[x]? = some y := ⟨xs[x]'(by rw [← hsz]; exact hlt), List.getElem?_eq_getElem _⟩
  have Fx : FndV xs k x hit := by
    rcases F with ⟨h0, hno⟩ | ⟨j, p, h1, hji, hj⟩
    · refine .inl ⟨h0, fun j p hjx hj => ?_⟩
      rcases Nat.lt_or_ge j i with h | h
      · exact hno j p h hj
      · have := hskip j h hjx
        rw [hasV he hj] at this
        cases this
    · exact .inr ⟨j, p, h1, by omega, hj⟩
  refine ⟨hlt, by rw [hrest]; show _ = List.filter _ _; congr 2; omega, Fx, k', u, v, hkv, by rw [entV_at he x, hkv]; rfl, fun ne => ?_⟩
  rcases Fx with ⟨h0, hno⟩ | ⟨j, p, h1, hjx, hj⟩
  · refine .inl ⟨h0, fun j p hjx hj => ?_⟩
    rcases Nat.lt_or_ge j x with h | h
    · exact hno j p h hj
    · obtain rfl : j = x := by omega
      rw [hkv] at hj
      exact ne (congrArg (fun z : NestedKey × Value × Value => z.1) (Option.some.inj hj))
  · exact .inr ⟨j, p, h1, by omega, hj⟩
theorem doneV (he : es.toList = xs.map (entV w)) {i : Nat} {hit : Option Nat} (hr : [] = plV w es k i) (F : FndV xs k i hit)
    (hnone : (∀ (j : Nat) p, xs[j]? ≠ some (k, p)) → Q none s) (hsome : ∀ (j : Nat) p, xs[j]? = some (k, p) → Q (some j) s) : Q hit s := by
  have hsz : es.size = xs.length := by rw [← Array.length_toList, he, List.length_map]
  rcases F with ⟨rfl, hno⟩ | ⟨j, p, rfl, _, hj⟩
  · refine hnone fun j p hj => ?_
    rcases Nat.lt_or_ge j i with h | h
    · exact hno j p h hj
    · have hl := (List.getElem?_eq_some_iff.mp hj).1
      have := List.filter_eq_nil_iff.mp hr.symm j (List.mem_range'_1.mpr ⟨h, by omega⟩)
      exact this (hasV he hj)
  · exact hsome j p hj
theorem walkV (hu : A.units + 8 < cLine) (hkey : KeyVl s.heap k key) (ho : s.heap.get? d = some o) (hd : o.data = .dict es ep) (he : es.toList = xs.map (entV w)) (his : ∀ x ∈ xs, KeyVl s.heap x.1 x.2.1) (hn : (xs.map (·.1)).Nodup)
    (hnone : (∀ (j : Nat) p, xs[j]? ≠ some (k, p)) → Q none s) (hsome : ∀ (j : Nat) p, xs[j]? = some (k, p) → Q (some j) s) :
    wpAny (model P w) A (dictWalkPlain d key (NestedKey.hash w k) es (placesWithHash es.size (fun i => es[i]?.map (·.hash)) (NestedKey.hash w k))) Q E s := by
  unfold dictWalkPlain
  refine wpAny_bind ?_
  refine wpAny_forIn_list _ (fun rest b s' => s' = s ∧ b = (none, ()) ∧ ∃ i, rest = plV w es k i ∧ i ≤ es.size ∧ FndV xs k i none) _ ?_ ?_ _ _
    ⟨rfl, rfl, 0, by rw [placesWithHash, List.range_eq_range', plV, Nat.sub_zero], Nat.zero_le _, .inl ⟨rfl, fun _ _ h => absurd h (Nat.not_lt_zero _)⟩⟩
  · rintro x rest b s' ⟨rfl, rfl, i, hr, hi, F⟩
    obtain ⟨hlt, hrest, Fx, k', u, v, hkv, hex, hstay⟩ := nextV he hr hi F
    have hib := his _ (List.mem_of_getElem? hkv)
    rw [hex]
    dsimp only
    by_cases hh : (NestedKey.hash w k' == NestedKey.hash w k) = true
    · rw [if_pos hh]
      refine wpAny_bind (wpAny_dictEpoch ho hd (wpAny_bind (eqV (x := k') (y := k) hib hkey hu (wpAny_bind (wpAny_dictEpoch ho hd ?_)))))
      show wpAny _ _ (if (ep != ep) = true then _ else _) _ E _
      rw [if_neg (by simp)]
      by_cases hkk : k' = k
      · rw [decide_eq_true hkk]
        subst hkk
        show wpAny _ _ (if true = true then _ else _) _ E _
        rw [if_pos rfl]
        exact wpAny_bind (wpAny_rule (wpAny_pure (wpAny_pure (hsome x _ hkv))))
      · rw [decide_eq_false hkk]
        show wpAny _ _ (if false = true then _ else _) _ E _
        rw [if_neg (by decide)]
        exact wpAny_bind (wpAny_rule (wpAny_pure ⟨rfl, rfl, x + 1, hrest, hlt, hstay hkk⟩))
    · rw [if_neg hh]
      refine wpAny_pure ⟨rfl, rfl, x + 1, hrest, hlt, hstay fun e => ?_⟩
      rw [e] at hh; simp at hh
  · rintro b s' ⟨rfl, rfl, i, hr, hi, F⟩
    exact wpAny_pure (doneV he hr F hnone hsome)
theorem wpIte {α : Type} {M : Model} {c : Prop} [Decidable c] {a b : Sem α} {Q : α → Shared → Prop} (h1 : c → wpAny M A a Q E s) (h2 : ¬ c → wpAny M A b Q E s) : wpAny M A (if c then a else b) Q E s := by
  by_cases h : c
  · rw [if_pos h]; exact h1 h
  · rw [if_neg h]; exact h2 h
theorem findV (hu : A.units + 8 < cLine) (hkey : KeyVl s.heap k key) (ho : s.heap.get? d = some o) (hd : o.data = .dict es ep) (he : es.toList = xs.map (entV w)) (his : ∀ x ∈ xs, KeyVl s.heap x.1 x.2.1) (hn : (xs.map (·.1)).Nodup)
    (hnone : (∀ (j : Nat) p, xs[j]? ≠ some (k, p)) → Q none s) (hsome : ∀ (j : Nat) p, xs[j]? = some (k, p) → Q (some j) s) :
    wpAny (model P w) A (dictFind d key (NestedKey.hash w k)) Q E s := by
  have hmem : ∀ e ∈ es, ∃ x ∈ xs, e = entV w x := by
    intro e hin
    have : e ∈ xs.map (entV w) := he ▸ Array.mem_toList_iff.mpr hin
    obtain ⟨x, hx, rfl⟩ := List.mem_map.mp this
    exact ⟨x, hx, rfl⟩
  have hany : ∀ a, key = .ref a → ¬ (es.any fun e => e.key == Value.ref a && e.hash != NestedKey.hash w k) = true := by
    rintro a rfl
    rw [← Array.any_toList, List.any_eq_true]
    rintro ⟨e, hin, hc⟩
    obtain ⟨x, hx, rfl⟩ := hmem e (Array.mem_toList_iff.mp hin)
    simp only [entV, Bool.and_eq_true, beq_iff_eq, bne_iff_ne, ne_eq] at hc
    obtain ⟨hxa, hne⟩ := hc
    have := (his x hx).is
    rw [hxa] at this
    exact hne (by rw [NestedIs.inj _ _ _ this hkey.is])
  have hst : ∀ v ∈ (placesWithHash es.size (fun i => es[i]?.map (·.hash)) (NestedKey.hash w k)).filterMap (fun i => es[i]?.map (·.key)), ∃ k', KeyVl s.heap k' v := by
    intro v hv
    obtain ⟨i, _, hi⟩ := List.mem_filterMap.mp hv
    cases hei : es[i]? with
    | none => rw [hei] at hi; cases hi
    | some e =>
      rw [hei] at hi
      obtain rfl : e.key = v := by simpa using hi
      obtain ⟨x, hx, rfl⟩ := hmem e (Array.mem_of_getElem? hei)
      exact ⟨x.1, his x hx⟩
  have hW := walkV (P := P) (E := E) (Q := Q) hu hkey ho hd he his hn hnone hsome
  by_cases hr : ∃ a, key = .ref a
  · obtain ⟨a, rfl⟩ := hr
    unfold dictFind
    try with_reducible refine wpAny_holding ?_
    refine wpAny_bind (wpAny_dictEntries ho hd ?_)
    dsimp only
    rw [if_neg (show ¬ ((Value.ref a :: (placesWithHash es.size (fun i => es[i]?.map (·.hash)) (NestedKey.hash w k)).filterMap (fun i => es[i]?.map (·.key))).all carriedByValue) = true by simp [carriedByValue])]
    rw [if_neg (hany a rfl)]
    clear hW
    by_cases hone : (((placesWithHash es.size (fun i => es[i]?.map (·.hash)) (NestedKey.hash w k)).filterMap (fun i => es[i]?.map (·.key))) == [Value.ref a]) = true <;>
    (first | rw [if_pos hone] | rw [if_neg hone]) <;> (first | refine wpAny_bind (wpAny_pure ?_) | refine wpAny_bind (tellV hkey hst ?_)) <;> (
    rw [if_neg (by simp)]
    refine wpAny_bind ?_
    refine wpAny_forIn_list _ (fun rest b s' => s' = s ∧ ∃ i hit, b = (none, hit) ∧ rest = plV w es k i ∧ i ≤ es.size ∧ FndV xs k i hit) _ ?_ ?_ _ _
      ⟨rfl, 0, none, rfl, by rw [placesWithHash, List.range_eq_range', plV, Nat.sub_zero], Nat.zero_le _, .inl ⟨rfl, fun _ _ h => absurd h (Nat.not_lt_zero _)⟩⟩
    · rintro x rest b s' ⟨rfl, i, hit, rfl, hr, hi, F⟩
      obtain ⟨hlt, hrest, Fx, k', u, v, hkv, hex, hstay⟩ := nextV he hr hi F
      have hib := his _ (List.mem_of_getElem? hkv)
      rw [hex]
      dsimp only
      by_cases hh : (NestedKey.hash w k' == NestedKey.hash w k) = true
      · rw [if_pos hh]
        refine wpAny_bind (wpAny_dictEpoch ho hd (wpAny_bind (eqV (x := k') (y := k) hib hkey hu (wpAny_bind (wpAny_dictEpoch ho hd ?_)))))
        show wpAny _ _ (if (ep != ep) = true then _ else _) _ E _
        rw [if_neg (by simp)]
        by_cases hkk : k' = k
        · rw [decide_eq_true hkk]
          subst hkk
          rcases Fx with ⟨rfl, _⟩ | ⟨j, p, _, hjx, hj⟩
          · first | rw [if_pos rfl] | skip
            simp only [Option.isSome_none, Bool.false_eq_true, if_false]
            first | refine wpAny_bind (wpAny_pure ?_) | skip
            refine wpAny_bind (wpAny_rule ?_)
            split
            · exact wpAny_pure (wpAny_pure (hsome x _ hkv))
            · exact wpAny_pure ⟨rfl, x + 1, some x, rfl, hrest, hlt, .inr ⟨x, _, rfl, Nat.lt_succ_self x, hkv⟩⟩
          · exact absurd (idV_unique hn hj hkv) (by omega)
        · rw [decide_eq_false hkk]
          simp only [Bool.false_eq_true, if_false]
          refine wpAny_bind (wpAny_rule ?_)
          first | rw [if_neg (by simp)] | skip
          first
            | exact wpAny_pure ⟨rfl, x + 1, hit, rfl, hrest, hlt, hstay hkk⟩
            | exact wpAny_bind (wpAny_pure (wpAny_pure ⟨rfl, x + 1, hit, rfl, hrest, hlt, hstay hkk⟩))
      · rw [if_neg hh]
        refine wpAny_pure ⟨rfl, x + 1, hit, rfl, hrest, hlt, hstay fun e => ?_⟩
        rw [e] at hh; simp at hh
    · rintro b s' ⟨rfl, i, hit, rfl, hr, hi, F⟩
      exact wpAny_pure (doneV he hr F hnone hsome))
  · by_cases hall : ((key :: (placesWithHash es.size (fun i => es[i]?.map (·.hash)) (NestedKey.hash w k)).filterMap (fun i => es[i]?.map (·.key))).all carriedByValue) = true
    · unfold dictFind
      try with_reducible refine wpAny_holding ?_
      refine wpAny_bind (wpAny_dictEntries ho hd ?_)
      cases key with
      | str x t => exact absurd rfl (hkey.n x t)
      | ref a => exact absurd ⟨a, rfl⟩ hr
      | _ =>
        dsimp only
        rw [if_pos hall]
        exact hW
    · clear hW
      unfold dictFind
      try with_reducible refine wpAny_holding ?_
      refine wpAny_bind (wpAny_dictEntries ho hd ?_)
      cases key with
      | str x t => exact absurd rfl (hkey.n x t)
      | ref a => exact absurd ⟨a, rfl⟩ hr
      | _ =>
        dsimp only
        rw [if_neg hall]
        refine wpIte (fun _ => wpAny_bind (wpAny_pure ?_)) (fun _ => wpAny_bind (tellV hkey hst ?_)) <;> (
    rw [if_neg (by simp)]
    refine wpAny_bind ?_
    refine wpAny_forIn_list _ (fun rest b s' => s' = s ∧ ∃ i hit, b = (none, hit) ∧ rest = plV w es k i ∧ i ≤ es.size ∧ FndV xs k i hit) _ ?_ ?_ _ _
      ⟨rfl, 0, none, rfl, by rw [placesWithHash, List.range_eq_range', plV, Nat.sub_zero], Nat.zero_le _, .inl ⟨rfl, fun _ _ h => absurd h (Nat.not_lt_zero _)⟩⟩
    · rintro x rest b s' ⟨rfl, i, hit, rfl, hr, hi, F⟩
      obtain ⟨hlt, hrest, Fx, k', u, v, hkv, hex, hstay⟩ := nextV he hr hi F
      have hib := his _ (List.mem_of_getElem? hkv)
      rw [hex]
      dsimp only
      by_cases hh : (NestedKey.hash w k' == NestedKey.hash w k) = true
      · rw [if_pos hh]
        refine wpAny_bind (wpAny_dictEpoch ho hd (wpAny_bind (eqV (x := k') (y := k) hib hkey hu (wpAny_bind (wpAny_dictEpoch ho hd ?_)))))
        show wpAny _ _ (if (ep != ep) = true then _ else _) _ E _
        rw [if_neg (by simp)]
        by_cases hkk : k' = k
        · rw [decide_eq_true hkk]
          subst hkk
          rcases Fx with ⟨rfl, _⟩ | ⟨j, p, _, hjx, hj⟩
          · first | rw [if_pos rfl] | skip
            simp only [Option.isSome_none, Bool.false_eq_true, if_false]
            first | refine wpAny_bind (wpAny_pure ?_) | skip
            refine wpAny_bind (wpAny_rule ?_)
            split
            · exact wpAny_pure (wpAny_pure (hsome x _ hkv))
            · exact wpAny_pure ⟨rfl, x + 1, some x, rfl, hrest, hlt, .inr ⟨x, _, rfl, Nat.lt_succ_self x, hkv⟩⟩
          · exact absurd (idV_unique hn hj hkv) (by omega)
        · rw [decide_eq_false hkk]
          simp only [Bool.false_eq_true, if_false]
          refine wpAny_bind (wpAny_rule ?_)
          first | rw [if_neg (by simp)] | skip
          first
            | exact wpAny_pure ⟨rfl, x + 1, hit, rfl, hrest, hlt, hstay hkk⟩
            | exact wpAny_bind (wpAny_pure (wpAny_pure ⟨rfl, x + 1, hit, rfl, hrest, hlt, hstay hkk⟩))
      · rw [if_neg hh]
        refine wpAny_pure ⟨rfl, x + 1, hit, rfl, hrest, hlt, hstay fun e => ?_⟩
        rw [e] at hh; simp at hh
    · rintro b s' ⟨rfl, i, hit, rfl, hr, hi, F⟩
      exact wpAny_pure (doneV he hr F hnone hsome))
end
end
section
variable {P : Program} {w : World} {A : Around} {E : Value → Shared → Prop} {s : Shared} {d : Addr} {xs : KVV} {k : NestedKey} {key : Value}
def atV (xs : KVV) (k : NestedKey) : Option (Value × Value) := (xs.find? fun x => decide (x.1 = k)).map (·.2)
theorem atV_none (h : ∀ (j : Nat) p, xs[j]? ≠ some (k, p)) : atV xs k = none := by
  have : (xs.find? fun x => decide (x.1 = k)) = none := by
    rw [List.find?_eq_none]
    intro x hx hk
    obtain ⟨j, hj⟩ := List.mem_iff_getElem?.mp hx
    exact h j x.2 (by rw [hj, ← of_decide_eq_true hk])
  rw [atV, this]; rfl
theorem atV_some (hn : (xs.map (·.1)).Nodup) {j : Nat} {p : Value × Value} (h : xs[j]? = some (k, p)) : atV xs k = some p := by
  obtain ⟨x, hx⟩ : ∃ x, (xs.find? fun x => decide (x.1 = k)) = some x := by
    cases e : xs.find? fun x => decide (x.1 = k) with
    | some x => exact ⟨x, rfl⟩
    | none => exact absurd (decide_eq_true rfl) (List.find?_eq_none.mp e _ (List.mem_of_getElem? h))
  have h0 := List.find?_some hx
  have h1 : x.1 = k := of_decide_eq_true h0
  obtain ⟨i, hi⟩ := List.mem_iff_getElem?.mp (List.mem_of_find?_eq_some hx)
  obtain ⟨x1, x2⟩ := x
  obtain rfl : x1 = k := h1
  have e := idV_unique hn hi h
  rw [e, h] at hi
  rw [atV, hx]
  exact congrArg (fun z : NestedKey × Value × Value => some z.2) (Option.some.inj hi).symm
theorem atV_out (h : atV xs k = none) : ∀ (j : Nat) p, xs[j]? ≠ some (k, p) := fun j p hj => by
  have h' : (xs.find? fun x => decide (x.1 = k)) = none := by
    cases e : xs.find? fun x => decide (x.1 = k) with
    | none => rfl
    | some x => rw [atV, e] at h; cases h
  exact List.find?_eq_none.mp h' _ (List.mem_of_getElem? hj) (decide_eq_true rfl)
theorem DictV.typeIs (hm : DictV w s.heap d xs) : s.TypeIs (.ref d) "dict" := let ⟨o, _, _, ho, hc, _⟩ := hm; ⟨o, ho, hc.1⟩
theorem getV_ {Q : Option Value → Shared → Prop} (hu : A.units + 8 < cLine) (hkey : KeyVl s.heap k key) (hm : DictV w s.heap d xs) (his : ∀ x ∈ xs, KeyVl s.heap x.1 x.2.1)
    (h : Q ((atV xs k).map (·.2)) { s with toks := s.toks + k.draws }) : wpAny (model P w) A (dictGet d key) Q E s := by
  obtain ⟨o, es, ep, ho, _, hd, he, hn⟩ := hm
  have hdp := hkey.d
  unfold dictGet
  try with_reducible refine wpAny_holding ?_
  refine wpAny_bind (pyHash_key k key A s _ hkey.is (by omega) (wpAny_bind (findV (s := { s with toks := s.toks + k.draws }) hu hkey ho hd he his hn ?_ ?_)))
  · intro hno
    rw [atV_none hno] at h
    exact wpAny_pure h
  · intro j p hj
    rw [atV_some hn hj] at h
    refine wpAny_bind (wpAny_dictEntries (s := { s with toks := s.toks + k.draws }) ho hd ?_)
    rw [entV_at he j, hj]
    exact wpAny_pure h
/-- d[k] = v, k new -/
theorem setV_ {v : Value} {Q : Unit → Shared → Prop} (hu : A.units + 8 < cLine) (hkey : KeyVl s.heap k key) (hm : DictV w s.heap d xs) (his : ∀ x ∈ xs, KeyVl s.heap x.1 x.2.1) (hno : atV xs k = none)
    (hQ : ∀ h', DictV w h' d (xs ++ [(k, key, v)]) → Heap.SameBut d s.heap h' → Q () { s with heap := h', toks := s.toks + k.draws })
    (hsz : xs.length ≤ sizeLine) : wpAny (model P w) A (dictSet d key v) Q E s := by
  obtain ⟨o, es, ep, ho, hc, hd, he, hn⟩ := hm
  have hdp := hkey.d
  have hsize : es.size = xs.length := by rw [← Array.length_toList, he, List.length_map]
  have hno := atV_out hno
  unfold dictSet
  try with_reducible refine wpAny_holding ?_
  refine wpAny_bind (pyHash_key k key A s _ hkey.is (by omega) ?_)
  unfold dictSetHashed
  try with_reducible refine wpAny_holding ?_
  refine wpAny_bind (findV (s := { s with toks := s.toks + k.draws }) hu hkey ho hd he his hn ?_ ?_)
  · intro _
    refine wpAny_bind (wpAny_rule (wpAny_updateDictKeys (hz := by omega) (s := { s with toks := s.toks + k.draws }) ho hd (hQ _ ⟨_, _, ep + 1, Heap.get?_update_self _ ho (Obj.isFreed_of_dict (Obj.data_mapDictKeys hd _)),
      hc.mapDictKeys _, Obj.data_mapDictKeys hd _, ?_, ?_⟩ (Heap.SameBut.update ..))))
    · simp [he, entV]
    · rw [List.map_append, List.nodup_append]
      refine ⟨hn, by simp, ?_⟩
      intro x hx y hy
      simp only [List.map_cons, List.map_nil, List.mem_singleton] at hy
      subst hy
      rintro rfl
      obtain ⟨p, hp, rfl⟩ := List.mem_map.mp hx
      obtain ⟨j, hj⟩ := List.mem_iff_getElem?.mp hp
      exact hno j p.2 (by rw [hj])
  · intro j p hj
    exact absurd hj (hno j p)
theorem getItemV {v : Value} {Q : Value → Shared → Prop} (hu : A.units + 9 < cLine) (hkey : KeyVl s.heap k key) (hm : DictV w s.heap d xs) (his : ∀ x ∈ xs, KeyVl s.heap x.1 x.2.1) (hp : (atV xs k).map (·.2) = some v)
    (h : Q v { s with toks := s.toks + k.draws }) : wpAny (model P w) A (getItem (.ref d) key) Q E s := by
  have hu1 : A.in1.units + 8 < cLine := by show A.units + 1 + 8 < cLine; omega
  unfold getItem
  try with_reducible refine wpAny_holding ?_
  refine wpAny_bind (wpAny_sequenceKey hm.typeIs (by decide) ?_)
  refine wpAny_bind (wpAny_callSpecial?_slot (name := Str.ofString "__getitem__") hm.typeIs slot_dict_getitem
    (wpAny_call_entry slot_dict_getitem hm.typeIs entry_dict_getitem ?_ (args_dict_getitem _ _)))
  show wpAny _ _ (dictGet d key >>= _) _ _ s
  refine wpAny_bind (getV_ hu1 hkey hm his ?_)
  rw [hp]
  exact wpAny_pure ⟨v, rfl, wpAny_pure h⟩
theorem containsV {Q : Bool → Shared → Prop} (hu : A.units + 9 < cLine) (hkey : KeyVl s.heap k key) (hd : (d == sysModules) = false) (hm : DictV w s.heap d xs) (his : ∀ x ∈ xs, KeyVl s.heap x.1 x.2.1)
    (h : Q (atV xs k).isSome { s with toks := s.toks + k.draws }) : wpAny (model P w) A (contains (.ref d) key) Q E s := by
  have hu1 : A.in1.units + 8 < cLine := by show A.units + 1 + 8 < cLine; omega
  unfold contains
  try with_reducible refine wpAny_holding ?_
  refine wpAny_bind (wpAny_specialOf hm.typeIs slot_dict_contains.lookup ?_)
  show wpAny _ _ (if (some (Value.builtin "dict.__contains__") == some Value.none) = true then _ else _) _ E s
  rw [if_neg (by rw [beq_builtin_none]; exact Bool.false_ne_true)]
  refine wpAny_bind (wpAny_callSpecialUnlessNone?_slot (name := Str.ofString "__contains__") hm.typeIs slot_dict_contains
    (wpAny_call_entry slot_dict_contains hm.typeIs entry_dict_contains ?_ (args_dict_contains _ _)))
  show wpAny _ _ (dictGet d key >>= _) _ _ s
  refine wpAny_bind (getV_ hu1 hkey hm his ?_)
  cases hf : atV xs k with
  | some p =>
    rw [hf] at h
    show wpAny _ _ (ret (.bool true)) _ _ _
    exact wpAny_pure ⟨_, rfl, wpAny_truthy_bool h⟩
  | none =>
    rw [hf] at h
    show wpAny _ _ (Builtin.Dict.pendingKey? d key >>= _) _ _ _
    exact wpAny_bind (wpAny_pendingKey_other hd (wpAny_pure ⟨_, rfl, wpAny_truthy_bool h⟩))
theorem notInV {Q : Value → Shared → Prop} (hu : A.units + 9 < cLine) (hkey : KeyVl s.heap k key) (hd : (d == sysModules) = false) (hm : DictV w s.heap d xs) (his : ∀ x ∈ xs, KeyVl s.heap x.1 x.2.1)
    (h : Q (.bool (!(atV xs k).isSome)) { s with toks := s.toks + k.draws }) : wpAny (model P w) A (compareOp .NotIn key (.ref d)) Q E s := by
  show wpAny _ _ (do return .bool (!(← contains (.ref d) key))) Q E s
  exact wpAny_bind (containsV hu hkey hd hm his (wpAny_pure h))
theorem setItemV {v : Value} {Q : Unit → Shared → Prop} (hu : A.units + 9 < cLine) (hkey : KeyVl s.heap k key) (hm : DictV w s.heap d xs) (his : ∀ x ∈ xs, KeyVl s.heap x.1 x.2.1) (hno : atV xs k = none)
    (hQ : ∀ h', DictV w h' d (xs ++ [(k, key, v)]) → Heap.SameBut d s.heap h' → Q () { s with heap := h', toks := s.toks + k.draws }) (hsz : xs.length ≤ sizeLine) :
    wpAny (model P w) A (setItem (.ref d) key v) Q E s := by
  have hu1 : A.in1.units + 8 < cLine := by show A.units + 1 + 8 < cLine; omega
  unfold setItem
  try with_reducible refine wpAny_holding ?_
  refine wpAny_bind (wpAny_sequenceKey hm.typeIs (by decide) ?_)
  refine wpAny_bind (wpAny_callSpecial?_slot (name := Str.ofString "__setitem__") hm.typeIs slot_dict_setitem
    (wpAny_call_entry slot_dict_setitem hm.typeIs entry_dict_setitem ?_ (args_dict_setitem _ _ _)))
  show wpAny _ _ (Builtin.Dict.notOrdered "__setitem__" ⟨[.ref d, key, v], []⟩ >>= _) _ _ s
  refine wpAny_bind (wpAny_notOrdered_dict hm.typeIs ?_)
  show wpAny _ _ (dictSet d key v >>= _) _ _ s
  exact wpAny_bind (setV_ hu1 hkey hm his hno (fun h' hm' hs' => wpAny_pure ⟨.none, rfl, wpAny_pure (hQ h' hm' hs')⟩) hsz)
end
/-! the object, by what is tracked -/
/-- v is the key k -/
structure KyN (H : Hp) (k : NestedKey) (v : V) : Prop where
  nv : NV H k v
  d : k.depth ≤ 8
  n : ∀ x, v ≠ .str x
theorem KyN.ex {H H' : Hp} {k : NestedKey} {v : V} (h : KyN H k v) (e : ∀ b xs, H b = some (.tup xs) → H' b = some (.tup xs)) : KyN H' k v := ⟨h.nv.ex e, h.d, h.n⟩
theorem KyN.is {P : Program} {w : World} {H : Hp} {h : Heap} {k : NestedKey} {v : V} {u : Value} (q : KyN H k v) (ok : HOk P w H h) (r : RelV v u) : KeyVl h k u := by
  refine ⟨q.nv.is ok r, q.d, fun x t e => ?_⟩
  subst e
  have hv := q.nv
  have hn := q.n
  cases hv with
  | non => cases (show Value.str x t = Value.none from r)
  | int i =>
    obtain ⟨t', e⟩ : ∃ t', Value.str x t = Value.int i t' := r
    cases e
  | str y => exact hn y rfl
  | tup h1 h2 => cases (show Value.str x t = Value.ref _ from r)
abbrev KA := List (NestedKey × V × V)
def KX (kvs : KA) (xs : KVV) : Prop := Paired (fun p q => p.1 = q.1 ∧ RelV p.2.1 q.2.1 ∧ RelV p.2.2 q.2.2) kvs xs
/-- a dict whose keys are None, numbers, tuples that may hold tuples -/
def dN (w : World) (a : Addr) (kvs : KA) : HO := .ext fun h => kvs.length ≤ sizeLine ∧ (a == sysModules) = false ∧ ∃ xs, KX kvs xs ∧ DictV w h a xs
def KsN (H : Hp) (kvs : KA) : Prop := ∀ p ∈ kvs, KyN H p.1 p.2.1
theorem KsN.ex {H H' : Hp} {kvs : KA} (h : KsN H kvs) (e : ∀ b xs, H b = some (.tup xs) → H' b = some (.tup xs)) : KsN H' kvs := fun p hp => (h p hp).ex e
def valN : KA → NestedKey → Option V
  | [], _ => none
  | p :: kvs, k => if p.1 = k then some p.2.2 else valN kvs k
section
variable {P : Program} {w : World} {H : Hp} {h : Heap} {a : Addr} {kvs : KA}
theorem KX.val {xs : KVV} (r : KX kvs xs) (k : NestedKey) : RelO (valN kvs k) ((atV xs k).map (·.2)) := by
  induction r with
  | nil => exact True.intro
  | @cons p q ps qs hq t ih =>
    obtain ⟨h1, h2, h3⟩ := hq
    unfold valN
    by_cases e : p.1 = k
    · rw [if_pos e]
      have e2 : q.1 = k := by rw [← h1]; exact e
      have : atV (q :: qs) k = some q.2 := by simp [atV, e2]
      rw [this]
      exact h3
    · rw [if_neg e]
      have e2 : ¬ q.1 = k := by rw [← h1]; exact e
      have : atV (q :: qs) k = atV qs k := by simp [atV, e2]
      rw [this]
      exact ih
theorem KX.mem {xs : KVV} (r : KX kvs xs) (ks : KsN H kvs) (ok : HOk P w H h) : ∀ x ∈ xs, KeyVl h x.1 x.2.1 := by
  unfold KsN at ks
  induction r with
  | nil => intro x hx; cases hx
  | @cons p q ps qs hq t ih =>
    intro x hx
    rcases List.mem_cons.mp hx with e | hx
    · rw [e, ← hq.1]
      exact (ks p List.mem_cons_self).is ok hq.2.1
    · exact ih (fun y hy => ks y (List.mem_cons_of_mem _ hy)) x hx
theorem dN_of (ok : HOk P w H h) (e : H a = some (dN w a kvs)) (ks : KsN H kvs) : kvs.length ≤ sizeLine ∧ (a == sysModules) = false ∧ ∃ xs, KX kvs xs ∧ DictV w h a xs ∧ ∀ x ∈ xs, KeyVl h x.1 x.2.1 := by
  obtain ⟨z, y, xs, r, dd⟩ := (show ObjOk P w H h a (dN w a kvs) from ok a _ e).1
  exact ⟨z, y, xs, r, dd, r.mem ks ok⟩
theorem dN_ok {xs : KVV} (z : kvs.length ≤ sizeLine) (hd : (a == sysModules) = false) (r : KX kvs xs) (dd : DictV w h a xs) : ObjOk P w H h a (dN w a kvs) := by
  refine ⟨⟨z, hd, xs, r, dd⟩, let ⟨o, _, _, h1, _⟩ := dd; ⟨o, h1⟩, fun g1 g2 x k => ?_⟩
  obtain ⟨z, y, xs, r, o, es, ep, h1, h2, h3, h4, h5⟩ := x
  exact ⟨z, y, xs, r, o, es, ep, k _ h1, h2, h3, h4, h5⟩
theorem dN_new {h : Heap} (hb : sysModules < h.objs.size) : ObjOk P w H (h.push { cls := .type "dict", data := .dict #[] }) h.objs.size (dN w h.objs.size []) := by
  obtain ⟨o, es, ep, h1, h2, h3, h4, _, h5⟩ := Heap.DictOfH.new (knd := nestedKind P w) h
  exact dN_ok (Nat.zero_le _) (beq_eq_false_iff_ne.mpr (Ne.symm (Nat.ne_of_lt hb))) .nil ⟨o, es, ep, h1, h2, h3, by rw [h4]; rfl, h5⟩
end
/-- what is asked of the dict and of the key -/
def AtN (w : World) (H : Hp) (a : Addr) (kvs : KA) (y : V) (k : NestedKey) : Prop := H a = some (dN w a kvs) ∧ KsN H kvs ∧ KyN H k y
/-- in a dict of ints, texts, flat tuples, or of keys of any kind -/
def DGX (w : World) (H : Hp) (a : Addr) (y : V) (r : Option V) : Prop := DGet H a y r ∨ ∃ kvs k, AtN w H a kvs y k ∧ r = valN kvs k
def DPX (w : World) (H : Hp) (a : Addr) (y v : V) (H' : Hp) : Prop := DPut H a y v H' ∨ ∃ kvs k, AtN w H a kvs y k ∧ valN kvs k = none ∧ kvs.length < sizeLine ∧ H' = upd H a (dN w a (kvs ++ [(k, y, v)]))
def tDGetX (w : World) (td ty : TE) : TE := fun σ H Q => td σ H fun x H1 => ty σ H1 fun y H2 => ∃ a v, x = .ref a ∧ DGX w H2 a y (some v) ∧ Q v H2
def tDNotInX (w : World) (ty td : TE) : TE := fun σ H Q => ty σ H fun y H1 => td σ H1 fun x H2 => ∃ a o, x = .ref a ∧ DGX w H2 a y o ∧ Q (.bl (!o.isSome)) H2
def sDPutX (w : World) (td ty tv : TE) : TS := fun D σ H => tv σ H fun v H1 => td σ H1 fun x H2 => ty σ H2 fun y H3 => ∃ a H4, x = .ref a ∧ DPX w H3 a y v H4 ∧ D.nx σ H4
/-- {k: v}, k a tuple -/
def tDisp1N (w : World) (tk tv : TE) : TE := fun σ H Q => ∀ p, H p = none → tk σ (upd H p (dN w p [])) fun x H1 => tv σ H1 fun y H2 => H2 p = some (dN w p []) ∧ ∃ (b : Addr) (k : NestedKey), x = .ref b ∧ KyN H2 k (.ref b) ∧ Q (.ref p) (upd H2 p (dN w p [(k, .ref b, y)]))
def tDNewN (w : World) : TE := fun _ H Q => ∀ p, H p = none → Q (.ref p) (upd H p (dN w p []))
section
variable {X : Cx} {i o e value k v : Expr} {pos pos' : Pos} {td ty tv tk : TE} (w : World) (hw : X.w = w := by rfl)
include hw
theorem pe_dgetX (hu : X.A.units + 40 < cLine) (ho : PE X o td) (hi : PE X i ty) (hs : NoSl i) : PE X (.Subscript o i pos) (tDGetX w td ty) := by
  subst hw
  refine ⟨fun pins s σ H Q I h => ?_⟩
  refine subD_of PySem.F.slot_dict_getitem.lookup hs (thn (ho.run pins s σ H _ I h) fun u s1 ⟨x, H1, I1, rx, q1⟩ => thn (hi.run pins s1 σ H1 _ I1 q1) fun iv s2 ⟨y, H2, I2, ry, a, v, ex, g, q2⟩ => ?_)
  subst ex
  obtain rfl : u = Value.ref a := rx
  rcases g with g | ⟨kvs, k, ⟨e, ks, kb⟩, hv⟩
  · exact ⟨dict_typeIs I2 g, d_getItem (by omega) I2 g ry fun w' s3 I3 rw' => ⟨v, H2, I3, rw', q2⟩⟩
  obtain ⟨z, hd, xs, rel, dd, his⟩ := dN_of I2.hok e ks
  obtain ⟨w', hw, rw'⟩ := RelO.some_of (v := v) (o := (atV xs k).map (·.2)) (by rw [hv]; exact rel.val k)
  exact ⟨dd.typeIs, getItemV (by omega) (kb.is I2.hok ry) dd his hw ⟨v, H2, I2.tok _, rw', q2⟩⟩
theorem pc_dnotinX (hu : X.A.units + 40 < cLine) (hi : PE X i ty) (ho : PE X o td) : PC X .NotIn i o (tDNotInX w ty td) := by
  subst hw
  refine ⟨fun pins s σ H Q I h => ?_⟩
  refine thn (hi.run pins s σ H _ I h) fun iv s1 ⟨y, H1, I1, ry, q1⟩ => thn (ho.run pins s1 σ H1 _ I1 q1) fun u s2 ⟨x, H2, I2, rx, a, ov, ex, g, q2⟩ => ?_
  subst ex
  obtain rfl : u = Value.ref a := rx
  rcases g with g | ⟨kvs, k, ⟨e, ks, kb⟩, hv⟩
  · exact d_notIn (by omega) I2 g ry fun s3 I3 => ⟨.bl (!ov.isSome), H2, I3, rfl, q2⟩
  obtain ⟨z, hd, xs, rel, dd, his⟩ := dN_of I2.hok e ks
  refine notInV (by omega) (kb.is I2.hok ry) hd dd his ?_
  have q := (rel.val k).isSome_eq
  rw [Option.isSome_map, ← hv] at q
  rw [← q]
  exact ⟨.bl (!ov.isSome), H2, I2.tok _, rfl, q2⟩
theorem ps_dputX (hu : X.A.units + 40 < cLine) (ho : PE X o td) (hi : PE X i ty) (hv : PE X value tv) (hs : swapsWith value (some (.Subscript o i pos')) pos.line X.env = pure false) :
    PS X (.Assign [.Subscript o i pos'] value pos) (sDPutX w td ty tv) := by
  subst hw
  refine ⟨fun pins s σ H D I h => ?_⟩
  refine wpAny_Assign_Subscript (thn (hv.run pins s σ H _ I h) fun r s1 ⟨v, H1, I1, rv, q1⟩ => thn (ho.run pins s1 σ H1 _ I1 q1) fun u s2 ⟨x, H2, I2, rx, q2⟩ => thn (hi.run pins s2 σ H2 _ I2 q2) fun iv s3 ⟨y, H3, I3, ry, a, H4, ex, g, q3⟩ => ?_) hs
  subst ex
  obtain rfl : u = Value.ref a := rx
  rcases g with g | ⟨kvs, k, ⟨e, ks, kb⟩, hn, hl, rfl⟩
  · exact d_setItem (by omega) I3 g ry rv fun s4 I4 => ⟨σ, H4, I4, q3⟩
  obtain ⟨z, hd, xs, rel, dd, his⟩ := dN_of I3.hok e ks
  have hz : xs.length ≤ sizeLine := by rw [← Paired.length rel]; exact z
  have hl2 : (kvs ++ [(k, y, v)]).length ≤ sizeLine := by rw [List.length_append, List.length_singleton]; omega
  have q := (rel.val k).isSome_eq
  rw [hn, Option.isSome_map] at q
  have hno : atV xs k = none := by
    cases e : atV xs k with
    | none => rfl
    | some p => rw [e] at q; cases q
  refine setItemV (by omega) (kb.is I3.hok ry) dd his hno (fun h' dd' hs => ?_) hz
  have he : ∃ q, h'.get? a = some q := let ⟨q, _, _, hq, _⟩ := dd'; ⟨q, hq⟩
  exact ⟨σ, _, d_write I3 (by rw [e]; exact True.intro) hs he (dN_ok hl2 hd (Paired.snoc rel ⟨rfl, ry, rv⟩) dd'), q3⟩
theorem pe_dnewN : PE X (.Dict [] [] pos) (tDNewN w) := by
  subst hw
  exact ⟨fun pins s σ H Q I h =>
    wpAny_Dict_empty ⟨.ref s.heap.objs.size, _, I.laid (a := s.heap.objs.size) (o := dN X.w s.heap.objs.size []) (t' := s.toks) (fun _ _ q => Heap.get?_push_of_some _ q) (Nat.le_refl _) (dN_new I.big), rfl, h _ (I.hok.fresh (Nat.le_refl _))⟩⟩
theorem pe_disp1N (hu : X.A.units + 40 < cLine) (hk : PE X k tk) (hv : PE X v tv) : PE X (.Dict [some k] [v] pos) (tDisp1N w tk tv) := by
  subst hw
  refine ⟨fun pins s σ H Q I q => ?_⟩
  have hn := I.hok.fresh (Nat.le_refl s.heap.objs.size)
  have I1 := I.laid (a := s.heap.objs.size) (o := dN X.w s.heap.objs.size []) (t' := s.toks) (fun _ _ z => Heap.get?_push_of_some _ z) (Nat.le_refl _) (dN_new I.big)
  have hz := zip_pairTrees [some k] [v] X.env pos rfl rfl
  have hl : (pairTrees [some k] [v] X.env pos).length = 1 := pairTrees_length [some k] [v] X.env pos rfl rfl
  have hne : pairTrees [some k] [v] X.env pos ≠ [] := fun z => by rw [z] at hl; cases hl
  have room : (nestedKind X.prog X.w).room X.A := by show X.A.units + 8 < cLine; omega
  rw [arm_eval_Dict, hz, dictDisplay_pairs _ hne (by rw [hl]; decide)]
  refine wpAny_bind (wpAny_standAt (wpAny_bind ?_))
  refine wpAny_subDictH (knd := nestedKind X.prog X.w) room (by rw [hl]; decide) ?_
  refine pairTrees_cons_walk (thn (hk.run pins _ σ _ _ I1 (q _ hn)) fun u s1 ⟨x, H1, I1', rx, q1⟩ => thn (hv.run pins s1 σ H1 _ I1' q1) fun w2 s2 ⟨y, H2, I2, ry, q2⟩ => pairTrees_nil_walk ?_)
  obtain ⟨e, b, ks, rfl, kb, q3⟩ := q2
  cases (show u = Value.ref b from rx)
  obtain ⟨z, hd, xs0, r0, dd, _⟩ := dN_of I2.hok e (fun p hp => nomatch hp)
  cases r0
  have kb2 := kb.is I2.hok (u := .ref b) rfl
  obtain ⟨o0, es0, ep0, d1, d2, d3, d4, d5⟩ := dd
  refine ⟨[(ks, b, w2)], ⟨rfl, rfl, ⟨kb2.is, kb2.d⟩, True.intro⟩, ⟨o0, es0, ep0, d1, d2, d3, by rw [d4]; rfl, (fun x hx => nomatch hx), List.nodup_nil⟩, fun h' tk dd' hs => wpAny_pure ⟨.ref s.heap.objs.size, _, ?_, rfl, q3⟩⟩
  have e1 : storedAllH [] [(ks, b, w2)] = [(ks, b, w2)] := rfl
  rw [e1] at dd'
  obtain ⟨o, es, ep, ho, h2, h3, h4, h5, h6⟩ := dd'
  exact d_write I2 (by rw [e]; exact True.intro) hs ⟨o, ho⟩ (dN_ok (xs := [(ks, .ref b, w2)]) (by show 1 ≤ sizeLine; decide) hd (.cons ⟨rfl, (rfl : Value.ref b = Value.ref b), ry⟩ .nil) ⟨o, es, ep, ho, h2, h3, by rw [h4]; rfl, h6⟩)
end
section
variable {w : World} {σ : L2.St} {H : Hp} {Q : VK} {td ty tv tk : TE} {D : Ends}
theorem rd_dgetX (h : td σ H fun x H1 => ty σ H1 fun y H2 => ∃ a v, x = .ref a ∧ DGX w H2 a y (some v) ∧ Q v H2) : tDGetX w td ty σ H Q := h
theorem rd_dninX (h : ty σ H fun y H1 => td σ H1 fun x H2 => ∃ a o, x = .ref a ∧ DGX w H2 a y o ∧ Q (.bl (!o.isSome)) H2) : tDNotInX w ty td σ H Q := h
theorem rd_dputX (h : tv σ H fun v H1 => td σ H1 fun x H2 => ty σ H2 fun y H3 => ∃ a H4, x = .ref a ∧ DPX w H3 a y v H4 ∧ D.nx σ H4) : sDPutX w td ty tv D σ H := h
theorem rd_disp1N (h : ∀ p, H p = none → tk σ (upd H p (dN w p [])) fun x H1 => tv σ H1 fun y H2 => H2 p = some (dN w p []) ∧ ∃ (b : Addr) (k : NestedKey), x = .ref b ∧ KyN H2 k (.ref b) ∧ Q (.ref p) (upd H2 p (dN w p [(k, .ref b, y)]))) : tDisp1N w tk tv σ H Q := h
end
theorem hu40 {k : Nat} {A : Around} (r : Room k A) : A.units + 40 < cLine := by have := r.un; omega
end AT

set_option Elab.async false
set_option linter.all false
set_option maxRecDepth 100000
set_option maxHeartbeats 4000000
/-! own words, sixteenth part: nested defs with cells of their own; sets made of lists of numbers -/
namespace AT
open PySem PySem.Spec PyProof.Rows L2 LamX NdefX
/-! ### a def within a def, some of whose parameters are captured in their turn -/
theorem cellsFrom_acc (cl : List (Str × Addr)) : ∀ (names : List (Str × NameKind)) (n : Nat) (a : List (Str × Addr)), cellsFrom n names (a ++ cl) = cellsFrom n names a ++ cl
  | [], _, _ => rfl
  | (x, k) :: r, n, a => by
    unfold cellsFrom
    split
    · exact cellsFrom_acc cl r (n + 1) ((x, n) :: a)
    · exact cellsFrom_acc cl r n a
theorem cellsFrom_cl (cl : List (Str × Addr)) (names : List (Str × NameKind)) (n : Nat) : cellsFrom n names cl = cellsFrom n names [] ++ cl := cellsFrom_acc cl names n []
theorem cellsFrom_mem' : ∀ {names : List (Str × NameKind)} {n : Nat} {a : List (Str × Addr)} {p : Str × Addr}, p ∈ cellsFrom n names a → p ∈ a ∨ (p.1, NameKind.cell) ∈ names
  | [], _, _, _, h => .inl h
  | (x, k) :: r, n, a, p, h => by
    unfold cellsFrom at h
    split at h
    · rename_i hk
      rcases cellsFrom_mem' h with z | z
      · rcases List.mem_cons.mp z with z | z
        · right
          rw [z, show k = .cell from eq_of_beq hk]
          exact List.mem_cons_self
        · exact .inl z
      · exact .inr (List.mem_cons_of_mem _ z)
    · rcases cellsFrom_mem' h with z | z
      · exact .inl z
      · exact .inr (List.mem_cons_of_mem _ z)
section
variable {M : Model} {A : Around} {E : Value → Shared → Prop} {s₀ s : Shared} {m cm : Str → Option Value} {env : Env} {cs : List (Str × Addr)}
/-- a parameter stored: an own local, or a cell of cs -/
theorem st_par (x : InCallC s₀ env.locals m cs cm s) (hk : env.scope.kind = .function) {n : Str} {v : Value} {Q : Unit → Shared → Prop} (hl : env.kindOf n = some .local ∨ (env.kindOf n = some .cell ∧ ∃ c, env.cells.lookup n = some c ∧ cs.lookup n = some c))
    (h : ∀ s', InCallC s₀ env.locals (if env.kindOf n = some .local then fun y => if y = n then some v else m y else m) cs (if env.kindOf n = some .local then cm else fun y => if y = n then some v else cm y) s' → Q () s') : wpAny M A (storeName env n v) Q E s := by
  obtain ⟨x1, x2, x3, x4⟩ := id x
  rcases hl with hl | ⟨hl, c, hc, hc2⟩
  · rw [if_pos hl, if_pos hl] at h
    refine wpAny_storeName_local hl x1.ns (fun h1 hn hb => h _ ⟨⟨?_, hn, fun b o e => ?_, x1.fresh⟩, fun k a ha => ?_, x3, x4⟩) (by rw [hk]; rfl)
    · obtain ⟨g, tk, rfl⟩ := x1.same
      exact ⟨h1, _, rfl⟩
    · have hlt := Nat.lt_of_lt_of_le (Heap.lt_size e) x1.fresh
      exact hb.extBut b o (Nat.ne_of_lt hlt) (x1.keep b o e)
    · have hlt := x4 k a (PySem.mem_of_lookup ha)
      exact (x2 k a ha).sameBut hb (Nat.ne_of_gt hlt)
  · have nl : ¬ env.kindOf n = some .local := by rw [hl]; decide
    rw [if_neg nl, if_neg nl] at h
    have hlt := x4 n c (PySem.mem_of_lookup hc2)
    refine wpAny_storeName_cell hk hl hc (x2 n c hc2) fun h1 hn hb => h _ ⟨⟨?_, x1.ns.sameBut hb (Nat.ne_of_lt hlt), fun b o e => ?_, x1.fresh⟩, fun k a ha => ?_, x3, x4⟩
    · obtain ⟨g, tk, rfl⟩ := x1.same
      exact ⟨h1, _, rfl⟩
    · have hl2 := Nat.lt_trans (Nat.lt_of_lt_of_le (Heap.lt_size e) x1.fresh) hlt
      exact hb.extBut b o (Nat.ne_of_lt hl2) (x1.keep b o e)
    · by_cases ek : k = n
      · rw [ek, hc2] at ha
        cases ha
        rw [ek, if_pos rfl]
        exact hn
      · rw [if_neg ek]
        refine (x2 k a ha).sameBut hb fun e => ek (name_of_addr x3 (PySem.mem_of_lookup ha) ?_)
        rw [e]
        exact PySem.mem_of_lookup hc2
theorem st_pars (f : Str × Value → PUnit → Sem (ForInStep PUnit)) (hf : ∀ n v u, f (n, v) u = (do storeName env n v; pure (.yield ⟨⟩))) (hk : env.scope.kind = .function) :
    ∀ (bs : List (Str × Value)) (m cm : Str → Option Value) (s : Shared) (Q : PUnit → Shared → Prop), InCallC s₀ env.locals m cs cm s → (∀ x ∈ bs, env.kindOf x.1 = some .local ∨ (env.kindOf x.1 = some .cell ∧ ∃ c, env.cells.lookup x.1 = some c ∧ cs.lookup x.1 = some c)) →
      (∀ s', InCallC s₀ env.locals (bindL env.kindOf bs m) cs (bindC env.kindOf bs cm) s' → Q ⟨⟩ s') → wpAny M A (forIn bs ⟨⟩ f) Q E s
  | [], m, cm, s, Q, x, _, h => by
    rw [List.forIn_nil]
    exact wpAny_pure (h s x)
  | (n, v) :: r, m, cm, s, Q, x, hl, h => by
    rw [List.forIn_cons, hf]
    refine wpAny_bind (wpAny_bind (st_par x hk (hl _ List.mem_cons_self) fun s1 x1 => wpAny_pure ?_))
    refine st_pars f hf hk r _ _ s1 Q x1 (fun y hy => hl y (List.mem_cons_of_mem _ hy)) fun s2 x2 => h s2 ?_
    unfold bindL bindC
    exact x2
end
section
variable {M : Model} {A : Around} {E : Value → Shared → Prop} {s : Shared}
theorem new_env_cl {scope : Scope} {globals : Addr} {cl : List (Str × Addr)} {bs : List (Str × Value)} {qual : Str} {func : Option Addr} {code : Value} {builtins : Addr} {Q : Env → Shared → Prop} (hk : scope.kind = .function)
    (hl : ∀ x ∈ bs, scope.names.lookup x.1 = some .local ∨ (scope.names.lookup x.1 = some .cell ∧ ∃ c, (cellsFrom (s.heap.objs.size + 1) scope.names []).lookup x.1 = some c))
    (hQ : ∀ s', InCallC s s.heap.objs.size (bindL (fun y => scope.names.lookup y) bs fun _ => none) (cellsFrom (s.heap.objs.size + 1) scope.names []) (bindC (fun y => scope.names.lookup y) bs fun _ => none) s' → Q (newEnv scope s.heap.objs.size globals (cellsFrom (s.heap.objs.size + 1) scope.names cl) qual func code none builtins) s') :
    wpAny M A (newFunctionEnv scope globals cl bs qual func code none builtins) Q E s := by
  simp only [newFunctionEnv, Option.isSome_none, Bool.false_eq_true, if_false]
  refine wpAny_bind (wpAny_alloc ?_)
  refine wpAny_bind (wpAny_layCells _ (fun name kind cells => by cases e : kind == NameKind.cell <;> simp [e]) _ _ _ _ ?_)
  have ez : ∀ o : Obj, ({ s with heap := s.heap.push o } : Shared).heap.objs.size = s.heap.objs.size + 1 := fun o => Heap.size_push ..
  have ok := cellsFrom_ok scope.names (s.heap.push { cls := .type "frame", data := .dict #[] }) (s.heap.objs.size + 1) [] ⟨fun _ _ z => (nomatch z), List.Pairwise.nil⟩ (Nat.le_of_eq (ez _).symm)
  rw [show (s.heap.push { cls := .type "frame", data := .dict #[] }).objs.size = s.heap.objs.size + 1 from ez _] at ok
  rw [ez]
  refine wpAny_bind (st_pars (s₀ := s) (cs := cellsFrom (s.heap.objs.size + 1) scope.names []) (env := newEnv scope s.heap.objs.size globals (cellsFrom (s.heap.objs.size + 1) scope.names cl) qual func code none builtins) _ (fun _ _ _ => rfl) hk bs (fun _ => none) (fun _ => none) _ _
    ⟨⟨⟨_, _, rfl⟩, (Heap.Ns.new s.heap (.type "frame")).keeps (pushCells_keeps _ _), fun b o e => pushCells_keeps _ _ b o (Heap.get?_push_of_some _ e), Nat.le_refl _⟩, fun n c hc => (ok.empty n c (PySem.mem_of_lookup hc)).1, ok.apart, fun n c z => (ok.empty n c z).2⟩
    (fun x hx => ?_) fun s' x => wpAny_pure (hQ s' x))
  rcases hl x hx with z | ⟨z, c, hc⟩
  · exact .inl z
  · refine .inr ⟨z, c, ?_, hc⟩
    show (cellsFrom (s.heap.objs.size + 1) scope.names cl).lookup x.1 = some c
    rw [cellsFrom_cl, List.lookup_append, hc]
    rfl
end
/-- its names: the parameters, then the captured ones, then its locals; some parameters are cells -/
structure NScopeC (N ps fr : List Str) (sc : Scope) : Prop where
  kind : sc.kind = .function
  co : sc.isCoroutine = false
  gen : sc.isGenerator = false
  nd : N.Nodup
  pre : N.take (ps.length + fr.length) = ps ++ fr
  par : ∀ x ∈ ps, sc.names.lookup x = some .local ∨ sc.names.lookup x = some .cell
  own : ∀ y ∈ sc.names, y.2 = .cell → y.1 ∈ ps
  free : ∀ y ∈ sc.names, y.2 = .free → y.1 ∈ fr
  frk : ∀ x ∈ fr, sc.names.lookup x = some .free
def nscCB (N ps fr : List Str) (sc : Scope) : Bool :=
  decide (sc.kind = .function) && (!sc.isCoroutine && (!sc.isGenerator && (decide N.Nodup && (decide (N.take (ps.length + fr.length) = ps ++ fr) && (ps.all (fun x => decide (sc.names.lookup x = some .local) || decide (sc.names.lookup x = some .cell)) &&
    (sc.names.all (fun y => !decide (y.2 = .cell) || decide (y.1 ∈ ps)) && (sc.names.all (fun y => !decide (y.2 = .free) || decide (y.1 ∈ fr)) && fr.all (fun x => decide (sc.names.lookup x = some .free)))))))))
theorem nscopeC_by {N ps fr : List Str} {sc : Scope} (h : nscCB N ps fr sc = true) : NScopeC N ps fr sc := by
  unfold nscCB at h
  simp only [Bool.and_eq_true, Bool.not_eq_true', decide_eq_true_eq, List.all_eq_true, Bool.or_eq_true, decide_eq_false_iff_not] at h
  obtain ⟨h1, h2, h3, h4, h5, h6, h7, h8, h9⟩ := h
  exact ⟨h1, h2, h3, h4, h5, h6, fun y hy e => (h7 y hy).elim (fun z => absurd e z) id, fun y hy e => (h8 y hy).elim (fun z => absurd e z) id, h9⟩
abbrev envFC (F : NF) (f L : Addr) : Env := PySem.W.envX F.qual F.scope L f (.ref F.c) (cellsFrom (L + 1) F.scope.names F.cl)
def ncxC (CX : CXT) (P : Program) (w : World) (K : PySem.W.Frag) (mg : Str → Option Value) (base : Heap) (N : List Str) (F : NF) (f : Addr) (A : Around) (outer : List Env) (s : Shared) (H : Hp) (E : XK) : Cx :=
  { ncx CX P w K mg base N F f A outer s H E with
    A := A.deeper (envFC F f s.heap.objs.size), env := envFC F f s.heap.objs.size, stack := envFC F f s.heap.objs.size :: outer,
    xe := fun e s' => wpAny (model P w) (A.deeper (envFC F f s.heap.objs.size)) (leaving (envFC F f s.heap.objs.size) e) (fun _ s'' => CX outer H s E e s'') (fun e' s'' => CX outer H s E e' s'') s' }
section
variable {CX : CXT} {P : Program} {w : World} {K : PySem.W.Frag} {mg : Str → Option Value} {base : Heap} {N ps fr : List Str} {F : NF} {f : Addr} {A : Around} {outer : List Env} {s s1 : Shared} {H : Hp} {E : XK} {us : List Value} {vs : List V} {ws : List (Option V)}
theorem inv_startC (S : NScopeC N ps fr F.scope) (hd : A.handled = none) (e0 : Env0 P w K mg base A outer s H) (hl : vs.length = ps.length) (r : Vals vs us) (C : CellsAt F.cl fr ws s.heap H)
    (x : InCallC s s.heap.objs.size (bindL (fun y => F.scope.names.lookup y) (ps.zip us) fun _ => none) (cellsFrom (s.heap.objs.size + 1) F.scope.names []) (bindC (fun y => F.scope.names.lookup y) (ps.zip us) fun _ => none) s1) :
    Inv (ncxC CX P w K mg base N F f A outer s H E) [] (startF N vs ws) H s1 := by
  obtain ⟨h₁, tk, rfl, kp⟩ := x.done
  have hpl : ps.length + fr.length ≤ N.length := by
    have q := congrArg List.length S.pre
    rw [List.length_take, List.length_append] at q
    omega
  have noA : ∀ b : Addr, b ∉ (ncxC CX P w K mg base N F f A outer s H E).ex := fun b z => absurd (show b ∈ ([] : List Addr) from z) (by simp)
  have cellK : ∀ {c : Addr} {v : Option Value}, s.heap.IsCell c v → h₁.IsCell c v := fun {c v} ⟨o, ho, hd⟩ => ⟨o, kp _ _ ho, hd⟩
  have look : ∀ y, (cellsFrom (s.heap.objs.size + 1) F.scope.names F.cl).lookup y = ((cellsFrom (s.heap.objs.size + 1) F.scope.names []).lookup y).or (F.cl.lookup y) := fun y => by rw [cellsFrom_cl, List.lookup_append]
  have cut : ∀ {y c}, (cellsFrom (s.heap.objs.size + 1) F.scope.names F.cl).lookup y = some c → (cellsFrom (s.heap.objs.size + 1) F.scope.names []).lookup y = some c ∨ (F.cl.lookup y = some c) := fun {y c} e => by
    rw [look] at e
    cases z : (cellsFrom (s.heap.objs.size + 1) F.scope.names []).lookup y with
    | none => rw [z] at e; exact .inr e
    | some c' => rw [z] at e; exact .inl e
  have hi : ∀ {y c}, (cellsFrom (s.heap.objs.size + 1) F.scope.names []).lookup y = some c → s.heap.objs.size < c := fun e => x.above _ _ (PySem.mem_of_lookup e)
  have lo : ∀ {y c}, F.cl.lookup y = some c → c < s.heap.objs.size := fun e => by
    obtain ⟨_, v, o, ho, _⟩ := C.all _ _ e
    exact Heap.lt_size ho
  have ndA : (ps ++ fr).Nodup := by
    rw [← S.pre]
    exact S.nd.sublist (List.take_sublist _ _)
  have frn : ∀ {y}, y ∈ fr → (cellsFrom (s.heap.objs.size + 1) F.scope.names []).lookup y = none := fun {y} hy => by
    cases z : (cellsFrom (s.heap.objs.size + 1) F.scope.names []).lookup y with
    | none => rfl
    | some c =>
      rcases cellsFrom_mem' (PySem.mem_of_lookup z) with q | q
      · cases q
      · exact absurd (rfl : y = y) ((List.nodup_append.mp ndA).2.2 y (S.own _ q rfl) y hy)
  refine ⟨⟨e0.mod, S.kind, rfl, rfl, Nat.le_refl _, fun y z c h1 h2 => ?_, fun y hy => ?_, fun y c z _ => ?_, fun _ => hd, Around.frames_deeper e0.frames, .inr ⟨rfl, rfl⟩, fun b z => absurd z (noA b), e0.bs, e0.bsz, fun b _ _ => noA b,
      fun b z => absurd z (noA b), e0.funs, e0.frf⟩,
    rfl, e0.bare, Un.kept kp, ⟨_, x.toInCall.ns, fun i y v e1 e2 e3 => ?_⟩, fun y c e => ?_, e0.hok.fresh (Nat.le_refl _), fun y c e => ?_, fun q hq => absurd (show q ∈ ([] : List (Addr × Obj)) ++ [] from hq) (by simp), e0.hok.kept kp, ?_⟩
  · rcases cut h1 with a | a <;> rcases cut h2 with b | b
    · exact name_of_addr x.apart (PySem.mem_of_lookup a) (PySem.mem_of_lookup b)
    · exact absurd (Nat.lt_trans (hi a) (lo b)) (Nat.lt_irrefl _)
    · exact absurd (Nat.lt_trans (hi b) (lo a)) (Nat.lt_irrefl _)
    · exact C.inj y z c a b
  · have hy : F.scope.names.lookup y = some .cell ∨ F.scope.names.lookup y = some .free := hy
    rcases hy with hy | hy
    · obtain ⟨c, hc⟩ := cell_has (n := s.heap.objs.size + 1) hy
      exact ⟨c, by show (cellsFrom _ _ _).lookup y = _; rw [look, hc]; rfl⟩
    · have hf := S.free _ (PySem.mem_of_lookup hy) rfl
      obtain ⟨i, hi⟩ := List.mem_iff_getElem?.mp hf
      obtain ⟨c, hc, _⟩ := C.has i y hi
      exact ⟨c, by show (cellsFrom _ _ _).lookup y = _; rw [look, frn hf, hc]; rfl⟩
  · have z : false = true := z
    cases z
  · have e1 : N[i]? = some y := e1
    have clen := C.len
    unfold startF at e2
    by_cases h1 : i < ps.length
    · have hq : (ps ++ fr)[i]? = some y := by
        rw [← S.pre, List.getElem?_take_of_lt (by omega)]
        exact e1
      rw [List.getElem?_append_left h1] at hq
      rw [List.getElem?_append_left (by rw [List.length_map]; omega), List.getElem?_map] at e2
      have ha : vs[i]? = some v := by
        cases e : vs[i]? with
        | none => rw [e] at e2; cases e2
        | some a => rw [e] at e2; cases e2; rfl
      obtain ⟨u, hu, rv⟩ := r.get ha
      have ndP : ps.Nodup := (List.nodup_append.mp ndA).1
      refine ⟨u, rv, ?_⟩
      rcases S.par y (List.mem_of_getElem? hq) with k | k
      · exact .inl ⟨k, bindL_get ndP hq hu k⟩
      · obtain ⟨c, e⟩ := cell_has (n := s.heap.objs.size + 1) k
        refine .inr ⟨.inl k, c, by show (cellsFrom _ _ _).lookup y = _; rw [look, e]; rfl, ?_⟩
        have q := x.cell y c e
        rw [bindC_get ndP hq hu (by rw [k]; decide)] at q
        exact q
    · rw [List.getElem?_append_right (by rw [List.length_map]; omega), List.length_map] at e2
      by_cases h2 : i < ps.length + fr.length
      · have hq : (ps ++ fr)[i]? = some y := by
          rw [← S.pre, List.getElem?_take_of_lt (by omega)]
          exact e1
        rw [List.getElem?_append_right (by omega)] at hq
        rw [List.getElem?_append_left (by omega), hl] at e2
        obtain ⟨c, hc, hv⟩ := C.has (i - ps.length) y hq
        obtain ⟨u, ru, hu⟩ := hv v e2
        have hf := List.mem_of_getElem? hq
        exact ⟨u, ru, .inr ⟨.inr (S.frk y hf), c, by show (cellsFrom _ _ _).lookup y = _; rw [look, frn hf, hc]; rfl, cellK hu⟩⟩
      · rw [List.getElem?_append_right (by omega), List.getElem?_replicate] at e2
        split at e2 <;> cases e2
  · rcases cut e with z | z
    · exact ⟨_, x.cell y c z⟩
    · obtain ⟨v, q⟩ := (C.all y c z).2
      exact ⟨v, cellK q⟩
  · rcases cut e with z | z
    · exact e0.hok.fresh (Nat.le_of_lt (hi z))
    · exact (C.all y c z).1
  · have clen := C.len
    unfold startF
    show _ = N.length
    rw [List.length_append, List.length_append, List.length_map, List.length_replicate]
    omega
theorem nokC_of {k : Nat} {sp : List (Option V) → Sp} (S : NScopeC N ps fr F.scope) (hb : ∀ (doc pm ctv : Value) (us : List Value), us.length = ps.length → bindArgs (F.fd doc pm ctv) ⟨us, []⟩ = pure (ps.zip us)) (len : ∀ ws vs H Q E, sp ws vs H Q E → vs.length = ps.length)
    (hbody : ∀ (A : Around) (outer : List Env) (s : Shared) (H : Hp) (vs : List V) (ws : List (Option V)) (Q : VK) (E : XK), Room k (A.deeper (envFC F f s.heap.objs.size)) → ws.length = fr.length → sp ws vs H Q E →
      ∃ t, PSs (ncxC CX P w K mg base N F f A outer s H E).nox F.body t ∧ t { nx := fun _ H' => Q .non H', rt := Q } (startF N vs ws) H) :
    NOk P w K mg base CX (k + 1) f F ps fr sp := by
  refine ⟨len, fun A outer s H us vs ws Q E hr e0 hf hc C r hsp => ?_⟩
  have hl := len _ _ _ _ _ hsp
  have lim : s.heap.NoLimit := e0.mod.nolimit.keeps fun b o e => (e0.bs b o e).1
  obtain ⟨od, sl, doc, pm, ctv, ho⟩ := fnO_at e0.hok hf
  have hul : us.length = ps.length := by rw [← r.length]; exact hl
  refine codeAny_call_function hr.depth ho rfl S.co S.gen rfl (codeO_at e0.hok hc) ?_
  rw [hb doc pm ctv us hul]
  refine wpAny_pure (new_env_cl S.kind (fun ⟨n, v⟩ hy => ?_) fun s1 x => ⟨lim.keeps x.toInCall.keep, ?_⟩)
  · rcases S.par n (List.of_mem_zip hy).1 with q | q
    · exact .inl q
    · exact .inr ⟨q, cell_has q⟩
  show codeAny _ _ (.func F.body (envFC F f s.heap.objs.size)) _ _
  refine codeAny_func ?_
  obtain ⟨t, ht, hq⟩ := hbody A outer s H vs ws Q E (hr.deeper _) C.len hsp
  have I := inv_startC (CX := CX) (E := E) (f := f) (N := N) S hr.hd e0 hl r C x
  have ht := PSs.nox ht
  refine wpAny_mono (ht.run [] _ (startF N vs ws) H _ I hq) (fun fl s' hs => ?_) fun e s' hs => hs
  have fin : ∀ {σ' : L2.St} {H' : Hp} {v : V} {u : Value}, Inv (ncxC CX P w K mg base N F f A outer s H E) [] σ' H' s' → L2.RelV v u → Q v H' → CE outer P w H s Q u s' :=
    fun {σ' H' v u} J rv q => ⟨v, H', J.os, J.bare, J.base, J.hok, rv, q⟩
  cases fl with
  | ret u =>
    obtain ⟨v, σ', H', J, rv, q⟩ := hs
    exact fin J rv q
  | next =>
    obtain ⟨σ', H', J, q⟩ := hs
    exact fin (v := V.non) (u := Value.none) J rfl q
  | brk =>
    obtain ⟨_, _, _, q⟩ := hs
    exact q.elim
  | cont =>
    obtain ⟨_, _, _, q⟩ := hs
    exact q.elim
end
end AT

set_option Elab.async false
set_option linter.all false
set_option maxRecDepth 100000
set_option maxHeartbeats 4000000
/-! own words, seventeenth part: sorted(set(a list of numbers)) -/
namespace AT
open PySem PySem.Spec PyProof.Rows L2
/-- the set that is just made -/
abbrev eSet (w : World) : Obj := { cls := .type "set", dict := none, data := .set #[] 0 (.fresh 0 0 (!w.params.followText "set-order")) }
section
variable {P : Program} {w : World} {A : Around} {E : Value → Shared → Prop} {s : Shared}
set_option maxHeartbeats 6400000 in
theorem call_setL {l : Addr} {its : Array Value} (ns : List Int) {Q : Value → Shared → Prop} (calm : A.handled = none) (hl : s.heap.IsList l its) (hi : IntsAre its.toList ns) (few : ns.length + 1 < scanBound)
    (q : ∀ (h' : Heap) (tk c : Nat), SetR w h' s.heap.objs.size (fun j => decide (j ∈ ns)) c → c ≤ ns.length → (∀ b o, s.heap.get? b = some o → h'.get? b = some o) → Q (.ref s.heap.objs.size) { s with heap := h', toks := tk }) :
    wpAny (model P w) A (call (.type "set") [.ref l]) Q E s := by
  have sz : its.size = ns.length := by have e := IntsAre.length hi; rwa [Array.length_toList] at e
  have hC := F.called_set
  obtain ⟨c0, tl0, mro0⟩ := hC.mro
  have a1 := hC.made
  have a2 := hC.sub
  have a3 := hC.notType
  have a4 := hC.canCreate
  have a5 := F.typeCall_set_1 (.ref l)
  refine wpAny_call (codeAny_of_tree ?_)
  show wpAny _ _ (callAny (.type "set") _) _ _ _
  refine wpAny_pure ⟨Code.quiet_builtin _ (by decide +kernel), codeAny_builtin F.entry_type_call ?_⟩
  rw [Around.under_plain (weight_type_call_type "set" [.ref l] []) rfl]
  repeat (any_goals (first | assumption | wp_step))
  refine codeAny_mono (code_set_led1 (.ref l) (E := E) (Q₁ := fun v s1 => v = .ref s.heap.objs.size ∧ s1 = { s with heap := s.heap.push (eSet w) }) ⟨rfl, rfl⟩) fun r1 s1 z1 => ?_
  rcases r1 with e1 | f1
  · exact z1
  cases f1 with
  | next => exact z1.elim
  | brk => exact z1.elim
  | cont => exact z1.elim
  | ret v1 =>
    obtain ⟨rfl, rfl⟩ := z1
    have gS : (s.heap.push (eSet w)).get? s.heap.objs.size = some (eSet w) := Heap.get?_push_size _ rfl
    have tS : Shared.TypeIs { s with heap := s.heap.push (eSet w) } (.ref s.heap.objs.size) "set" := ⟨_, gS, rfl⟩
    have b1 := hC.init.lookup
    have b2 := hC.init.bind (.ref s.heap.objs.size)
    repeat (any_goals (first | assumption | wp_step))
    refine codeAny_mono (codeAny_call_builtin (R := wants (fun v s2 => v = .none ∧ ∃ g tk c, s2 = { s with heap := g, toks := tk } ∧ SetR w g s.heap.objs.size (fun j => decide (j ∈ ns)) c ∧ c ≤ ns.length ∧ (∀ b o, s.heap.get? b = some o → g.get? b = some o)) E)
      hC.init.plain F.entry_set_init (check_set_init_1 tS ?_)) fun r2 s2 z2 => ?_
    · obtain ⟨⟨oc, od, odt, osl⟩, ho, e1, n1, e2⟩ := hl
      simp only at e1 e2
      subst e1
      subst e2
      have ho1 : (s.heap.push (eSet w)).get? l = some { cls := .type "list", dict := od, data := .seq its n1, slots := osl } := Heap.get?_push_of_some _ ho
      have c1 := F.sub_list_set
      have c2 := F.sub_list_frozenset
      have c3 : (Value.type "list" == Value.type "dict") = false := by decide
      have isl : (s.heap.push (eSet w)).IsList l its := ⟨_, ho1, rfl, n1, rfl⟩
      unfold Builtin.«set.__init__» noKeywords Builtin.Frozenset.updateFrom
      generalize eI : pyIter = it0
      wp_walk
      subst eI
      refine wpAny_pyIter_list isl (wpAny_bind (wpAny_runValue ?_))
      have l1 : l < s.heap.objs.size := Heap.lt_size ho
      have zz : (s.heap.push (eSet w)).objs.size = s.heap.objs.size + 1 := Heap.size_push ..
      have calm3 : A.in1.in1.in1.handled = none := by simp [calm]
      have n2 : l ≠ (s.heap.push (eSet w)).objs.size := by rw [zz]; exact Nat.ne_of_lt (Nat.lt_succ_of_lt l1)
      have n3 : s.heap.objs.size ∉ [(s.heap.push (eSet w)).objs.size, l] := by
        rw [zz]
        simp only [List.mem_cons, List.not_mem_nil, or_false, not_or]
        exact ⟨Nat.ne_of_lt (Nat.lt_succ_self _), Nat.ne_of_gt l1⟩
      have vals : ∀ (i : Nat) (v : Value), its[i]? = some v → ∃ k t, ns[i]? = some k ∧ v = .int k t := fun i v hv => by
        have hlt : i < ns.length := by rw [← sz]; exact (Array.getElem?_eq_some_iff.mp hv).1
        obtain ⟨t, e⟩ := PyProof.Rows.IntsAre.int_at hi i v (by rw [Array.getElem?_toList]; exact hv)
        have e3 : ns[i]? = some ns[i] := List.getElem?_eq_getElem hlt
        exact ⟨ns[i], t, e3, by rw [e, List.getD_eq_getElem?_getD, e3]; rfl⟩
      refine set_update_ints ((Walks.list calm3 _ l n2 its).toS) s.heap.objs.size n3 ns sz few vals (its.size - 0) 0 _ (by omega) (Nat.zero_le _) ⟨⟨_, Heap.get?_push_size _ rfl, rfl, rfl⟩, isl.push _⟩ ⟨0, Nat.le_refl 0, setR_new_at (Heap.get?_push_of_some _ gS)⟩ fun s3 c hm hc hS => ?_
      obtain ⟨g, g2, d, tk, os⟩ := s3
      obtain rfl : g2 = s.gens := hm.gens
      obtain rfl : d = s.drawn := hm.drawn
      obtain rfl : os = s.os := hm.os
      show wpAny _ _ _ _ _ _
      refine wpAny_pure ?_
      show wpAny _ _ (ret Value.none) _ _ _
      rw [sz] at hc
      refine wpAny_pure ⟨rfl, g, tk, c, rfl, hS, hc, fun b o e => hm.heap b o ?_ (Heap.get?_push_of_some _ (Heap.get?_push_of_some _ e))⟩
      have lb : b < s.heap.objs.size := Heap.lt_size e
      rw [zz]
      simp only [List.mem_cons, List.not_mem_nil, or_false, not_or]
      exact ⟨Nat.ne_of_lt lb, Nat.ne_of_lt (Nat.lt_succ_of_lt lb)⟩
    · rcases r2 with e2 | f2
      · exact z2
      cases f2 with
      | ret v2 =>
        obtain ⟨rfl, g, tk, c, rfl, hS, hc, hk⟩ := z2
        repeat (any_goals (first | assumption | wp_step))
        exact q g tk c hS hc hk
      | next => exact z2.elim
      | brk => exact z2.elim
      | cont => exact z2.elim
end
/-- set(a list of numbers) -/
def rSetOfL (K : PySem.W.Frag) (w : World) : List V → Hp → VK → Prop := fun vs H Q => ∃ (l : Addr) (ns : List Int), vs = [.ref l] ∧ SqL K H l (ns.map V.int) ∧ ns.length ≤ 1000 ∧ ∀ (a : Addr) (c : Nat), H a = none → c ≤ ns.length → Q (.ref a) (upd H a (SetO w a (fun j => decide (j ∈ ns)) c))
theorem cr_setL {X : Cx} (hc : X.calm = true) : CallR X (.type "set") (rSetOfL X.K X.w) := by
  intro pins s σ H vs us Q I r h
  obtain ⟨l, ns, rfl, hs, hn, q⟩ := h
  rw [Vals.ref1 r]
  obtain ⟨its, rv, pl, hz⟩ := I.list hs
  refine call_setL ns (I.ok.hd hc) pl.isList (by rw [List.toList_toArray]; exact ints_of_vals rv) (by unfold scanBound; omega) fun h' tk c hS hl hk => ?_
  exact ⟨.ref _, _, I.laid (t' := tk) hk (Nat.le_refl _) (setO_new hS), rfl, q _ c (I.hok.fresh (Nat.le_refl _)) hl⟩
section
variable {X : Cx} (K : PySem.W.Frag) (w : World) (hK : X.K = K := by rfl) (hw : X.w = w := by rfl) (hc : X.calm = true := by rfl)
include hK hw hc
theorem kSetL : CallR X (.type "set") (rSetOfL K w) := hK ▸ hw ▸ cr_setL hc
omit hK in
theorem kSortSet : CallR X (.builtin "sorted") (rSortedSet w) := hw ▸ cr_sortedSet hc
end
/-- the places below n that are in xs -/
def lotN (n : Nat) (p : Nat → Bool) : List Nat := (List.range n).filter p
theorem mem_lotN {n : Nat} {p : Nat → Bool} {i : Nat} : i ∈ lotN n p ↔ i < n ∧ p i = true := by
  unfold lotN
  rw [List.mem_filter, List.mem_range]
theorem pw_ext : ∀ {a b : List Int}, a.Pairwise (· < ·) → b.Pairwise (· < ·) → (∀ k, k ∈ a ↔ k ∈ b) → a = b
  | [], [], _, _, _ => rfl
  | [], y :: _, _, _, h => absurd ((h y).mpr List.mem_cons_self) (by simp)
  | x :: _, [], _, _, h => absurd ((h x).mp List.mem_cons_self) (by simp)
  | x :: a, y :: b, ha, hb, h => by
    obtain ⟨a1, a2⟩ := List.pairwise_cons.mp ha
    obtain ⟨b1, b2⟩ := List.pairwise_cons.mp hb
    have e : x = y := by
      rcases List.mem_cons.mp ((h x).mp List.mem_cons_self) with z | z
      · exact z
      · rcases List.mem_cons.mp ((h y).mpr List.mem_cons_self) with z2 | z2
        · exact z2.symm
        · have := a1 _ z2
          have := b1 _ z
          omega
    subst e
    rw [pw_ext a2 b2 fun k => ⟨fun hk => ?_, fun hk => ?_⟩]
    · rcases List.mem_cons.mp ((h k).mp (List.mem_cons_of_mem _ hk)) with z | z
      · have := a1 _ hk; omega
      · exact z
    · rcases List.mem_cons.mp ((h k).mpr (List.mem_cons_of_mem _ hk)) with z | z
      · have := b1 _ hk; omega
      · exact z
theorem lotN_pw (n : Nat) (p : Nat → Bool) : ((lotN n p).map fun i : Nat => (i : Int)).Pairwise (· < ·) := by
  rw [List.pairwise_map]
  refine (List.pairwise_lt_range (n := n)).sublist List.filter_sublist |>.imp fun h => ?_
  exact Int.ofNat_lt.mpr h
/-- tuple(sorted(set(xs))) -/
theorem rd_sortSet {K : PySem.W.Frag} {w : World} {n : Nat} {xs : List Nat} {l : Addr} {H : Hp} {Q : VK} (hl : SqL K H l (xs.map fun i : Nat => V.int (i : Int))) (hn : xs.length < 64) (hb : ∀ x ∈ xs, x < n)
    (q : ∀ (p : Addr) (H' : Hp), Ex H H' → H' p = some (.lst ((lotN n fun i => decide (i ∈ xs)).map fun i : Nat => V.int (i : Int))) → Q (.ref p) H') : rSetOfL K w [.ref l] H fun v H1 => rSortedSet w [v] H1 Q := by
  refine ⟨l, xs.map fun i : Nat => (i : Int), rfl, by rw [List.map_map]; exact hl, by rw [List.length_map]; omega, fun a c ha hc => ?_⟩
  rw [List.length_map] at hc
  refine ⟨a, _, c, rfl, upd_same, by omega, fun ns p h1 h2 h3 hp => ?_⟩
  have e : ns = (lotN n fun i => decide (i ∈ xs)).map fun i : Nat => (i : Int) := pw_ext h1 (lotN_pw _ _) fun k => by
    rw [h2 k, decide_eq_true_eq, List.mem_map, List.mem_map]
    exact ⟨fun ⟨i, hi, e⟩ => ⟨i, mem_lotN.mpr ⟨hb i hi, decide_eq_true hi⟩, e⟩, fun ⟨i, hi, e⟩ => ⟨i, of_decide_eq_true (mem_lotN.mp hi).2, e⟩⟩
  refine q p _ ((Evl.Ex.new ha).trans (Evl.Ex.new hp)) ?_
  rw [upd_same, e, List.map_map]
  rfl
end AT

set_option Elab.async false
set_option linter.all false
set_option maxRecDepth 100000
set_option maxHeartbeats 4000000
/-! own words, eighteenth part: x or y of a tuple -/
namespace AT
open PySem PySem.Spec PyProof.Rows L2
theorem kOrT {X : Cx} (K : PySem.W.Frag) (hK : X.K = K) {a : Expr} {ta tb : TE} (h : PE X a (tOrT X.K ta tb)) : PE X a (tOrT K ta tb) := hK ▸ h
theorem rd_orT {K : PySem.W.Frag} {ta tb : TE} {σ : L2.St} {H : Hp} {Q : VK} (h : ta σ H fun x H1 => ∃ k, TruV K x H1 k ∧ if k = true then Q x H1 else tb σ H1 Q) : tOrT K ta tb σ H Q := h
end AT

set_option Elab.async false
set_option linter.all false
set_option maxRecDepth 100000
set_option maxHeartbeats 4000000
/-! own words, nineteenth part: a text turned round -/
namespace AT
open PySem PySem.Spec PyProof.Rows L2
/-- z[::-1] -/
def revS (z : Str) : Str := ⟨z.cps.toList.reverse.toArray⟩
theorem pick_rev (z : Str) : (Builtin.Str.strSliceIndices none none (-1) z.length).filterMap (z.cps[·]?) = z.cps.toList.reverse := by
  show (sliceRange ((z.cps.size : Int) - 1) (-1) (-1)).filterMap (z.cps[·]?) = _
  rw [PySem.W.krv_sliceRange, PySem.W.krv_range, List.filterMap_reverse, PySem.W.krv_all]
def tRevS (te : TE) : TE := fun σ H Q => te σ H fun x H1 => ∃ z : Str, x = .str z ∧ z.length ≤ sizeLine ∧ Q (.str (revS z)) H1
theorem pe_revS {X : Cx} {e : Expr} {te : TE} {k : Nat} {p1 p2 p3 pos : Pos} (he : PE X e te) : PE X (.Subscript e (.Slice none none (some (.UnaryOp .USub (.Constant (.int 1) k p1) p2)) p3) pos) (tRevS te) := by
  constructor
  intro pins s σ H Q I q
  refine Subscript_ (thn (he.run pins s σ H _ I q) fun v s1 ⟨x, H1, I1, rx, z, ex, hz, q1⟩ => ?_)
  subst ex
  obtain ⟨t, rfl⟩ : ∃ t, v = Value.str z t := rx
  have step : PO X (some (.UnaryOp .USub (.Constant (.int 1) k p1) p2)) (tPart (tUn (rU fun i => .int (-i)) (tC (.int 1)))) := po_some (pe_un un_neg pe_int)
  refine wpAny_Slice (thn (po_none.run pins s1 σ H1 (fun o H2 => o = none ∧ H2 = H1) I1 ⟨rfl, rfl⟩) fun va s2 ⟨a, H2, I2, pa, ea, e2⟩ => ?_)
  subst ea e2
  refine thn (po_none.run pins s2 σ H2 (fun o H3 => o = none ∧ H3 = H2) I2 ⟨rfl, rfl⟩) fun vb s3 ⟨b, H3, I3, pb, eb, e3⟩ => ?_
  subst eb e3
  refine thn (step.run pins s3 σ H3 (fun o H4 => o = some (-1) ∧ H4 = H3) I3 ⟨1, rfl, -1, rfl, rfl, rfl⟩) fun vc s4 ⟨c, H4, I4, pc, ec, e4⟩ => ?_
  subst ec e4
  obtain ⟨la, rfl, ha⟩ := IsPart.raw pa
  obtain ⟨lb, rfl, hb⟩ := IsPart.raw pb
  obtain ⟨lc, rfl, hc⟩ := IsPart.raw pc
  have I5 : Inv X pins σ H4 { s4 with heap := s4.heap.push { cls := .type "slice", data := .fields #[partValue la, partValue lb, partValue lc] } } := I4.kept (t' := s4.toks) fun b ob q => Heap.get?_push_of_some _ q
  have made : (slicePicked z la lb lc).filterMap (z.cps[·]?) = z.cps.toList.reverse := by
    unfold slicePicked
    rw [ha, hb, hc]
    exact pick_rev z
  refine tail_any (ops := [.ref s4.heap.objs.size, .str z t]) (typeIs_str _ _ _) (F.slot_str_getitem.lookup) ?_ (by with_unfolding_all rfl)
  refine wpAny_getItem_str_slice (l := la) (u := lb) (st := lc) ⟨_, Heap.get?_push_size _ rfl, rfl, rfl⟩ (by rw [hc]; rfl) ?_
  have em : sliceMade z t la lb lc = .str (revS z) := by
    unfold sliceMade
    rw [made, hc]
    rfl
  rw [em]
  refine ⟨?_, .str _, H4, I5.tok _, ⟨_, rfl⟩, q1⟩
  show (z.cps.toList.reverse.toArray).size ≤ sizeLine
  rw [List.size_toArray, List.length_reverse, Array.length_toList]
  exact hz
theorem rd_revS {te : TE} {σ : L2.St} {H : Hp} {Q : VK} (h : te σ H fun x H1 => ∃ z : Str, x = .str z ∧ z.length ≤ sizeLine ∧ Q (.str (revS z)) H1) : tRevS te σ H Q := h
end AT

set_option Elab.async false
set_option linter.all false
set_option maxRecDepth 100000
set_option maxHeartbeats 4000000
local macro_rules | `(tactic| walk_at "rd1") => `(tactic| with_reducible first
  | refine AT.rd_seq ?_ | refine AT.rd_is ?_ | refine AT.rd_asg ?_ | refine AT.rd_name ?_ | refine AT.rd_var (by with_unfolding_all rfl) ?_ | refine AT.rd_c ?_ | refine AT.rd_op ?_ | refine AT.rd_ret ?_ | refine AT.rd_retN ?_ | refine AT.rd_if ?_ | refine AT.rd_ife ?_ | refine AT.rd_next ?_ | refine AT.rd_drop ?_
  | refine AT.rd_test ?_ | refine AT.rd_tB ?_ | refine AT.rd_bl ?_ | refine AT.rd_not ?_ | refine AT.rd_and ?_ | refine AT.rd_or ?_ | refine AT.rd_nil ?_ | refine AT.rd_cons ?_ | refine AT.rd_lst ?_ | refine AT.rd_tup ?_ | refine AT.rd_cb ?_ | refine AT.rd_chain ?_
  | refine AT.rd_called ?_ | refine AT.rd_calledR ?_ | refine AT.rd_raised ?_ | refine AT.rd_iteT ?_ | refine AT.rd_iteF ?_ | refine AT.rd_iteNF ?_ | refine AT.rd_iteNT ?_ | refine AT.rd_addI ?_ | refine AT.rd_subI ?_ | refine AT.rd_lt ?_ | refine AT.rd_le ?_ | refine AT.rd_gt ?_ | refine AT.rd_ge ?_ | refine AT.rd_eqI ?_ | refine AT.rd_neI ?_ | refine AT.rd_eqS ?_ | refine AT.rd_neS ?_
  | refine AT.rd_int ?_ | refine AT.rd_abs ?_ | refine AT.rd_inS ?_ | refine AT.rd_niS ?_ | refine AT.rd_rng1 ?_ | refine AT.rd_rng2 ?_ | refine AT.rd_bm ?_ | refine AT.rd_fld ?_ | refine AT.rd_sfld ?_ | refine AT.rd_makeR ?_ | refine AT.rd_methR ?_ | refine AT.rd_meth ?_ | refine AT.rd_notV ?_ | refine AT.rd_xf ?_ | refine AT.rd_andV ?_ | refine AT.rd_orV ?_ | refine AT.rd_sl ?_ | refine AT.rd_noPart ?_ | refine AT.rd_part ?_ | refine AT.rd_intv ?_ | refine AT.rd_raised1 ?_ | refine AT.rd_gsub ?_ | refine AT.rd_gN ?_ | refine AT.rd_par3 ?_ | refine AT.rd_dget ?_ | refine AT.rd_din ?_ | refine AT.rd_dnin ?_ | refine AT.rd_dput ?_ | refine AT.rd_disp1T ?_ | refine AT.rd_dnK ?_ | refine AT.rd_dnT ?_ | refine AT.rd_v3 ?_ | refine AT.rd_gE ?_ | refine AT.rd_for ?_ | refine AT.rd_lc ?_ | refine AT.rd_lenL (by assumption) ?_ | refine AT.rd_dsetd ?_ | refine AT.rd_dgetX ?_ | refine AT.rd_dninX ?_ | refine AT.rd_dputX ?_ | refine AT.rd_dsetdB ?_ | refine AT.rd_dgetB ?_ | refine AT.rd_dnB ?_ | refine AT.rd_lenT (by assumption) ?_)
local macro_rules | `(tactic| walk_at "rd") => `(tactic| (repeat walk_at "rd1"))
local macro_rules | `(tactic| walk_at "rc1") => `(tactic| with_reducible first
  | refine AT.rd_seqA ?_ | refine AT.rd_is ?_ | refine AT.rd_seqD ?_ | refine AT.rd_asg ?_ | refine AT.rd_name ?_ | refine AT.rd_var (by with_unfolding_all rfl) ?_ | refine AT.rd_c ?_ | refine AT.rd_op ?_ | refine AT.rd_ret ?_ | refine AT.rd_retN ?_ | refine AT.rd_if ?_ | refine AT.rd_next ?_ | refine AT.rd_drop ?_
  | refine AT.rd_test ?_ | refine AT.rd_tB ?_ | refine AT.rd_bl ?_ | refine AT.rd_not ?_ | refine AT.rd_and ?_ | refine AT.rd_or ?_ | refine AT.rd_nil ?_ | refine AT.rd_cons ?_ | refine AT.rd_lst ?_ | refine AT.rd_tup ?_ | refine AT.rd_cb ?_ | refine AT.rd_chain ?_
  | refine AT.rd_called ?_ | refine AT.rd_calledR ?_ | refine AT.rd_raised ?_ | refine AT.rd_iteT ?_ | refine AT.rd_iteF ?_ | refine AT.rd_iteNF ?_ | refine AT.rd_iteNT ?_ | refine AT.rd_addI ?_ | refine AT.rd_subI ?_ | refine AT.rd_lt ?_ | refine AT.rd_le ?_ | refine AT.rd_gt ?_ | refine AT.rd_ge ?_ | refine AT.rd_eqI ?_ | refine AT.rd_neI ?_ | refine AT.rd_eqS ?_ | refine AT.rd_neS ?_
  | refine AT.rd_int ?_ | refine AT.rd_abs ?_ | refine AT.rd_inS ?_ | refine AT.rd_niS ?_ | refine AT.rd_rng1 ?_ | refine AT.rd_rng2 ?_ | refine AT.rd_bm ?_ | refine AT.rd_fld ?_ | refine AT.rd_sfld ?_ | refine AT.rd_makeR ?_ | refine AT.rd_methR ?_ | refine AT.rd_meth ?_ | refine AT.rd_notV ?_ | refine AT.rd_xf ?_ | refine AT.rd_sl ?_ | refine AT.rd_noPart ?_ | refine AT.rd_part ?_ | refine AT.rd_intv ?_ | refine AT.rd_raised1 ?_ | refine AT.rd_gsub ?_ | refine AT.rd_gN ?_ | refine AT.rd_par3 ?_ | refine AT.rd_dget ?_ | refine AT.rd_din ?_ | refine AT.rd_dnin ?_ | refine AT.rd_dput ?_ | refine AT.rd_disp1T ?_ | refine AT.rd_dnK ?_ | refine AT.rd_dnT ?_ | refine AT.rd_v3 ?_ | refine AT.rd_gE ?_ | refine AT.rd_for ?_ | refine AT.rd_lc ?_ | refine AT.rd_lenL (by assumption) ?_ | refine AT.rd_dsetd ?_ | refine AT.rd_dgetX ?_ | refine AT.rd_dninX ?_ | refine AT.rd_dputX ?_ | refine AT.rd_dsetdB ?_ | refine AT.rd_dgetB ?_ | refine AT.rd_dnB ?_ | refine AT.rd_lenT (by assumption) ?_)
local macro_rules | `(tactic| walk_at "rc") => `(tactic| ((repeat walk_at "rc1"); (try with_reducible refine AT.rd_idS ?_)))
local macro_rules | `(tactic| walk_at "rs") => `(tactic| with_reducible refine AT.rd_seq ?_)

namespace AT
open PySem L2
def top (i : Nat) : Stmt := PySem.Challenge.pw_anytext_k48_values_written.main.body.getD i (.Pass ⟨0, 0, 0, 0⟩)
abbrev s_write_value : Stmt := top 13
theorem sc_write_value : FnScope ["value", "item"] ["value"] (defScope s_write_value) := ⟨rfl, rfl, rfl, by decide +kernel, rfl, by decide +kernel, by decide +kernel⟩
abbrev s_read_value : Stmt := top 14
theorem sc_read_value : FnScope ["text"] ["text"] (defScope s_read_value) := ⟨rfl, rfl, rfl, by decide +kernel, rfl, by decide +kernel, by decide +kernel⟩
abbrev s_cell : Stmt := top 17
theorem sc_cell : FnScope ["script", "k"] ["script", "k"] (defScope s_cell) := ⟨rfl, rfl, rfl, by decide +kernel, rfl, by decide +kernel, by decide +kernel⟩
abbrev s_numbers : Stmt := top 18
theorem sc_numbers : FnScope ["cell", "many", "rest", "whole", "numbers", "k", "mixed"] ["cell", "many"] (defScope s_numbers) := ⟨rfl, rfl, rfl, by decide +kernel, rfl, by decide +kernel, by decide +kernel⟩
abbrev s_state : Stmt := top 19
theorem sc_state : FnScope ["script", "start", "many", "numbers", "k", "cell"] ["script", "start", "many"] (defScope s_state) := ⟨rfl, rfl, rfl, by decide +kernel, rfl, by decide +kernel, by decide +kernel⟩
abbrev s_next : Stmt := top 20
theorem sc_next : FnScope ["state", "many", "numbers", "place"] ["state", "many"] (defScope s_next) := ⟨rfl, rfl, rfl, by decide +kernel, rfl, by decide +kernel, by decide +kernel⟩
abbrev s_value : Stmt := top 21
theorem sc_value : FnScope ["state", "deep", "kind", "pool", "k"] ["state", "deep"] (defScope s_value) := ⟨rfl, rfl, rfl, by decide +kernel, rfl, by decide +kernel, by decide +kernel⟩
abbrev s_written : Stmt := top 22
theorem sc_written : FnScope ["value", "item"] ["value"] (defScope s_written) := ⟨rfl, rfl, rfl, by decide +kernel, rfl, by decide +kernel, by decide +kernel⟩
abbrev s_read : Stmt := top 23
theorem sc_read : FnScope ["text", "e"] ["text"] (defScope s_read) := ⟨rfl, rfl, rfl, by decide +kernel, rfl, by decide +kernel, by decide +kernel⟩
abbrev s_due : Stmt := top 24
theorem sc_due : FnScope ["text", "pool", "depth", "wanted", "at", "sign", "end"] ["text"] (defScope s_due) := ⟨rfl, rfl, rfl, by decide +kernel, rfl, by decide +kernel, by decide +kernel⟩
abbrev s_spoilt : Stmt := top 25
theorem sc_spoilt : FnScope ["state", "text", "other", "place", "sign", "kind", "many"] ["state", "text", "other"] (defScope s_spoilt) := ⟨rfl, rfl, rfl, by decide +kernel, rfl, by decide +kernel, by decide +kernel⟩
abbrev s_law : Stmt := top 26
theorem sc_law : FnScope ["script", "state", "rows", "k", "value", "turn", "texts", "told", "spoilt", "due"] ["script"] (defScope s_law) := ⟨rfl, rfl, rfl, by decide +kernel, rfl, by decide +kernel, by decide +kernel⟩
abbrev s_init : Stmt := inClass (top 1) 0
theorem sc_init : FnScope ["self", "what"] ["self", "what"] (defScope s_init) := ⟨rfl, rfl, rfl, by decide +kernel, rfl, by decide +kernel, by decide +kernel⟩
abbrev s_ValueReader_init : Stmt := inClass (top 15) 0
theorem sc_ValueReader_init : FnScope ["self", "text", "place"] ["self", "text", "place"] (defScope s_ValueReader_init) := ⟨rfl, rfl, rfl, by decide +kernel, rfl, by decide +kernel, by decide +kernel⟩
abbrev s_ValueReader_faces : Stmt := inClass (top 15) 1
theorem sc_ValueReader_faces : FnScope ["self", "signs"] ["self", "signs"] (defScope s_ValueReader_faces) := ⟨rfl, rfl, rfl, by decide +kernel, rfl, by decide +kernel, by decide +kernel⟩
abbrev s_ValueReader_take : Stmt := inClass (top 15) 2
theorem sc_ValueReader_take : FnScope ["self", "signs"] ["self", "signs"] (defScope s_ValueReader_take) := ⟨rfl, rfl, rfl, by decide +kernel, rfl, by decide +kernel, by decide +kernel⟩
abbrev s_ValueReader_whole : Stmt := inClass (top 15) 3
theorem sc_ValueReader_whole : FnScope ["self", "found"] ["self"] (defScope s_ValueReader_whole) := ⟨rfl, rfl, rfl, by decide +kernel, rfl, by decide +kernel, by decide +kernel⟩
abbrev s_ValueReader_value : Stmt := inClass (top 15) 4
theorem sc_ValueReader_value : FnScope ["self", "deep", "start", "sign"] ["self", "deep"] (defScope s_ValueReader_value) := ⟨rfl, rfl, rfl, by decide +kernel, rfl, by decide +kernel, by decide +kernel⟩
abbrev s_ValueReader_items_behind : Stmt := inClass (top 15) 5
theorem sc_ValueReader_items_behind : FnScope ["self", "deep", "found"] ["self", "deep"] (defScope s_ValueReader_items_behind) := ⟨rfl, rfl, rfl, by decide +kernel, rfl, by decide +kernel, by decide +kernel⟩
abbrev s_ValueReader_text_behind : Stmt := inClass (top 15) 6
theorem sc_ValueReader_text_behind : FnScope ["self", "start"] ["self"] (defScope s_ValueReader_text_behind) := ⟨rfl, rfl, rfl, by decide +kernel, rfl, by decide +kernel, by decide +kernel⟩
abbrev s_ValueReader_number_from : Stmt := inClass (top 15) 7
theorem sc_ValueReader_number_from : FnScope ["self", "start"] ["self", "start"] (defScope s_ValueReader_number_from) := ⟨rfl, rfl, rfl, by decide +kernel, rfl, by decide +kernel, by decide +kernel⟩
structure Txt (K : PySem.W.Frag) (mg : Str → Option Value) where
  a_write_value : Addr
  d_write_value : FuncData
  f_write_value : Fun K "write_value" "write_value" s_write_value a_write_value d_write_value
  o_write_value : Own K mg "write_value" a_write_value d_write_value ["value"]
  a_read_value : Addr
  d_read_value : FuncData
  f_read_value : Fun K "read_value" "read_value" s_read_value a_read_value d_read_value
  o_read_value : Own K mg "read_value" a_read_value d_read_value ["text"]
  a_cell : Addr
  d_cell : FuncData
  f_cell : Fun K "_law_cell" "_law_cell" s_cell a_cell d_cell
  o_cell : Own K mg "_law_cell" a_cell d_cell ["script", "k"]
  a_numbers : Addr
  d_numbers : FuncData
  f_numbers : Fun K "_law_numbers" "_law_numbers" s_numbers a_numbers d_numbers
  o_numbers : Own K mg "_law_numbers" a_numbers d_numbers ["cell", "many"]
  a_state : Addr
  d_state : FuncData
  f_state : Fun K "_law_state" "_law_state" s_state a_state d_state
  o_state : Own K mg "_law_state" a_state d_state ["script", "start", "many"]
  a_next : Addr
  d_next : FuncData
  f_next : Fun K "_law_next" "_law_next" s_next a_next d_next
  o_next : Own K mg "_law_next" a_next d_next ["state", "many"]
  a_value : Addr
  d_value : FuncData
  f_value : Fun K "_law_value" "_law_value" s_value a_value d_value
  o_value : Own K mg "_law_value" a_value d_value ["state", "deep"]
  a_written : Addr
  d_written : FuncData
  f_written : Fun K "_law_written" "_law_written" s_written a_written d_written
  o_written : Own K mg "_law_written" a_written d_written ["value"]
  a_read : Addr
  d_read : FuncData
  f_read : Fun K "_law_read" "_law_read" s_read a_read d_read
  o_read : Own K mg "_law_read" a_read d_read ["text"]
  a_due : Addr
  d_due : FuncData
  f_due : Fun K "_law_due" "_law_due" s_due a_due d_due
  o_due : Own K mg "_law_due" a_due d_due ["text"]
  a_spoilt : Addr
  d_spoilt : FuncData
  f_spoilt : Fun K "_law_spoilt" "_law_spoilt" s_spoilt a_spoilt d_spoilt
  o_spoilt : Own K mg "_law_spoilt" a_spoilt d_spoilt ["state", "text", "other"]
  a_law : Addr
  d_law : FuncData
  f_law : Fun K "law" "law" s_law a_law d_law
  o_law : Own K mg "law" a_law d_law ["script"]
  a_init : Addr
  d_init : FuncData
  T_init : Addr
  f_init : FunD K "__init__" "AnytextError.__init__" (defArgs s_init) (defBody s_init) (defScope s_init) [.non] [] a_init d_init
  tI : PySem.W.typeIn K (.ref a_init) = some (.type "function")
  bI : Binds K d_init ["self", "what"] []
  C_AnytextError : Addr
  C_PatternError : Addr
  C_ProgramError : Addr
  C_RecordError : Addr
  C_BadLine : Addr
  C_BadRecord : Addr
  g_BadLine : mg "BadLine" = some (.ref C_BadLine)
  g_BadRecord : mg "BadRecord" = some (.ref C_BadRecord)
  g_PatternError : mg "PatternError" = some (.ref C_PatternError)
  g_ProgramError : mg "ProgramError" = some (.ref C_ProgramError)
  g_RecordError : mg "RecordError" = some (.ref C_RecordError)
  i_BadLine : PySem.W.isClsIn K C_BadLine = true
  t_BadLine : PySem.W.typeIn K (.ref C_BadLine) = some (.type "type")
  e_BadLine : PySem.W.subIn K (.ref C_BadLine) (.type "BaseException") = some true
  h_BadLine : PySem.W.hasDictIn K C_BadLine = true
  i_BadRecord : PySem.W.isClsIn K C_BadRecord = true
  t_BadRecord : PySem.W.typeIn K (.ref C_BadRecord) = some (.type "type")
  e_BadRecord : PySem.W.subIn K (.ref C_BadRecord) (.type "BaseException") = some true
  h_BadRecord : PySem.W.hasDictIn K C_BadRecord = true
  i_PatternError : PySem.W.isClsIn K C_PatternError = true
  t_PatternError : PySem.W.typeIn K (.ref C_PatternError) = some (.type "type")
  e_PatternError : PySem.W.subIn K (.ref C_PatternError) (.type "BaseException") = some true
  h_PatternError : PySem.W.hasDictIn K C_PatternError = true
  i_ProgramError : PySem.W.isClsIn K C_ProgramError = true
  t_ProgramError : PySem.W.typeIn K (.ref C_ProgramError) = some (.type "type")
  e_ProgramError : PySem.W.subIn K (.ref C_ProgramError) (.type "BaseException") = some true
  h_ProgramError : PySem.W.hasDictIn K C_ProgramError = true
  i_RecordError : PySem.W.isClsIn K C_RecordError = true
  t_RecordError : PySem.W.typeIn K (.ref C_RecordError) = some (.type "type")
  e_RecordError : PySem.W.subIn K (.ref C_RecordError) (.type "BaseException") = some true
  h_RecordError : PySem.W.hasDictIn K C_RecordError = true
  x_BadRecord : ErrX K C_BadRecord a_init
  s_BadRecord_BadLine : PySem.W.subIn K (.ref C_BadRecord) (.ref C_BadLine) = some false
  s_BadRecord_BadRecord : PySem.W.subIn K (.ref C_BadRecord) (.ref C_BadRecord) = some true
  s_BadRecord_PatternError : PySem.W.subIn K (.ref C_BadRecord) (.ref C_PatternError) = some false
  s_BadRecord_ProgramError : PySem.W.subIn K (.ref C_BadRecord) (.ref C_ProgramError) = some false
  s_BadRecord_RecordError : PySem.W.subIn K (.ref C_BadRecord) (.ref C_RecordError) = some true
  clsB : ClsB K
  C_ValueReader : Addr
  g_ValueReader : mg "ValueReader" = some (.ref C_ValueReader)
  cl_ValueReader : Cls K C_ValueReader
  na_ValueReader_text : NoAttr K C_ValueReader "text"
  na_ValueReader_place : NoAttr K C_ValueReader "place"
  a_ValueReader_init : Addr
  d_ValueReader_init : FuncData
  f_ValueReader_init : Fun K "__init__" "ValueReader.__init__" s_ValueReader_init a_ValueReader_init d_ValueReader_init
  b_ValueReader_init : Binds K d_ValueReader_init ["self", "text", "place"] []
  mk_ValueReader : Mk K C_ValueReader a_ValueReader_init
  a_ValueReader_faces : Addr
  d_ValueReader_faces : FuncData
  f_ValueReader_faces : Fun K "faces" "ValueReader.faces" s_ValueReader_faces a_ValueReader_faces d_ValueReader_faces
  b_ValueReader_faces : Binds K d_ValueReader_faces ["self", "signs"] []
  m_ValueReader_faces : Meth K C_ValueReader "faces" a_ValueReader_faces
  a_ValueReader_take : Addr
  d_ValueReader_take : FuncData
  f_ValueReader_take : Fun K "take" "ValueReader.take" s_ValueReader_take a_ValueReader_take d_ValueReader_take
  b_ValueReader_take : Binds K d_ValueReader_take ["self", "signs"] []
  m_ValueReader_take : Meth K C_ValueReader "take" a_ValueReader_take
  a_ValueReader_whole : Addr
  d_ValueReader_whole : FuncData
  f_ValueReader_whole : Fun K "whole" "ValueReader.whole" s_ValueReader_whole a_ValueReader_whole d_ValueReader_whole
  b_ValueReader_whole : Binds K d_ValueReader_whole ["self"] []
  m_ValueReader_whole : Meth K C_ValueReader "whole" a_ValueReader_whole
  a_ValueReader_value : Addr
  d_ValueReader_value : FuncData
  f_ValueReader_value : Fun K "value" "ValueReader.value" s_ValueReader_value a_ValueReader_value d_ValueReader_value
  b_ValueReader_value : Binds K d_ValueReader_value ["self", "deep"] []
  m_ValueReader_value : Meth K C_ValueReader "value" a_ValueReader_value
  a_ValueReader_items_behind : Addr
  d_ValueReader_items_behind : FuncData
  f_ValueReader_items_behind : Fun K "items_behind" "ValueReader.items_behind" s_ValueReader_items_behind a_ValueReader_items_behind d_ValueReader_items_behind
  b_ValueReader_items_behind : Binds K d_ValueReader_items_behind ["self", "deep"] []
  m_ValueReader_items_behind : Meth K C_ValueReader "items_behind" a_ValueReader_items_behind
  a_ValueReader_text_behind : Addr
  d_ValueReader_text_behind : FuncData
  f_ValueReader_text_behind : Fun K "text_behind" "ValueReader.text_behind" s_ValueReader_text_behind a_ValueReader_text_behind d_ValueReader_text_behind
  b_ValueReader_text_behind : Binds K d_ValueReader_text_behind ["self"] []
  m_ValueReader_text_behind : Meth K C_ValueReader "text_behind" a_ValueReader_text_behind
  a_ValueReader_number_from : Addr
  d_ValueReader_number_from : FuncData
  f_ValueReader_number_from : Fun K "number_from" "ValueReader.number_from" s_ValueReader_number_from a_ValueReader_number_from d_ValueReader_number_from
  b_ValueReader_number_from : Binds K d_ValueReader_number_from ["self", "start"] []
  m_ValueReader_number_from : Meth K C_ValueReader "number_from" a_ValueReader_number_from
  nb_abs : mg "abs" = none
  nb_bool : mg "bool" = none
  nb_int : mg "int" = none
  nb_isinstance : mg "isinstance" = none
  nb_len : mg "len" = none
  nb_range : mg "range" = none
  nb_repr : mg "repr" = none
  nb_str : mg "str" = none
  nb_tuple : mg "tuple" = none
  t_LETTERS : Tok
  c_LETTERS : mg "LETTERS" = some (.str "abcdefghijklmnopqrstuvwxyzABCDEFGHIJKLMNOPQRSTUVWXYZ0123456789<>=:_@#" t_LETTERS)
  t_DIGITS : Tok
  c_DIGITS : mg "DIGITS" = some (.str "0123456789" t_DIGITS)
  t_MOST_DIGITS : Tok
  c_MOST_DIGITS : mg "MOST_DIGITS" = some (.int 9 t_MOST_DIGITS)
  t_MOST_DEEP : Tok
  c_MOST_DEEP : mg "MOST_DEEP" = some (.int 8 t_MOST_DEEP)
  t_QUOTE : Tok
  c_QUOTE : mg "QUOTE" = some (.str "'" t_QUOTE)
section
variable {P : Program} {w : World} {K : PySem.W.Frag} {mg : Str → Option Value} {base : Heap}
section
/-! ### values in writing: the law's own machine -/
def Dg : List Nat := ("0123456789" : Str).cps.toList
def Lt : List Nat := ("abcdefghijklmnopqrstuvwxyzABCDEFGHIJKLMNOPQRSTUVWXYZ0123456789<>=:_@#" : Str).cps.toList
theorem mem_Dg {c : Nat} : c ∈ Dg ↔ 48 ≤ c ∧ c ≤ 57 := by
  have e : Dg = [48, 49, 50, 51, 52, 53, 54, 55, 56, 57] := by decide +kernel
  rw [e]
  simp only [List.mem_cons, List.not_mem_nil, or_false]
  omega
theorem nq_Lt : 39 ∉ Lt := by decide +kernel
inductive Wn | val | itm | mor | fin
  deriving DecidableEq
/-- how far a run of kept signs goes -/
def sp (ks : List Nat) : List Nat → Nat
  | [] => 0
  | c :: z => if c ∈ ks then sp ks z + 1 else 0
def aft (d : Nat) : Wn := if 0 < d then .mor else .fin
def Sg : List Nat := [84, 70, 39, 40, 48, 49, 50, 51, 52, 53, 54, 55, 56, 57, 41]
/-- one turn of the law's loop: on, or told (none: read; some q: bad at q) -/
def stp (z : List Nat) (d : Nat) (wn : Wn) (p : Nat) : (Nat × Wn × Nat) ⊕ Option Nat :=
  match z[p]? with
  | none => .inr (if wn = .fin then none else some z.length)
  | some s =>
    if wn = .fin then .inr (some p)
    else if (wn = .mor ∧ ¬ (s = 32 ∨ s = 41)) ∨ (wn ≠ .mor ∧ s ∉ Sg) then .inr (some p)
    else if (s = 41 ∧ wn = .val) ∨ (s = 40 ∧ d = 8) then .inr (some p)
    else if s = 39 then
      if z[p + 1 + sp Lt (z.drop (p + 1))]? = some 39 then .inl (d, aft d, p + 1 + sp Lt (z.drop (p + 1)) + 1)
      else .inr (some (p + 1 + sp Lt (z.drop (p + 1))))
    else if 49 ≤ s ∧ s ≤ 57 then .inl (d, aft d, p + 1 + min 8 (sp Dg (z.drop (p + 1))))
    else if s = 40 then .inl (d + 1, .itm, p + 1)
    else if s = 32 then .inl (d, .val, p + 1)
    else if s = 41 then .inl (d - 1, aft (d - 1), p + 1)
    else .inl (d, aft d, p + 1)
inductive Run (z : List Nat) : Nat → Wn → Nat → Option Nat → Prop
  | fin {d : Nat} {w : Wn} {p : Nat} {r : Option Nat} : stp z d w p = .inr r → Run z d w p r
  | go {d d' : Nat} {w w' : Wn} {p p' : Nat} {r : Option Nat} : stp z d w p = .inl (d', w', p') → Run z d' w' p' r → Run z d w p r
theorem Run.det {z : List Nat} {d : Nat} {w : Wn} {p : Nat} {r r' : Option Nat} (h : Run z d w p r) (h' : Run z d w p r') : r = r' := by
  induction h with
  | fin e =>
    cases h' with
    | fin e' => rw [e] at e'; exact Sum.inr.inj e'
    | go e' _ => rw [e] at e'; exact nomatch e'
  | go e _ ih =>
    cases h' with
    | fin e' => rw [e] at e'; exact nomatch e'
    | go e' h' =>
      rw [e] at e'
      obtain ⟨rfl, h⟩ := Prod.mk.inj (Sum.inl.inj e')
      obtain ⟨rfl, rfl⟩ := Prod.mk.inj h
      exact ih h'
/-- written values -/
def wI (i : Int) : List Nat := (Str.ofString (toString i)).cps.toList
mutual
def W : PyData → List Nat
  | .bool b => [if b then 84 else 70]
  | .int i => wI i
  | .str s => 39 :: (s.cps.toList ++ [39])
  | .tuple ds => 40 :: (WL ds ++ [41])
  | _ => []
def WL : List PyData → List Nat
  | [] => []
  | d :: ds => WM (W d) ds
def WM (a : List Nat) : List PyData → List Nat
  | [] => a
  | d :: ds => a ++ 32 :: WM (W d) ds
end
mutual
/-- values that may be written -/
def PV : PyData → Nat → Prop
  | .bool _, _ => True
  | .int i, _ => 0 ≤ i ∧ i < 1000000000
  | .str s, _ => ∀ c ∈ s.cps.toList, c ∈ Lt
  | .tuple _, 0 => False
  | .tuple ds, n + 1 => PVL ds n
  | _, _ => False
def PVL : List PyData → Nat → Prop
  | [], _ => True
  | d :: ds, n => PV d n ∧ PVL ds n
end
theorem wI_digits {n : Nat} : wI (n : Int) = (Nat.toDigits 10 n).map fun c => c.toNat := by
  show (Str.ofString (toString (n : Int))).cps.toList = _
  have e : toString (n : Int) = String.ofList (Nat.toDigits 10 n) := by
    show toString n = _
    exact Nat.toString_eq_ofList_toDigits
  rw [e]
  have := TL.tl_ofString (String.ofList (Nat.toDigits 10 n))
  refine Eq.trans this ?_
  simp
end
section
variable {z : List Nat} {d p s : Nat} {w : Wn}
theorem stp_end (h : z[p]? = none) (hw : w ≠ .fin) : stp z d w p = .inr (some z.length) := by
  unfold stp; rw [h]; simp [hw]
theorem stp_read (h : z[p]? = none) : stp z d .fin p = .inr none := by
  unfold stp; rw [h]; simp
theorem stp_more (h : z[p]? = some s) : stp z d .fin p = .inr (some p) := by
  unfold stp; rw [h]; simp
theorem stp_one (hz : z[p]? = some s) (hw : w = .val ∨ w = .itm) (h : s = 84 ∨ s = 70 ∨ s = 48) : stp z d w p = .inl (d, aft d, p + 1) := by
  unfold stp; rw [hz]
  rcases hw with rfl | rfl <;> rcases h with rfl | rfl | rfl <;> simp [Sg]
theorem stp_num (hz : z[p]? = some s) (hw : w = .val ∨ w = .itm) (h : 49 ≤ s ∧ s ≤ 57) : stp z d w p = .inl (d, aft d, p + 1 + min 8 (sp Dg (z.drop (p + 1)))) := by
  unfold stp; rw [hz]
  have e : s = 49 ∨ s = 50 ∨ s = 51 ∨ s = 52 ∨ s = 53 ∨ s = 54 ∨ s = 55 ∨ s = 56 ∨ s = 57 := by omega
  rcases hw with rfl | rfl <;> rcases e with rfl | rfl | rfl | rfl | rfl | rfl | rfl | rfl | rfl <;> simp [Sg]
theorem stp_txt (hz : z[p]? = some 39) (hw : w = .val ∨ w = .itm) (h : z[p + 1 + sp Lt (z.drop (p + 1))]? = some 39) : stp z d w p = .inl (d, aft d, p + 1 + sp Lt (z.drop (p + 1)) + 1) := by
  unfold stp; rw [hz]
  rcases hw with rfl | rfl <;> simp [Sg, h]
theorem stp_txtB (hz : z[p]? = some 39) (hw : w = .val ∨ w = .itm) (h : z[p + 1 + sp Lt (z.drop (p + 1))]? ≠ some 39) : stp z d w p = .inr (some (p + 1 + sp Lt (z.drop (p + 1)))) := by
  unfold stp; rw [hz]
  rcases hw with rfl | rfl <;> simp [Sg, h]
theorem stp_open (hz : z[p]? = some 40) (hw : w = .val ∨ w = .itm) (h : d ≠ 8) : stp z d w p = .inl (d + 1, .itm, p + 1) := by
  unfold stp; rw [hz]
  rcases hw with rfl | rfl <;> simp [Sg, h]
theorem stp_sp (hz : z[p]? = some 32) : stp z d .mor p = .inl (d, .val, p + 1) := by
  unfold stp; rw [hz]; simp [Sg]
theorem stp_close (hz : z[p]? = some 41) (hw : w = .mor ∨ w = .itm) : stp z d w p = .inl (d - 1, aft (d - 1), p + 1) := by
  unfold stp; rw [hz]
  rcases hw with rfl | rfl <;> simp [Sg]
theorem stp_bad (hz : z[p]? = some s) (h : s ∉ Sg ∨ s = 41 ∨ (s = 40 ∧ d = 8)) : stp z d .val p = .inr (some p) := by
  unfold stp; rw [hz]
  rcases h with h | rfl | ⟨rfl, rfl⟩
  · simp [h]
  · simp [Sg]
  · simp [Sg]
theorem stp_badM (hz : z[p]? = some s) (h : s ≠ 32 ∧ s ≠ 41) : stp z d .mor p = .inr (some p) := by
  unfold stp; rw [hz]; simp [h]
theorem stp_itm (h : z[p]? ≠ some 41) : stp z d .itm p = stp z d .val p := by
  unfold stp
  cases hz : z[p]? with
  | none => simp
  | some s =>
    have : s ≠ 41 := fun e => h (by rw [hz, e])
    simp [this]
theorem Run.itm {r : Option Nat} (h : z[p]? ≠ some 41) (k : Run z d .val p r) : Run z d .itm p r := by
  cases k with
  | fin e => exact .fin (by rw [stp_itm h]; exact e)
  | go e k => exact .go (by rw [stp_itm h]; exact e) k
theorem dr_cons {c : Nat} {t : List Nat} (h : z.drop p = c :: t) : z[p]? = some c ∧ z.drop (p + 1) = t := by
  have e1 : (z.drop p)[0]? = some c := by rw [h]; rfl
  rw [List.getElem?_drop, Nat.add_zero] at e1
  refine ⟨e1, ?_⟩
  rw [← List.drop_drop, h]; rfl
theorem dr_app {a b : List Nat} (h : z.drop p = a ++ b) : z.drop (p + a.length) = b := by
  rw [← List.drop_drop, h, List.drop_left]
theorem sp_app {ks a b : List Nat} (h : ∀ c ∈ a, c ∈ ks) (hb : ∀ c, b.head? = some c → c ∉ ks) : sp ks (a ++ b) = a.length := by
  induction a with
  | nil =>
    cases b with
    | nil => rfl
    | cons c b =>
      show (if c ∈ ks then _ else 0) = 0
      rw [if_neg (hb c rfl)]
  | cons c a ih =>
    show (if c ∈ ks then sp ks (a ++ b) + 1 else 0) = _
    rw [if_pos (h c List.mem_cons_self), ih fun x hx => h x (List.mem_cons_of_mem _ hx)]
    rfl
def nd (b : List Nat) : Prop := ∀ c, b.head? = some c → c ∉ Dg
theorem digits_wI {n : Nat} : ∀ c ∈ wI (n : Int), c ∈ Dg := by
  intro c hc
  rw [wI_digits] at hc
  obtain ⟨x, hx, rfl⟩ := List.mem_map.mp hc
  have := Nat.isDigit_of_mem_toDigits (b := 10) (by decide) (by decide) hx
  rw [mem_Dg]
  unfold Char.isDigit at this
  simp at this
  have h1 := this.1
  have h2 := this.2
  constructor
  · exact h1
  · exact h2
theorem wI_ne {n : Nat} : wI (n : Int) ≠ [] := by
  rw [wI_digits]
  intro h
  have := congrArg List.length h
  rw [List.length_map] at this
  have := Nat.length_toDigits_pos (b := 10) (n := n)
  simp_all
theorem wI_len {n : Nat} (h : n < 1000000000) : (wI (n : Int)).length ≤ 9 := by
  rw [wI_digits, List.length_map]
  exact (Nat.length_toDigits_le_iff (by decide) (by decide)).mpr h
theorem wI_zero : wI 0 = [48] := by decide +kernel
theorem dig_first : ∀ (n : Nat), n ≠ 0 → ∃ c t, Nat.toDigits 10 n = c :: t ∧ 49 ≤ c.toNat ∧ c.toNat ≤ 57 := by
  intro n
  induction n using Nat.strongRecOn with
  | _ n ih =>
    intro hn
    rcases Nat.lt_or_ge n 10 with h | h
    · have e : n = 1 ∨ n = 2 ∨ n = 3 ∨ n = 4 ∨ n = 5 ∨ n = 6 ∨ n = 7 ∨ n = 8 ∨ n = 9 := by omega
      rcases e with rfl | rfl | rfl | rfl | rfl | rfl | rfl | rfl | rfl <;> exact ⟨_, _, rfl, by decide, by decide⟩
    · rw [Nat.toDigits_of_base_le (by decide) h]
      obtain ⟨c, t, e, h1, h2⟩ := ih (n / 10) (by omega) (by omega)
      exact ⟨c, _, by rw [e]; rfl, h1, h2⟩
theorem wI_first {n : Nat} {c : Nat} {t : List Nat} (h : wI (n : Int) = c :: t) (hn : n ≠ 0) : 49 ≤ c ∧ c ≤ 57 := by
  obtain ⟨x, r, e, h1, h2⟩ := dig_first n hn
  rw [wI_digits, e, List.map_cons] at h
  rw [← (List.cons.inj h).1]
  exact ⟨h1, h2⟩
theorem wI_inj {m n : Nat} (h : wI (m : Int) = wI (n : Int)) : m = n := by
  rw [wI_digits, wI_digits] at h
  have e : Nat.toDigits 10 m = Nat.toDigits 10 n := by
    have inj : ∀ a b : List Char, a.map (fun c => c.toNat) = b.map (fun c => c.toNat) → a = b := by
      intro a
      induction a with
      | nil => intro b h; cases b with
        | nil => rfl
        | cons _ _ => exact nomatch h
      | cons x a ih => intro b h; cases b with
        | nil => exact nomatch h
        | cons y b =>
          rw [List.map_cons, List.map_cons] at h
          obtain ⟨h1, h2⟩ := List.cons.inj h
          rw [ih b h2, Char.toNat_inj.mp h1]
    exact inj _ _ h
  have := congrArg (Nat.ofDigitChars 10 · 0) e
  simpa using this
end
section
def WR : List PyData → List Nat
  | [] => []
  | x :: xs => 32 :: (W x ++ WR xs)
theorem WM_eq : ∀ (xs : List PyData) (a : List Nat), WM a xs = a ++ WR xs
  | [], a => by show a = _; rw [WR, List.append_nil]
  | x :: xs, a => by
    show a ++ 32 :: WM (W x) xs = _
    rw [WM_eq xs (W x)]; rfl
theorem W_tup0 : W (.tuple []) = [40, 41] := rfl
theorem W_tup (x : PyData) (xs : List PyData) : W (.tuple (x :: xs)) = 40 :: (W x ++ (WR xs ++ [41])) := by
  show 40 :: (WM (W x) xs ++ [41]) = _
  rw [WM_eq, List.append_assoc]
theorem dg_range {c : Nat} (h : c ∈ Dg) : 48 ≤ c ∧ c ≤ 57 := mem_Dg.mp h
theorem PV_int {i : Int} {n : Nat} (h : PV (.int i) n) : ∃ k : Nat, i = (k : Int) ∧ k < 1000000000 := by
  cases n <;> exact ⟨i.toNat, by have := h.1; omega, by have := h.1; have := h.2; omega⟩
theorem PV_str {s : Str} {n : Nat} (h : PV (.str s) n) : ∀ c ∈ s.cps.toList, c ∈ Lt := by cases n <;> exact h
theorem W_head : ∀ {x : PyData} {n : Nat}, PV x n → ∃ c t, W x = c :: t ∧ c ≠ 41 ∧ c ≠ 32 ∧ (c = 40 → ∃ ds, x = .tuple ds) ∧ (c = 39 → ∃ s, x = .str s) ∧ (48 ≤ c ∧ c ≤ 57 → ∃ i, x = .int i) ∧ (c = 84 ∨ c = 70 → ∃ b, x = .bool b)
  | .bool b, n, _ => by
    cases b
    · exact ⟨70, [], rfl, by decide, by decide, fun h => absurd h (by decide), fun h => absurd h (by decide), fun h => absurd h (by decide), fun _ => ⟨_, rfl⟩⟩
    · exact ⟨84, [], rfl, by decide, by decide, fun h => absurd h (by decide), fun h => absurd h (by decide), fun h => absurd h (by decide), fun _ => ⟨_, rfl⟩⟩
  | .int i, n, h => by
    obtain ⟨k, rfl, hk⟩ := PV_int h
    cases e : wI (k : Int) with
    | nil => exact absurd e wI_ne
    | cons c t =>
      have := dg_range (digits_wI (n := k) c (by rw [e]; exact List.mem_cons_self))
      exact ⟨c, t, e, by omega, by omega, fun h => by omega, fun h => by omega, fun _ => ⟨_, rfl⟩, fun h => by omega⟩
  | .str s, n, _ => ⟨39, _, rfl, by decide, by decide, fun h => absurd h (by decide), fun _ => ⟨_, rfl⟩, fun h => absurd h (by decide), fun h => absurd h (by decide)⟩
  | .tuple ds, n, _ => ⟨40, _, rfl, by decide, by decide, fun _ => ⟨_, rfl⟩, fun h => absurd h (by decide), fun h => absurd h (by decide), fun h => absurd h (by decide)⟩
  | .none, n, h => by cases n <;> exact h.elim
  | .list _, n, h => by cases n <;> exact h.elim
  | .dict _, n, h => by cases n <;> exact h.elim
theorem nd_rest {xs : List PyData} {t : List Nat} : nd (WR xs ++ 41 :: t) := by
  intro c hc h
  have := dg_range h
  cases xs with
  | nil =>
    have : 41 = c := by simpa [WR] using hc
    omega
  | cons x xs =>
    have : 32 = c := by simpa [WR] using hc
    omega
mutual
theorem cons_V : ∀ (x : PyData) {z : List Nat} {d p : Nat} {t : List Nat} {r : Option Nat}, PV x (8 - d) → d ≤ 8 → z.drop p = W x ++ t → nd t → Run z d (aft d) (p + (W x).length) r → Run z d .val p r
  | .bool b, z, d, p, t, r, h, hd, e, _, k => by
    have e : z.drop p = (if b then 84 else 70) :: t := e
    obtain ⟨hz, _⟩ := dr_cons e
    exact .go (stp_one hz (.inl rfl) (by cases b <;> simp)) k
  | .int i, z, d, p, t, r, h, hd, e, hn, k => by
    obtain ⟨n, rfl, hk⟩ := PV_int h
    have e : z.drop p = wI (n : Int) ++ t := e
    have k : Run z d (aft d) (p + (wI (n : Int)).length) r := k
    rcases Nat.eq_zero_or_pos n with rfl | h0
    · have e0 : wI ((0 : Nat) : Int) = [48] := wI_zero
      rw [e0] at e k
      obtain ⟨hz, _⟩ := dr_cons e
      exact .go (stp_one hz (.inl rfl) (by simp)) k
    · cases ew : wI (n : Int) with
      | nil => exact absurd ew wI_ne
      | cons c u =>
        have hl := wI_len hk
        have hdg := digits_wI (n := n)
        rw [ew] at e k hl hdg
        obtain ⟨hz, ez⟩ := dr_cons e
        have hs : sp Dg (z.drop (p + 1)) = u.length := by
          rw [ez]
          exact sp_app (fun c hc => hdg c (List.mem_cons_of_mem _ hc)) hn
        rw [List.length_cons] at hl k
        refine .go (stp_num hz (.inl rfl) (wI_first ew (by omega))) ?_
        rw [hs, Nat.min_eq_right (by omega)]
        rw [show p + 1 + u.length = p + (u.length + 1) by omega]
        exact k
  | .str s, z, d, p, t, r, h, hd, e, _, k => by
    have e : z.drop p = 39 :: (s.cps.toList ++ [39]) ++ t := e
    have k : Run z d (aft d) (p + (39 :: (s.cps.toList ++ [39])).length) r := k
    obtain ⟨hz, ez⟩ := dr_cons e
    have ez : z.drop (p + 1) = s.cps.toList ++ (39 :: t) := by
      rw [ez, List.append_eq, List.append_assoc]; rfl
    have hs : sp Lt (z.drop (p + 1)) = s.cps.toList.length := by
      rw [ez]
      exact sp_app (PV_str h) fun c hc => by
        have : 39 = c := by simpa using hc
        rw [← this]; exact nq_Lt
    have h39 : z[p + 1 + s.cps.toList.length]? = some 39 := (dr_cons (dr_app ez)).1
    refine .go (stp_txt hz (.inl rfl) (by rw [hs]; exact h39)) ?_
    rw [hs]
    rw [show p + (39 :: (s.cps.toList ++ [39])).length = p + 1 + s.cps.toList.length + 1 by simp; omega] at k
    exact k
  | .tuple [], z, d, p, t, r, h, hd, e, _, k => by
    have e : z.drop p = 40 :: 41 :: t := e
    have k : Run z d (aft d) (p + 2) r := k
    obtain ⟨hz, ez⟩ := dr_cons e
    obtain ⟨hz2, _⟩ := dr_cons ez
    have d8 : d ≠ 8 := fun z => by rw [z] at h; exact h
    refine .go (stp_open hz (.inl rfl) d8) (.go (stp_close hz2 (.inr rfl)) ?_)
    rw [Nat.add_sub_cancel]
    exact k
  | .tuple (x :: xs), z, d, p, t, r, h, hd, e, _, k => by
    rw [W_tup] at e k
    have d8 : d ≠ 8 := fun z => by rw [z] at h; exact h
    have e8 : 8 - d = 8 - (d + 1) + 1 := by omega
    rw [e8] at h
    have hx : PV x (8 - (d + 1)) := h.1
    have hxs : PVL xs (8 - (d + 1)) := h.2
    obtain ⟨hz, ez⟩ := dr_cons (t := W x ++ (WR xs ++ 41 :: t)) (by rw [e, List.cons_append, List.append_assoc, List.append_assoc]; rfl)
    refine .go (stp_open hz (.inl rfl) d8) (Run.itm ?_ ?_)
    · obtain ⟨c, u, ew, n41, _⟩ := W_head hx
      rw [ew] at ez
      rw [(dr_cons ez).1]
      exact fun z => n41 (Option.some.inj z)
    · refine cons_V x hx (by omega) ez nd_rest ?_
      have ea : aft (d + 1) = .mor := by unfold aft; rw [if_pos (by omega)]
      rw [ea]
      refine cons_L xs hxs (by omega) (by omega) (dr_app ez) ?_
      rw [Nat.add_sub_cancel]
      rw [show p + 1 + (W x).length + (WR xs).length + 1 = p + (40 :: (W x ++ (WR xs ++ [41]))).length by simp; omega]
      exact k
  | .none, _, d, _, _, _, h, _, _, _, _ => by cases e : 8 - d <;> rw [e] at h <;> exact h.elim
  | .list _, _, d, _, _, _, h, _, _, _, _ => by cases e : 8 - d <;> rw [e] at h <;> exact h.elim
  | .dict _, _, d, _, _, _, h, _, _, _, _ => by cases e : 8 - d <;> rw [e] at h <;> exact h.elim
theorem cons_L : ∀ (xs : List PyData) {z : List Nat} {d p : Nat} {t : List Nat} {r : Option Nat}, PVL xs (8 - d) → d ≤ 8 → 0 < d → z.drop p = WR xs ++ 41 :: t → Run z (d - 1) (aft (d - 1)) (p + (WR xs).length + 1) r → Run z d .mor p r
  | [], z, d, p, t, r, _, _, _, e, k => .go (stp_close (dr_cons e).1 (.inl rfl)) k
  | x :: xs, z, d, p, t, r, h, hd, d0, e, k => by
    have e : z.drop p = 32 :: (W x ++ (WR xs ++ 41 :: t)) := by
      rw [e]
      show 32 :: (W x ++ WR xs) ++ 41 :: t = _
      rw [List.cons_append, List.append_assoc]
    obtain ⟨hz, ez⟩ := dr_cons e
    refine .go (stp_sp hz) (cons_V x h.1 hd ez nd_rest ?_)
    have ea : aft d = .mor := by unfold aft; rw [if_pos d0]
    rw [ea]
    refine cons_L xs h.2 hd d0 (dr_app ez) ?_
    rw [show p + 1 + (W x).length + (WR xs).length + 1 = p + (WR (x :: xs)).length + 1 by show _ = p + (32 :: (W x ++ WR xs)).length + 1; simp; omega]
    exact k
end
end
section
theorem split_ks {ks : List Nat} : ∀ {a a' s s' : List Nat}, (∀ c ∈ a, c ∈ ks) → (∀ c ∈ a', c ∈ ks) → (∀ c, s.head? = some c → c ∉ ks) → (∀ c, s'.head? = some c → c ∉ ks) → a ++ s = a' ++ s' → a = a' ∧ s = s'
  | [], [], s, s', _, _, _, _, e => ⟨rfl, e⟩
  | [], c :: a', s, s', _, h', hs, _, e => by
    have e : s = c :: (a' ++ s') := e
    exact absurd (h' c List.mem_cons_self) (hs c (by rw [e]; rfl))
  | c :: a, [], s, s', h, _, _, hs', e => by
    have e : c :: (a ++ s) = s' := e
    exact absurd (h c List.mem_cons_self) (hs' c (by rw [← e]; rfl))
  | c :: a, c' :: a', s, s', h, h', hs, hs', e => by
    obtain ⟨e0, e1⟩ := List.cons.inj (show c :: (a ++ s) = c' :: (a' ++ s') from e)
    obtain ⟨e2, e3⟩ := split_ks (fun x hx => h x (List.mem_cons_of_mem _ hx)) (fun x hx => h' x (List.mem_cons_of_mem _ hx)) hs hs' e1
    exact ⟨by rw [e0, e2], e3⟩
theorem head_eq {a b s t : List Nat} {c d : Nat} {u v : List Nat} (e : a ++ s = b ++ t) (ha : a = c :: u) (hb : b = d :: v) : c = d := by
  rw [ha, hb] at e
  exact (List.cons.inj e).1
mutual
theorem inj_V : ∀ (x y : PyData) {n m : Nat} {s t : List Nat}, PV x n → PV y m → W x ++ s = W y ++ t → nd s → nd t → x = y ∧ s = t
  | .bool b, y, n, m, s, t, hx, hy, e, _, _ => by
    obtain ⟨c, u, ew, _, _, _, _, _, h5⟩ := W_head hy
    have e0 : W (.bool b) = (if b then 84 else 70) :: [] := rfl
    have ec := head_eq e e0 ew
    obtain ⟨b', rfl⟩ := h5 (by rw [← ec]; cases b <;> simp)
    have e : (if b then 84 else 70) :: s = (if b' then 84 else 70) :: t := e
    obtain ⟨e1, e2⟩ := List.cons.inj e
    refine ⟨?_, e2⟩
    cases b <;> cases b'
    · rfl
    · exact absurd e1 (by decide)
    · exact absurd e1 (by decide)
    · rfl
  | .int i, y, n, m, s, t, hx, hy, e, hs, ht => by
    obtain ⟨k, rfl, hk⟩ := PV_int hx
    obtain ⟨c, u, ew, _, _, _, _, h4, _⟩ := W_head hy
    cases e0 : wI (k : Int) with
    | nil => exact absurd e0 wI_ne
    | cons c0 u0 =>
      have ec := head_eq e (show W (.int (k : Int)) = c0 :: u0 from e0) ew
      have hc := dg_range (digits_wI (n := k) c0 (by rw [e0]; exact List.mem_cons_self))
      obtain ⟨i', rfl⟩ := h4 (by rw [← ec]; exact hc)
      obtain ⟨k', rfl, hk'⟩ := PV_int hy
      obtain ⟨e1, e2⟩ := split_ks (digits_wI (n := k)) (digits_wI (n := k')) hs ht e
      rw [wI_inj e1]
      exact ⟨rfl, e2⟩
  | .str a, y, n, m, s, t, hx, hy, e, hs, ht => by
    obtain ⟨c, u, ew, _, _, _, h3, _, _⟩ := W_head hy
    have ec := head_eq e (show W (.str a) = 39 :: (a.cps.toList ++ [39]) from rfl) ew
    obtain ⟨a', rfl⟩ := h3 ec.symm
    have e : 39 :: (a.cps.toList ++ [39]) ++ s = 39 :: (a'.cps.toList ++ [39]) ++ t := e
    rw [List.cons_append, List.cons_append, List.append_assoc, List.append_assoc] at e
    have nq : ∀ w : List Nat, ∀ c, ([39] ++ w).head? = some c → c ∉ Lt := fun w c hc => by
      have : 39 = c := by simpa using hc
      rw [← this]; exact nq_Lt
    obtain ⟨e1, e2⟩ := split_ks (PV_str hx) (PV_str hy) (nq s) (nq t) (List.cons.inj e).2
    obtain ⟨a⟩ := a
    obtain ⟨a'⟩ := a'
    have e1 : a.toList = a'.toList := e1
    rw [Array.toList_inj.mp e1]
    exact ⟨rfl, (List.cons.inj e2).2⟩
  | .tuple [], y, n, m, s, t, hx, hy, e, hs, ht => by
    obtain ⟨c, u, ew, _, _, h2, _, _, _⟩ := W_head hy
    have ec := head_eq e W_tup0 ew
    obtain ⟨ds, rfl⟩ := h2 ec.symm
    cases ds with
    | nil =>
      rw [W_tup0] at e
      exact ⟨rfl, (List.cons.inj (List.cons.inj e).2).2⟩
    | cons y ys =>
      cases m with
      | zero => exact hy.elim
      | succ m =>
        obtain ⟨c, u, ew, n41, _⟩ := W_head (x := y) hy.1
        rw [W_tup0, W_tup, ew] at e
        have := (List.cons.inj (List.cons.inj e).2).1
        exact absurd this.symm n41
  | .tuple (x :: xs), y, n, m, s, t, hx, hy, e, hs, ht => by
    obtain ⟨c, u, ew, _, _, h2, _, _, _⟩ := W_head hy
    have ec := head_eq e (W_tup x xs) ew
    obtain ⟨ds, rfl⟩ := h2 ec.symm
    cases n with
    | zero => exact hx.elim
    | succ n =>
      have hx1 : PV x n := hx.1
      have hx2 : PVL xs n := hx.2
      cases ds with
      | nil =>
        obtain ⟨c, u, ew, n41, _⟩ := W_head hx1
        rw [W_tup0, W_tup, ew] at e
        exact absurd (List.cons.inj (List.cons.inj e).2).1 n41
      | cons y ys =>
        cases m with
        | zero => exact hy.elim
        | succ m =>
          rw [W_tup, W_tup] at e
          have e : W x ++ (WR xs ++ [41]) ++ s = W y ++ (WR ys ++ [41]) ++ t := (List.cons.inj e).2
          rw [List.append_assoc, List.append_assoc, List.append_assoc, List.append_assoc] at e
          obtain ⟨e1, e2⟩ := inj_V x y hx1 hy.1 e nd_rest nd_rest
          obtain ⟨e3, e4⟩ := inj_L xs ys hx2 hy.2 e2
          rw [e1, e3]
          exact ⟨rfl, e4⟩
  | .none, _, n, _, _, _, h, _, _, _, _ => by cases n <;> exact h.elim
  | .list _, _, n, _, _, _, h, _, _, _, _ => by cases n <;> exact h.elim
  | .dict _, _, n, _, _, _, h, _, _, _, _ => by cases n <;> exact h.elim
theorem inj_L : ∀ (xs ys : List PyData) {n m : Nat} {s t : List Nat}, PVL xs n → PVL ys m → WR xs ++ 41 :: s = WR ys ++ 41 :: t → xs = ys ∧ s = t
  | [], [], n, m, s, t, _, _, e => ⟨rfl, (List.cons.inj e).2⟩
  | [], y :: ys, n, m, s, t, _, _, e => absurd (List.cons.inj (show 41 :: s = 32 :: _ from e)).1 (by decide)
  | x :: xs, [], n, m, s, t, _, _, e => absurd (List.cons.inj (show 32 :: _ = 41 :: t from e)).1 (by decide)
  | x :: xs, y :: ys, n, m, s, t, hx, hy, e => by
    have e : 32 :: (W x ++ WR xs) ++ 41 :: s = 32 :: (W y ++ WR ys) ++ 41 :: t := e
    rw [List.cons_append, List.cons_append, List.append_assoc, List.append_assoc] at e
    obtain ⟨e1, e2⟩ := inj_V x y hx.1 hy.1 (List.cons.inj e).2 nd_rest nd_rest
    obtain ⟨e3, e4⟩ := inj_L xs ys hx.2 hy.2 e2
    rw [e1, e3]
    exact ⟨rfl, e4⟩
end
end
/-! ### the helpers that all laws have: cells of the script, numbers, a state, the next drawn number -/
def spCell (K : PySem.W.Frag) : Sp := fun vs H Q _ => ∃ (l : Addr) (ns : List Int) (k : Int), vs = [.ref l, .int k] ∧ SqL K H l (ns.map V.int) ∧ 0 ≤ k ∧ ∀ z, Q (.int z) H
theorem ok_cell (T : Txt K mg) : FnOk P w K mg base CX0 1 T.a_cell T.d_cell ["script", "k"] (spCell K) := by
  refine T.f_cell.ok sc_cell (fun vs H Q E h => ?_) (fun cdv A outer s H vs Q E hr h => ?_)
  · obtain ⟨_, _, _, rfl, _⟩ := h; rfl
  · obtain ⟨l, ns, k, rfl, hs, h0, q⟩ := h
    refine ⟨_, (pss_cons (ps_if (pt_cmpR op_ltP (pv 1) (pe_callB (kLen K) (by rfl) T.nb_len (by decide +kernel) (pa_cons (pv 0) pa_nil)) (by first | rfl | exact nomark _))
    (pss_one (ps_ret (pe_ix (kIx K) (pv 0) (pv 1) (fun _ _ => rfl))))
    pss_nil)
  (pss_one (ps_ret pe_int))), ?_⟩
    walk_at "rd"
    refine rd_iteD (fun h1 => ?_) (fun h1 => ?_)
    · walk_at "rd"
      rw [List.length_map] at h1
      refine rd_ixL (v := .int (ns.getD k.toNat 0)) hs ?_ (q _)
      have e : k = (k.toNat : Int) := (Int.toNat_of_nonneg h0).symm
      rw [e]
      refine atI_nat ?_
      rw [List.getElem?_map, Int.toNat_natCast, List.getD_eq_getElem?_getD, List.getElem?_eq_getElem (show k.toNat < ns.length by omega)]
      rfl
    · walk_at "rd"
      exact q 0
/-- numbers from 0 to 999 -/
def Small (ns : List Int) : Prop := ∀ x ∈ ns, 0 ≤ x ∧ x < 1000
theorem Small.more {ns : List Int} {x : Int} (h : Small ns) (h0 : 0 ≤ x) (h1 : x < 1000) : Small (ns ++ [x]) := fun y hy => by
  rcases List.mem_append.mp hy with hy | hy
  · exact h y hy
  · rw [List.mem_singleton.mp hy]; exact ⟨h0, h1⟩
theorem Small.app {ns ms : List Int} (h : Small ns) (k : Small ms) : Small (ns ++ ms) := fun y hy => (List.mem_append.mp hy).elim (h y) (k y)
theorem fmod_small {a m : Int} (h : 0 < m) : 0 ≤ a.fmod m ∧ a.fmod m < m := by
  rw [Int.fmod_eq_emod_of_nonneg _ (Int.le_of_lt h)]
  exact ⟨Int.emod_nonneg _ (by omega), Int.emod_lt_of_pos _ h⟩
/-- a new list of small numbers -/
def spNumbers : Sp := fun vs H Q _ => ∃ (c m : Int), vs = [.int c, .int m] ∧ 0 ≤ m ∧ m ≤ 1000 ∧ ∀ (p : Addr) (ns : List Int) (H' : Hp), H p = none → Ex H H' → H' p = some (.lst (ns.map V.int)) → (ns.length : Int) = m → Small ns → Q (.ref p) H'
theorem append_int {H' : Hp} {p : Addr} {ns : List Int} {D : VK} {K : PySem.W.Frag} {i : Nat} {x : Int} (hp : H' p = some (.lst (ns.map V.int))) (hi : ns.length = i) (hl : i < 100000) (q : D .non (upd H' p (.lst ((ns ++ [x]).map V.int)))) :
    rAppend (.ref p) [.int x] H' D := ⟨p, ns.map V.int, .int x, rfl, rfl, hp, Nat.lt_of_lt_of_le (by rw [List.length_map, hi]; exact hl) (by decide), by rw [List.map_append] at q; exact q⟩
theorem ok_numbers (T : Txt K mg) : FnOk P w K mg base CX0 1 T.a_numbers T.d_numbers ["cell", "many"] spNumbers := by
  refine T.f_numbers.ok sc_numbers (fun vs H Q E h => ?_) (fun cdv A outer s H vs Q E hr h => ?_)
  · obtain ⟨_, _, rfl, _⟩ := h; rfl
  · obtain ⟨c, m, rfl, h0, h1, q⟩ := h
    refine ⟨_, (pss_cons (ps_set (i := 2) sc_numbers.nd rfl (by first | exact Or.inl rfl | exact Or.inr rfl) (pe_callB call_absP (by rfl) T.nb_abs (by decide +kernel) (pa_cons (pv 0) pa_nil)))
  (pss_cons (ps_set (i := 3) sc_numbers.nd rfl (by first | exact Or.inl rfl | exact Or.inr rfl) (pv 2))
  (pss_cons (ps_set (i := 4) sc_numbers.nd rfl (by first | exact Or.inl rfl | exact Or.inr rfl) (pe_lst pa_nil))
  (pss_cons (ps_for PassesOwn.never rfl (pi_range1 (by rfl) T.nb_range (pa_cons (pv 1) pa_nil)) (pg_name (i := 5) sc_numbers.nd rfl (by first | exact Or.inl rfl | exact Or.inr rfl))
    (pss_one (ps_if (PW.pt (pw_and (pt_cmpR op_geP (pv 3) (pe_op op_powP pe_int pe_int) (by first | rfl | exact nomark _)) (pw_and1 (pt_cmpR op_gtP (pv 2) pe_int (by first | rfl | exact nomark _)))))
    (pss_cons (ps_expr (kBm K rfl (pe_bm PySem.F.plainAttrs_list PySem.F.slot_list_append PySem.F.type_list_append mt_append (pv 4) (pa_cons (pe_op op_modP (pe_callTy call_intP (by rfl) T.nb_int (by decide +kernel) (pa_cons (pv 2) pa_nil)) pe_int) pa_nil))))
  (pss_one (ps_set (i := 2) sc_numbers.nd rfl (by first | exact Or.inl rfl | exact Or.inr rfl) (pe_op op_divP (pv 2) pe_int))))
    (pss_cons (ps_set (i := 6) sc_numbers.nd rfl (by first | exact Or.inl rfl | exact Or.inr rfl) (pe_op op_modP (pe_callTy call_intP (by rfl) T.nb_int (by decide +kernel) (pa_cons (pe_op (kAdd K) (pe_op (kAdd K) (pe_op op_mulPP (pv 3) pe_int) (pe_op op_mulPP (pv 5) pe_int)) pe_int) pa_nil)) pe_int))
  (pss_cons (ps_set (i := 6) sc_numbers.nd rfl (by first | exact Or.inl rfl | exact Or.inr rfl) (pe_op op_modP (pe_callTy call_intP (by rfl) T.nb_int (by decide +kernel) (pa_cons (pe_op (kAdd K) (pe_op (kAdd K) (pe_op op_mulPP (pv 6) (pv 6)) (pe_op op_mulPP pe_int (pv 5))) pe_int) pa_nil)) pe_int))
  (pss_one (ps_expr (kBm K rfl (pe_bm PySem.F.plainAttrs_list PySem.F.slot_list_append PySem.F.type_list_append mt_append (pv 4) (pa_cons (pe_op op_modP (pe_callTy call_intP (by rfl) T.nb_int (by decide +kernel) (pa_cons (pe_op op_divP (pv 6) pe_int) pa_nil)) pe_int) pa_nil))))))))))
  (pss_one (ps_ret (pv 4))))))), ?_⟩
    walk_at "rd"
    refine ⟨by decide, fun p hp => ?_⟩
    walk_at "rd"
    refine ⟨_, rfl, by omega, by omega, fo_range (n := m.toNat) (fun i σ H' => ∃ (r : Int) (ns : List Int) (kk mm : Option V), σ = [some (.int c), some (.int m), some (.int r), some (.int (if c < 0 then -c else c)), some (.ref p), kk, mm] ∧ Ex H H' ∧ H' p = some (.lst (ns.map V.int)) ∧ ns.length = i ∧ Small ns)
      ⟨_, [], none, none, rfl, Evl.Ex.new hp, upd_same, rfl, fun x hx => by cases hx⟩ ?_ ?_⟩
    · rintro i σ H' hi ⟨r, ns, kk, mm, rfl, e, hl, hn, sm⟩
      have tl : tyV K "list" (.ref p) H' := .inl ⟨rfl, _, SqL.of hl⟩
      walk_at "rd"
      refine rd_powI ⟨by decide, by decide, by decide⟩ ?_
      walk_at "rd"
      refine rd_ite (fun h2 => ?_) (fun h2 => ?_)
      · walk_at "rd"
        refine rd_ite (fun h3 => ?_) (fun h3 => ?_)
        · walk_at "rd"
          refine ⟨tl, ?_⟩
          walk_at "rd"
          refine rd_modI (by decide) ?_
          walk_at "rd"
          refine append_int (K := K) hl hn (by omega) ?_
          walk_at "rd"
          refine rd_divI ⟨by decide, by decide⟩ ?_
          walk_at "rd"
          have fm := fmod_small (a := r) (m := 1000) (by decide)
          exact ⟨_, ns ++ [_], _, _, rfl, Evl.Ex.mut e hp, upd_same, by rw [List.length_append, hn]; rfl, sm.more fm.1 fm.2⟩
        · walk_at "rd"
          refine rd_mulN (.inr ⟨by decide, by decide⟩) ?_
          walk_at "rd"
          refine rd_mulN (.inr ⟨by decide, by decide⟩) ?_
          walk_at "rd"
          refine rd_modI (by decide) ?_
          walk_at "rd"
          have fa := fmod_small (a := (if c < 0 then -c else c) * 48271 + (i : Int) * 69621 + 11) (m := 2147483647) (by decide)
          refine rd_mulN (.inl ⟨by omega, by omega⟩) ?_
          walk_at "rd"
          refine rd_mulN (.inl ⟨by decide, by decide⟩) ?_
          walk_at "rd"
          refine rd_modI (by decide) ?_
          walk_at "rd"
          refine ⟨tl, ?_⟩
          walk_at "rd"
          refine rd_divI ⟨by decide, by decide⟩ ?_
          walk_at "rd"
          refine rd_modI (by decide) ?_
          walk_at "rd"
          refine append_int (K := K) hl hn (by omega) ?_
          have fm := fun a : Int => fmod_small (a := a) (m := 1000) (by decide)
          exact ⟨_, ns ++ [_], _, _, rfl, Evl.Ex.mut e hp, upd_same, by rw [List.length_append, hn]; rfl, sm.more (fm _).1 (fm _).2⟩
      · walk_at "rd"
        refine rd_mulN (.inr ⟨by decide, by decide⟩) ?_
        walk_at "rd"
        refine rd_mulN (.inr ⟨by decide, by decide⟩) ?_
        walk_at "rd"
        refine rd_modI (by decide) ?_
        walk_at "rd"
        have fa := fmod_small (a := (if c < 0 then -c else c) * 48271 + (i : Int) * 69621 + 11) (m := 2147483647) (by decide)
        refine rd_mulN (.inl ⟨by omega, by omega⟩) ?_
        walk_at "rd"
        refine rd_mulN (.inl ⟨by decide, by decide⟩) ?_
        walk_at "rd"
        refine rd_modI (by decide) ?_
        walk_at "rd"
        refine ⟨tl, ?_⟩
        walk_at "rd"
        refine rd_divI ⟨by decide, by decide⟩ ?_
        walk_at "rd"
        refine rd_modI (by decide) ?_
        walk_at "rd"
        refine append_int (K := K) hl hn (by omega) ?_
        have fm := fun a : Int => fmod_small (a := a) (m := 1000) (by decide)
        exact ⟨_, ns ++ [_], _, _, rfl, Evl.Ex.mut e hp, upd_same, by rw [List.length_append, hn]; rfl, sm.more (fm _).1 (fm _).2⟩
    · rintro σ H' ⟨r, ns, kk, mm, rfl, e, hl, hn, sm⟩
      walk_at "rd"
      exact q p ns H' hp e hl (by omega) sm
/-- a state: the numbers, the place -/
def StAt (H : Hp) (p : Addr) : Prop := ∃ (l : Addr) (ns : List Int) (place : Int), H p = some (.lst [.ref l, .int place]) ∧ H l = some (.lst (ns.map V.int)) ∧ Small ns ∧ 0 < ns.length ∧ ns.length ≤ 100000 ∧ 0 ≤ place
theorem StAt.ex {H H' : Hp} {p : Addr} (h : StAt H p) (e : Ex H H') : StAt H' p := by
  obtain ⟨l, ns, pl, h1, h2, h3⟩ := h
  exact ⟨l, ns, pl, e _ _ h1, e _ _ h2, h3⟩
def spState (K : PySem.W.Frag) : Sp := fun vs H Q _ => ∃ (l : Addr) (ns : List Int) (st many : Int), vs = [.ref l, .int st, .int many] ∧ SqL K H l (ns.map V.int) ∧ 0 ≤ st ∧ st ≤ 1000 ∧ 0 < many ∧ many ≤ 1000 ∧
  ∀ (p : Addr) (H' : Hp), H p = none → Ex H H' → StAt H' p → Q (.ref p) H'
theorem ok_state (T : Txt K mg) : FnOk P w K mg base CX0 2 T.a_state T.d_state ["script", "start", "many"] (spState K) := by
  refine T.f_state.ok sc_state (fun vs H Q E h => ?_) (fun cdv A outer s H vs Q E hr h => ?_)
  · obtain ⟨_, _, _, _, rfl, _⟩ := h; rfl
  · obtain ⟨l, ns, st, many, rfl, hs, h0, h1, h2, h3, q⟩ := h
    refine ⟨_, (pss_cons (ps_set (i := 3) sc_state.nd rfl (by first | exact Or.inl rfl | exact Or.inr rfl) (pe_lst pa_nil))
  (pss_cons (ps_for PassesOwn.never rfl (pi_range2 (by rfl) T.nb_range (pa_cons (pv 1) (pa_cons (pe_op (kAdd K) (pv 1) (pv 2)) pa_nil))) (pg_name (i := 4) sc_state.nd rfl (by first | exact Or.inl rfl | exact Or.inr rfl))
    (pss_cons (ps_set (i := 5) sc_state.nd rfl (by first | exact Or.inl rfl | exact Or.inr rfl) (pe_callE (ok_cell T) (hr.mono (by decide)) T.o_cell (pa_cons (pv 0) (pa_cons (pv 4) pa_nil))))
  (pss_cons (ps_if (pt_cmpR op_ltP (pe_callB call_absP (by rfl) T.nb_abs (by decide +kernel) (pa_cons (pv 5) pa_nil)) (pe_op op_powP pe_int pe_int) (by first | rfl | exact nomark _))
    (pss_one (ps_set (i := 5) sc_state.nd rfl (by first | exact Or.inl rfl | exact Or.inr rfl) (pe_op (kAdd K) (pe_op op_mulPP (pv 5) pe_int) (pv 4))))
    pss_nil)
  (pss_one (ps_set (i := 3) sc_state.nd rfl (by first | exact Or.inl rfl | exact Or.inr rfl) (pe_op (kAdd K) (pv 3) (pe_callE (ok_numbers T) (hr.mono (by decide)) T.o_numbers (pa_cons (pv 5) (pa_cons pe_int pa_nil)))))))))
  (pss_one (ps_ret (pe_lst (pa_cons (pv 3) (pa_cons pe_int pa_nil))))))), ?_⟩
    walk_at "rd"
    refine ⟨by decide, fun p hp => ?_⟩
    walk_at "rd"
    refine ⟨_, _, rfl, ⟨by omega, by omega, by omega, by omega⟩, fo_range2 (lo := st) (n := (st + many - st).toNat) (fun i σ H' => ∃ (p2 : Addr) (ms : List Int) (kk cc : Option V), σ = [some (.ref l), some (.int st), some (.int many), some (.ref p2), kk, cc] ∧ Ex H H' ∧ H p2 = none ∧ H' p2 = some (.lst (ms.map V.int)) ∧ ms.length = i * 20 ∧ Small ms)
      ⟨p, [], none, none, rfl, Evl.Ex.new hp, hp, upd_same, rfl, fun x hx => by cases hx⟩ ?_ ?_⟩
    · rintro i σ H' hi ⟨p2, ms, kk, cc, rfl, e, hp2, hl, hn, sm⟩
      walk_at "rd"
      refine ⟨l, ns, _, rfl, Evl.ex_l e hs, by omega, fun z => ?_⟩
      walk_at "rd"
      refine rd_powI ⟨by decide, by decide, by decide⟩ ?_
      walk_at "rd"
      have hi2 : i < 1000 := by omega
      have fin : ∀ (z2 : Int) (cc : Option V), cc = some (.int z2) → tAsg (tOp (oAdd K) (tVar 3) (tCalled spNumbers (tCons (tVar 5) (tCons (tC (.int 20)) tNil)))) (gName 3)
          { nx := fun σ H' => ∃ (p2 : Addr) (ms : List Int) (kk cc : Option V), σ = [some (.ref l), some (.int st), some (.int many), some (.ref p2), kk, cc] ∧ Ex H H' ∧ H p2 = none ∧ H' p2 = some (.lst (ms.map V.int)) ∧ ms.length = (i + 1) * 20 ∧ Small ms, rt := Q } [some (.ref l), some (.int st), some (.int many), some (.ref p2), some (.int (st + (i : Int))), cc] H' := by
        rintro z2 cc rfl
        walk_at "rd"
        refine ⟨z2, 20, rfl, by decide, by decide, fun p3 ns3 H3 hp3 e3 hl3 hn3 sm3 => ?_⟩
        refine rd_cat (e3 _ _ hl) hl3 ?_ fun p4 hp4 => ?_
        · rw [List.length_map, List.length_map, hn]
          refine Nat.le_trans (show i * 20 + ns3.length ≤ 100000 by omega) (by decide)
        · walk_at "rd"
          refine ⟨p4, ms ++ ns3, _, _, rfl, ex_upd (e.trans e3) hp4, Evl.fresh_back (e.trans e3) hp4, ?_, ?_, sm.app sm3⟩
          · rw [upd_same, List.map_append]
          · rw [List.length_append, hn]; omega
      refine rd_ite (fun h4 => ?_) (fun h4 => ?_)
      · walk_at "rd"
        refine rd_mulN (.inr ⟨by decide, by decide⟩) ?_
        walk_at "rd1"
        walk_at "rd1"
        walk_at "rd1"
        walk_at "rd1"
        exact fin _ _ rfl
      · exact fin _ _ rfl
    · rintro σ H' ⟨p2, ms, kk, cc, rfl, e, hp2, hl, hn, sm⟩
      walk_at "rd"
      refine ⟨by show 2 ≤ sizeLine; decide, fun p3 hp3 => ?_⟩
      refine q p3 _ (Evl.fresh_back e hp3) (ex_upd e hp3) ⟨p2, ms, 0, upd_same, ?_, sm, by omega, by omega, by decide⟩
      rw [upd_ne (ne_of_none hl hp3)]
      exact hl
/-- the same list within -/
def SameIn (p : Addr) (H H' : Hp) : Prop := ∀ (l : Addr) (n : V), H p = some (.lst [.ref l, n]) → ∃ n', H' p = some (.lst [.ref l, n'])
theorem SameIn.trans {p : Addr} {H H1 H2 : Hp} (a : SameIn p H H1) (b : SameIn p H1 H2) : SameIn p H H2 := fun l n e => by
  obtain ⟨n1, e1⟩ := a l n e
  exact b l n1 e1
theorem SameIn.ex {p : Addr} {H H1 H2 : Hp} (a : SameIn p H H1) (b : Ex H1 H2) : SameIn p H H2 := fun l n e => by
  obtain ⟨n1, e1⟩ := a l n e
  exact ⟨n1, b _ _ e1⟩
/-- the next number below many: any -/
def spNext : Sp := fun vs H Q _ => ∃ (p : Addr) (many : Int), vs = [.ref p, .int many] ∧ 0 < many ∧ StAt H p ∧ ∀ (r : Int) (H' : Hp), 0 ≤ r → r < many → StAt H' p → (∀ b o, b ≠ p → H b = some o → H' b = some o) → ((∀ b, H b = none → H' b = none) ∧ SameIn p H H') → Q (.int r) H'
theorem ok_next (T : Txt K mg) : FnOk P w K mg base CX0 1 T.a_next T.d_next ["state", "many"] spNext := by
  refine T.f_next.ok sc_next (fun vs H Q E h => ?_) (fun cdv A outer s H vs Q E hr h => ?_)
  · obtain ⟨_, _, rfl, _⟩ := h; rfl
  · obtain ⟨p, many, rfl, hm, ⟨l, ns, place, h1, h2, sm, l0, l1, p0⟩, q⟩ := h
    have lp : l ≠ p := fun z => by
      rw [z, h1] at h2
      have y := HO.lst.inj (Option.some.inj h2)
      cases ns with
      | nil => cases l0
      | cons a r => cases y
    refine ⟨_, (pss_cons (ps_set (i := 2) sc_next.nd rfl (by first | exact Or.inl rfl | exact Or.inr rfl) (pe_ix (kIx K) (pv 0) pe_int (fun _ _ => rfl)))
  (pss_cons (ps_set (i := 3) sc_next.nd rfl (by first | exact Or.inl rfl | exact Or.inr rfl) (pe_ix (kIx K) (pv 0) pe_int (fun _ _ => rfl)))
  (pss_cons (ps_asg (pe_op (kAdd K) (pv 3) pe_int) (pg_sub (pv 0) pe_int set_list))
  (pss_one (ps_ret (pe_op op_modP (pe_callTy call_intP (by rfl) T.nb_int (by decide +kernel) (pa_cons (pe_op (kAdd K) (pe_ix (kIx K) (pv 2) (pe_op op_modP (pv 3) (pe_callB (kLen K) (by rfl) T.nb_len (by decide +kernel) (pa_cons (pv 2) pa_nil))) (fun _ _ => rfl)) (pe_op op_mulPP (pe_op op_divP (pv 3) (pe_callB (kLen K) (by rfl) T.nb_len (by decide +kernel) (pa_cons (pv 2) pa_nil))) pe_int)) pa_nil)) (pv 1))))))), ?_⟩
    walk_at "rd"
    refine rd_ixL (v := .ref l) (SqL.of h1) (atI_nat (j := 0) rfl) ?_
    walk_at "rd"
    refine rd_ixL (v := .int place) (SqL.of h1) (atI_nat (j := 1) rfl) ?_
    walk_at "rd"
    refine ⟨p, _, 1, 1, rfl, rfl, h1, rfl, ?_⟩
    have h2' : upd H p (.lst (([.ref l, .int place] : List V).set 1 (.int (place + 1)))) l = some (.lst (ns.map V.int)) := by rw [upd_ne lp]; exact h2
    have hq : SqL K (upd H p (.lst (([.ref l, .int place] : List V).set 1 (.int (place + 1))))) l (ns.map V.int) := SqL.of h2'
    walk_at "rd"
    have lz : ((ns.map V.int).length : Int) = ns.length := by rw [List.length_map]
    refine rd_modI (by rw [lz]; omega) ?_
    rw [lz]
    have fm := fmod_small (a := place) (m := (ns.length : Int)) (by omega)
    have e : place.fmod (ns.length : Int) = ((place.fmod (ns.length : Int)).toNat : Int) := (Int.toNat_of_nonneg fm.1).symm
    refine rd_ixL (v := .int (ns.getD (place.fmod (ns.length : Int)).toNat 0)) hq ?_ ?_
    · rw [e]
      refine atI_nat ?_
      rw [List.getElem?_map, Int.toNat_natCast, List.getD_eq_getElem?_getD, List.getElem?_eq_getElem (show (place.fmod (ns.length : Int)).toNat < ns.length by omega)]
      rfl
    · walk_at "rd"
      refine rd_divI ⟨by rw [lz]; omega, by rw [lz]; omega⟩ ?_
      walk_at "rd"
      refine rd_mulN (.inr ⟨by decide, by decide⟩) ?_
      walk_at "rd"
      refine rd_modI (by omega) ?_
      have fr := fun a : Int => fmod_small (a := a) (m := many) hm
      refine q _ _ (fr _).1 (fr _).2 ⟨l, ns, place + 1, upd_same, h2', sm, l0, l1, by omega⟩ (fun b o hb ho => ?_) ⟨fun b hb => ?_, fun l' n' e => ⟨.int (place + 1), ?_⟩⟩
      · rw [upd_ne hb]; exact ho
      · rw [upd_ne (fun z => by rw [z, h1] at hb; cases hb)]; exact hb
      · rw [h1] at e
        have e2 := HO.lst.inj (Option.some.inj e)
        rw [upd_same, ← (List.cons.inj e2).1]
        rfl
/-! ### letters and texts -/
theorem ok_init (T : Txt K mg) : FnOk P w K mg base CX0 1 T.a_init T.d_init ["self", "what"] (spInit K) := by
  refine T.f_init.ok sc_init (fun vs H Q E h => ?_) (fun cdv A outer s H vs Q E hr h => ?_)
  · obtain ⟨_, _, _, rfl, _⟩ := h; rfl
  · obtain ⟨a, C, v, rfl, T1, nw, ha, q⟩ := h
    refine ⟨_, pss_one (ps_ost (pv 0) (pv 1)), ?_⟩
    exact ⟨_, rfl, _, rfl, a, C, rfl, T1, nw, .inl ⟨ha, q⟩⟩
/-! ### drawn letters -/
/-- the state at p goes on; what stood stands -/
structure Dr (p : Addr) (H H' : Hp) : Prop where
  st : StAt H' p
  old : ∀ b o, b ≠ p → H b = some o → H' b = some o
  inn : SameIn p H H'
theorem Dr.trans {p : Addr} {H H1 H2 : Hp} (a : Dr p H H1) (b : Dr p H1 H2) : Dr p H H2 := ⟨b.st, fun c o hc q => b.old c o hc (a.old c o hc q), a.inn.trans b.inn⟩
theorem Dr.ex {p : Addr} {H H1 H2 : Hp} (a : Dr p H H1) (e : Ex H1 H2) : Dr p H H2 := ⟨a.st.ex e, fun c o hc q => e c o (a.old c o hc q), a.inn.ex e⟩
theorem Dr.refl {p : Addr} {H : Hp} (h : StAt H p) : Dr p H H := ⟨h, fun _ _ _ q => q, fun _ n e => ⟨n, e⟩⟩
theorem StAt.some {H : Hp} {p : Addr} (h : StAt H p) : ∃ o, H p = some o := by
  obtain ⟨l, ns, pl, h1, _⟩ := h
  exact ⟨_, h1⟩
/-- new since H0: all of H0 stands -/
theorem Dr.from {p : Addr} {H0 H H' : Hp} (e : Ex H0 H) (hp : H0 p = none) (d : Dr p H H') : Ex H0 H' := fun b o q => d.old b o (ne_of_none q hp) (e b o q)
abbrev PL : Str := "abcdefghijklmnopqrstuvwxyzABCDEFGHIJKLMNOPQRSTUVWXYZ0123456789<>=:_@#"
theorem okS_PL : okS PL := by unfold okS; decide +kernel
theorem pl_len : PL.length = 69 := by decide +kernel
theorem okS_nil : okS "" := by unfold okS; decide +kernel
theorem str_len (x y : Str) : (x ++ y).length = x.length + y.length := by
  rw [TL.len_tl, TL.len_tl, TL.len_tl, TL.tl_append, List.length_append]
theorem at_str {z : Str} {r : Int} (h0 : 0 ≤ r) (h : r < z.length) : ∃ c, atI z.cps.toList r = some c ∧ c ∈ z.cps.toList := by
  obtain ⟨n, rfl⟩ := Int.eq_ofNat_of_zero_le h0
  have hl : n < z.cps.toList.length := by
    have : z.cps.toList.length = z.length := rfl
    omega
  exact ⟨z.cps.toList[n], atI_nat (List.getElem?_eq_getElem hl), List.getElem_mem hl⟩
/-! ### drawing, with data -/
/-- a list that was not there may change -/
theorem Dr.put {p r : Addr} {H H' : Hp} {o : HO} (hS : StAt H p) (d : Dr p H H') (hr : H r = none) : Dr p H (upd H' r o) := by
  obtain ⟨l, ns, pl, h1, h2, _⟩ := hS
  have nS : ∀ b u, b ≠ r → H' b = some u → upd H' r o b = some u := fun b u hb z => by rw [upd_ne hb]; exact z
  have rp : p ≠ r := ne_of_none h1 hr
  obtain ⟨n1, e1⟩ := d.inn l _ h1
  refine ⟨?_, fun b u hb z => nS _ _ (ne_of_none z hr) (d.old b u hb z), fun l2 n2 e2 => ?_⟩
  · obtain ⟨l3, ns3, pl3, g1, g2, g3⟩ := d.st
    rw [e1] at g1
    have e4 := (List.cons.inj (HO.lst.inj (Option.some.inj g1))).1
    have e5 : l = l3 := by cases e4; rfl
    subst e5
    refine ⟨l, ns3, pl3, nS _ _ rp ?_, nS _ _ (ne_of_none h2 hr) g2, g3⟩
    rw [e1, g1]
  · obtain ⟨n3, e3⟩ := d.inn l2 n2 e2
    exact ⟨n3, nS _ _ rp e3⟩
theorem Dr.back {p r : Addr} {H H' : Hp} (hS : StAt H p) (d : Dr p H H') (h : H' r = none) : H r = none := by
  cases q : H r with
  | none => rfl
  | some o =>
    by_cases e : r = p
    · subst e
      obtain ⟨o2, h2⟩ := d.st.some
      rw [h] at h2; cases h2
    · rw [d.old r o e q] at h; cases h
theorem Dr.kp {p : Addr} {S : List Addr} {H H' : Hp} (d : Dr p H H') (hp : p ∈ S) : Kp S H H' := fun b o hb q => d.old b o (fun z => hb (z ▸ hp)) q
theorem Dr.st' {p c : Addr} {H H' : Hp} (d : Dr p H H') (h : ∃ o, H c = some o) : ∃ o, H' c = some o := by
  obtain ⟨o, h⟩ := h
  by_cases e : c = p
  · rw [e]; exact d.st.some
  · exact ⟨o, d.old c o e h⟩
theorem tr_dr {p : Addr} {S : List Addr} {H : Hp} (hS : StAt H p) (hp : p ∈ S) : Tr S H (Dr p) :=
  ⟨Dr.refl hS, fun d => Dr.refl d.st, fun d h => d.st' h, fun a b => a.trans b, fun h d => d.put hS h, fun d => d.kp hp⟩
theorem map_ofD {α : Type} {f : α → PyData} {S : α → Prop} : ∀ (vs : List PyData), (∀ (i : Nat) v, vs[i]? = some v → ∃ a, v = f a ∧ S a) → ∃ as : List α, vs = as.map f ∧ ∀ a ∈ as, S a
  | [], _ => ⟨[], rfl, fun a h => by cases h⟩
  | v :: vs, h => by
    obtain ⟨a, e, s⟩ := h 0 v rfl
    obtain ⟨as, e2, s2⟩ := map_ofD vs fun i v hv => h (i + 1) v (by simpa using hv)
    exact ⟨a :: as, by rw [e, e2]; rfl, fun b hb => by
      rcases List.mem_cons.mp hb with z | z
      · rw [z]; exact s
      · exact s2 b z⟩
theorem rng_Y {n : Nat} : ∀ (i : Nat) (H : Hp) (x : V) (H' : Hp), i < n → (H' = H ∧ x = V.int (i : Nat)) → H' = H ∧ (x = V.int (i : Nat)) := fun _ _ _ _ _ y => y
section
theorem kFa {X : Cx} (K : PySem.W.Frag) (hK : X.K = K := by rfl) {st : Stmt} {ta tv : TE} {rd : V → V → Hp → VK → Prop} {f : Str} (h : PS X st (sFldAug X.K ta tv rd f)) : PS X st (sFldAug K ta tv rd f) := hK ▸ h
theorem mono_fld {K : PySem.W.Frag} {i : Nat} {f : Str} : ∀ σ H (Q Q' : VK), (∀ v H1, Q v H1 → Q' v H1) → tFld K (tVar i) f σ H Q → tFld K (tVar i) f σ H Q' := fun _ _ _ _ h ⟨x, e, a, C, dx, fs, v, h1, h2, h3, h4, h5, q⟩ => ⟨x, e, a, C, dx, fs, v, h1, h2, h3, h4, h5, h _ _ q⟩
theorem rd_fa {K : PySem.W.Frag} {ta tv : TE} {rd : V → V → Hp → VK → Prop} {f : Str} {D : Ends} {σ : L2.St} {H : Hp} (h : ta σ H fun x H1 => ∃ a C dx fs v, x = .ref a ∧ H1 a = some (.ins C dx fs) ∧ Cls K C ∧ NoAttr K C f ∧ fs.lookup f = some v ∧ tv σ H1 fun y H2 => rd v y H2 fun z H3 => ∃ dx' fs', H3 a = some (.ins C dx' fs') ∧ fs'.length < 1000 ∧ D.nx σ (upd H3 a (.ins C dx' (putF f z fs')))) : sFldAug K ta tv rd f D σ H := h
def But (m : Addr) (H H' : Hp) : Prop := ∀ b o, b ≠ m → H b = some o → H' b = some o
theorem But.ex {m : Addr} {H H' H2 : Hp} (h : But m H H') (e : Ex H' H2) : But m H H2 := fun b o hb q => e b o (h b o hb q)
theorem But.trans {m : Addr} {H H1 H2 : Hp} (a : But m H H1) (b : But m H1 H2) : But m H H2 := fun c o hc q => b c o hc (a c o hc q)
theorem But.refl {m : Addr} {H : Hp} : But m H H := fun _ _ _ q => q
theorem But.of {m : Addr} {H : Hp} {o : HO} : But m H (upd H m o) := fun b u hb q => by rw [upd_ne hb]; exact q
theorem Ex.but {m : Addr} {H H' : Hp} (e : Ex H H') : But m H H' := fun b o _ q => e b o q
variable (T : Txt K mg)
def Rdr (H : Hp) (m : Addr) (z : Str) (p : Nat) : Prop := ∃ dx, H m = some (.ins T.C_ValueReader dx [("text", .str z), ("place", .int (p : Int))])
def fc (z : Str) (p : Nat) (sg : List Nat) : Bool := match z.cps.toList[p]? with
  | some c => decide (c ∈ sg)
  | none => false
theorem Rdr.ex {H H' : Hp} {m : Addr} {z : Str} {p : Nat} (h : Rdr T H m z p) (e : Ex H H') : Rdr T H' m z p := by
  obtain ⟨dx, h⟩ := h
  exact ⟨dx, e _ _ h⟩
theorem rdr_at {H : Hp} {m : Addr} {z : Str} {p : Nat} {dx : Addr} {v : V} (hv : v = .int (p : Int)) {q : V} : Rdr T (upd H m (.ins T.C_ValueReader dx (putF "place" v [("text", .str z), ("place", q)]))) m z p := by
  subst hv
  exact ⟨dx, upd_same⟩
def spFaces : Sp := fun vs H Q _ => ∃ (m : Addr) (z : Str) (p : Nat) (sg : Str), vs = [.ref m, .str sg] ∧ Rdr T H m z p ∧ z.length ≤ sizeLine ∧ Q (.bl (fc z p sg.cps.toList)) H
theorem ok_ValueReader_faces : FnOk P w K mg base CX0 1 T.a_ValueReader_faces T.d_ValueReader_faces ["self", "signs"] (spFaces T) := by
  refine T.f_ValueReader_faces.ok sc_ValueReader_faces (fun vs H Q E h => ?_) (fun cdv A outer s H vs Q E hr h => ?_)
  · obtain ⟨_, _, _, _, rfl, _⟩ := h; rfl
  · obtain ⟨m, z, p, sg, rfl, ⟨dx, hm⟩, lz, q⟩ := h
    refine ⟨_, (pss_one (ps_ret (pe_and (pe_cmpR op_ltP (kFld K rfl (pe_fld (pv 0) rfl)) (pe_callB (kLen K) (by rfl) T.nb_len (by decide +kernel) (pa_cons (kFld K rfl (pe_fld (pv 0) rfl)) pa_nil)) (by first | rfl | exact nomark _)) (pe_one (pe_cmpR (kIn K) (pe_ix (kIx K) (kFld K rfl (pe_fld (pv 0) rfl)) (kFld K rfl (pe_fld (pv 0) rfl)) (fun _ _ => rfl)) (pv 1) (by first | rfl | exact nomark _)))))), ?_⟩
    walk_at "rc"
    refine rd_andV ?_
    walk_at "rc"
    refine ⟨m, _, dx, _, _, rfl, hm, T.cl_ValueReader, T.na_ValueReader_place, rfl, ?_⟩
    walk_at "rc"
    refine ⟨m, _, dx, _, _, rfl, hm, T.cl_ValueReader, T.na_ValueReader_text, rfl, ?_⟩
    walk_at "rc"
    refine rd_lenS lz ?_
    walk_at "rc"
    refine rd_iteD (fun h => ?_) fun h => ?_
    · walk_at "rc"
      refine ⟨m, _, dx, _, _, rfl, hm, T.cl_ValueReader, T.na_ValueReader_text, rfl, ?_⟩
      walk_at "rc"
      refine ⟨m, _, dx, _, _, rfl, hm, T.cl_ValueReader, T.na_ValueReader_place, rfl, ?_⟩
      have hl : p < z.cps.toList.length := by
        have : z.cps.toList.length = z.length := rfl
        omega
      have hp := List.getElem?_eq_getElem hl
      walk_at "rc"
      refine rd_ixS lz (atI_nat hp) ?_
      walk_at "rc"
      unfold fc at q
      rw [hp] at q
      exact q
    · unfold fc at q
      rw [List.getElem?_eq_none (by have : z.cps.toList.length = z.length := rfl; omega)] at q
      exact q
def spTake : Sp := fun vs H Q E => ∃ (m : Addr) (z : Str) (p : Nat) (sg : Str), vs = [.ref m, .str sg] ∧ Rdr T H m z p ∧ z.length ≤ sizeLine ∧
  (∀ c H', z.cps.toList[p]? = some c → c ∈ sg.cps.toList → But m H H' → Rdr T H' m z (p + 1) → Q (.str ⟨#[c]⟩) H') ∧
  (fc z p sg.cps.toList = false → ∀ d H', But m H H' → H' d = some (.xd [("what", .int (p : Int))]) → E (.ref T.C_BadRecord) (some d) H')
theorem ok_ValueReader_take : FnOk P w K mg base (L2.CX P w) 3 T.a_ValueReader_take T.d_ValueReader_take ["self", "signs"] (spTake T) := by
  refine T.f_ValueReader_take.okX sc_ValueReader_take (fun vs H Q E h => ?_) (fun cdv A outer s H vs Q E hr h => ?_)
  · obtain ⟨_, _, _, _, rfl, _⟩ := h; rfl
  · obtain ⟨m, z, p, sg, rfl, ⟨dx, hm⟩, lz, qy, qn⟩ := h
    refine ⟨_, (pss_cons (ps_if (pt_not (pt_val (pe_meth (pv 0) T.cl_ValueReader T.m_ValueReader_faces (ok_ValueReader_faces T) (hr.mono (by decide)) T.b_ValueReader_faces .nil pass0 (pa_cons (pv 1) pa_nil))))
    (pss_one (ps_raiseW rfl T.x_BadRecord (ok_init T) T.tI T.bI (hr.mono (by decide)) T.g_BadRecord (takes_of rfl rfl rfl rfl) (pa_cons (kFld K rfl (pe_fld (pv 0) rfl)) pa_nil) (MonoA.one mono_fld)))
    pss_nil)
  (pss_cons (kFa K rfl (ps_fldaug (pv 0) pe_int in_add))
  (pss_one (ps_ret (pe_ix (kIx K) (kFld K rfl (pe_fld (pv 0) rfl)) (pe_op op_subP (kFld K rfl (pe_fld (pv 0) rfl)) pe_int) (fun _ _ => rfl)))))), ?_⟩
    walk_at "rs"
    walk_at "rc"
    refine ⟨m, dx, _, rfl, hm, rfl, ?_⟩
    walk_at "rc"
    refine ⟨m, z, p, sg, rfl, ⟨dx, hm⟩, lz, ?_⟩
    walk_at "rc"
    cases hf : fc z p sg.cps.toList with
    | false =>
      refine rd_iteNF ?_
      walk_at "rc"
      refine ⟨m, _, dx, _, _, rfl, hm, T.cl_ValueReader, T.na_ValueReader_place, rfl, ?_⟩
      exact ⟨_, rfl, fun d hd => qn hf d _ (Ex.but (Evl.Ex.new hd)) upd_same⟩
    | true =>
      refine rd_iteNT ?_
      walk_at "rc"
      refine rd_fa ?_
      walk_at "rc"
      refine ⟨m, _, dx, _, _, rfl, hm, T.cl_ValueReader, T.na_ValueReader_place, rfl, ?_⟩
      walk_at "rc"
      refine ⟨_, _, rfl, rfl, dx, _, hm, by show 2 < 1000; decide, ?_⟩
      obtain ⟨c, hc, hcs⟩ : ∃ c, z.cps.toList[p]? = some c ∧ c ∈ sg.cps.toList := by
        unfold fc at hf
        cases e : z.cps.toList[p]? with
        | none => rw [e] at hf; exact nomatch hf
        | some c => rw [e] at hf; exact ⟨c, rfl, of_decide_eq_true hf⟩
      have hb : But m H (upd H m (.ins T.C_ValueReader dx (putF "place" (.int ((p : Int) + 1)) [("text", .str z), ("place", .int (p : Int))]))) := But.of
      have hr := rdr_at T (H := H) (m := m) (z := z) (p := p + 1) (dx := dx) (v := .int ((p : Int) + 1)) (q := .int (p : Int)) rfl
      generalize upd H m (.ins T.C_ValueReader dx (putF "place" (.int ((p : Int) + 1)) [("text", .str z), ("place", .int (p : Int))])) = H1 at hb hr
      obtain ⟨dx1, hm1⟩ := id hr
      walk_at "rc"
      refine ⟨m, _, dx1, _, _, rfl, hm1, T.cl_ValueReader, T.na_ValueReader_text, rfl, ?_⟩
      walk_at "rc"
      refine ⟨m, _, dx1, _, _, rfl, hm1, T.cl_ValueReader, T.na_ValueReader_place, rfl, ?_⟩
      walk_at "rc"
      rw [show (((p + 1 : Nat) : Int)) - 1 = (p : Int) by omega]
      refine rd_ixS lz (atI_nat hc) ?_
      exact qy c H1 hc hcs hb hr
end
section
theorem sp_at {ks : List Nat} : ∀ {z : List Nat} {i : Nat}, i < sp ks z → ∃ c, z[i]? = some c ∧ c ∈ ks
  | [], i, h => absurd h (Nat.not_lt_zero _)
  | c :: z, i, h => by
    have h : i < if c ∈ ks then sp ks z + 1 else 0 := h
    by_cases hc : c ∈ ks
    · rw [if_pos hc] at h
      cases i with
      | zero => exact ⟨c, rfl, hc⟩
      | succ i =>
        obtain ⟨x, hx, hk⟩ := sp_at (ks := ks) (z := z) (i := i) (by omega)
        exact ⟨x, by rw [List.getElem?_cons_succ]; exact hx, hk⟩
    · rw [if_neg hc] at h; omega
theorem sp_stop {ks : List Nat} : ∀ {z : List Nat} {c : Nat}, z[sp ks z]? = some c → c ∉ ks
  | [], c, h => by simp at h
  | x :: z, c, h => by
    have h : (x :: z)[if x ∈ ks then sp ks z + 1 else 0]? = some c := h
    by_cases hc : x ∈ ks
    · rw [if_pos hc, List.getElem?_cons_succ] at h
      exact sp_stop h
    · rw [if_neg hc] at h
      have : x = c := by simpa using h
      rw [← this]; exact hc
theorem sp_le {ks : List Nat} : ∀ z : List Nat, sp ks z ≤ z.length
  | [] => Nat.le_refl _
  | x :: z => by
    have := sp_le (ks := ks) z
    show (if x ∈ ks then sp ks z + 1 else 0) ≤ z.length + 1
    split <;> omega
theorem fc_in {z : Str} {p i : Nat} {ks : List Nat} (h : i < sp ks (z.cps.toList.drop p)) : fc z (p + i) ks = true := by
  obtain ⟨c, hc, hk⟩ := sp_at h
  rw [List.getElem?_drop] at hc
  unfold fc
  rw [hc]
  exact decide_eq_true hk
theorem fc_out {z : Str} {p : Nat} {ks : List Nat} : fc z (p + sp ks (z.cps.toList.drop p)) ks = false := by
  unfold fc
  cases e : z.cps.toList[p + sp ks (z.cps.toList.drop p)]? with
  | none => rfl
  | some c =>
    rw [← List.getElem?_drop] at e
    exact decide_eq_false (sp_stop e)
theorem cut_list {z : Str} {i j : Nat} (h1 : i ≤ j) (h2 : j ≤ z.length) : (cutS z (some (i : Int)) (some (j : Int))).cps.toList = (z.cps.toList.drop i).take (j - i) := by
  have hl : z.cps.toList.length = z.length := rfl
  show (List.toArray (List.take (HT.sIx z.length z.length (some (j : Int)) - HT.sIx z.length 0 (some (i : Int))) (List.drop (HT.sIx z.length 0 (some (i : Int))) z.cps.toList))).toList = _
  rw [HT.sIx_nat, HT.sIx_nat, List.toList_toArray, Nat.min_eq_left h2, Nat.min_eq_left (Nat.le_trans h1 h2)]
variable (T : Txt K mg)
def nT' (z : Str) (p : Nat) : Nat := sp Lt (z.cps.toList.drop p)
def spTxtB : Sp := fun vs H Q E => ∃ (m : Addr) (z : Str) (p : Nat), vs = [.ref m] ∧ Rdr T H m z p ∧ z.length ≤ sizeLine ∧
  (z.cps.toList[p + nT' z p]? = some 39 → ∀ (s : Str) H', s.cps.toList = (z.cps.toList.drop p).take (nT' z p) → But m H H' → Rdr T H' m z (p + nT' z p + 1) → Q (.str s) H') ∧
  (z.cps.toList[p + nT' z p]? ≠ some 39 → ∀ d H', But m H H' → H' d = some (.xd [("what", .int ((p + nT' z p : Nat) : Int))]) → E (.ref T.C_BadRecord) (some d) H')
theorem ok_ValueReader_text_behind : FnOk P w K mg base (L2.CX P w) 4 T.a_ValueReader_text_behind T.d_ValueReader_text_behind ["self"] (spTxtB T) := by
  refine T.f_ValueReader_text_behind.okX sc_ValueReader_text_behind (fun vs H Q E h => ?_) (fun cdv A outer s H vs Q E hr h => ?_)
  · obtain ⟨_, _, _, rfl, _⟩ := h; rfl
  · obtain ⟨m, z, p, rfl, R, lz, qy, qn⟩ := h
    obtain ⟨dx, hm⟩ := id R
    obtain ⟨n, hn⟩ : ∃ n, nT' z p = n := ⟨_, rfl⟩
    rw [hn] at qy qn
    refine ⟨_, (pss_cons (ps_set (i := 1) sc_ValueReader_text_behind.nd rfl (by first | exact Or.inl rfl | exact Or.inr rfl) (kFld K rfl (pe_fld (pv 0) rfl)))
  (pss_cons (ps_while (passes_of rfl) (pt_val (pe_meth (pv 0) T.cl_ValueReader T.m_ValueReader_faces (ok_ValueReader_faces T) (hr.mono (by decide)) T.b_ValueReader_faces .nil pass0 (pa_cons (pe_globS (by rfl) T.c_LETTERS) pa_nil)))
    (pss_one (kFa K rfl (ps_fldaug (pv 0) pe_int in_add))))
  (pss_cons (ps_expr (pe_methRs T.m_ValueReader_take T.cl_ValueReader (pv 0) (ok_ValueReader_take T) (hr.mono (by decide)) T.b_ValueReader_take (takes_of rfl rfl rfl rfl) (pa_cons (pe_globS (by rfl) T.c_QUOTE) pa_nil)))
  (pss_one (ps_ret (pe_slice (kSl K) (kFld K rfl (pe_fld (pv 0) rfl)) (po_some (pv 1)) (po_some (pe_op op_subP (kFld K rfl (pe_fld (pv 0) rfl)) pe_int)))))))), ?_⟩
    walk_at "rc"
    refine ⟨m, _, dx, _, _, rfl, hm, T.cl_ValueReader, T.na_ValueReader_place, rfl, ?_⟩
    walk_at "rc"
    walk_at "rs"
    refine rd_wh (fun mm σ H' => ∃ i, σ = [some (.ref m), some (.int (p : Int))] ∧ But m H H' ∧ Rdr T H' m z (p + i) ∧ i ≤ n ∧ mm = n - i)
      _ ⟨0, rfl, But.refl, R, Nat.zero_le _, rfl⟩ ?_
    rintro mm σ H1 ⟨i, rfl, b1, R1, hi, rfl⟩
    obtain ⟨dx1, hm1⟩ := id R1
    walk_at "rc"
    refine ⟨m, dx1, _, rfl, hm1, rfl, ?_⟩
    walk_at "rc"
    refine ⟨m, z, p + i, _, rfl, R1, lz, ?_⟩
    walk_at "rc"
    rcases Nat.lt_or_ge i n with h | h
    · rw [show fc z (p + i) ("abcdefghijklmnopqrstuvwxyzABCDEFGHIJKLMNOPQRSTUVWXYZ0123456789<>=:_@#" : Str).cps.toList = true from fc_in (ks := Lt) (by rw [← hn] at h; exact h)]
      refine rd_iteT ?_
      refine ⟨_, fun σ2 H2 z => z, ?_⟩
      refine rd_fa ?_
      walk_at "rc"
      refine ⟨m, _, dx1, _, _, rfl, hm1, T.cl_ValueReader, T.na_ValueReader_place, rfl, ?_⟩
      walk_at "rc"
      refine ⟨_, _, rfl, rfl, dx1, _, hm1, by show 2 < 1000; decide, ?_⟩
      exact ⟨n - (i + 1), by omega, i + 1, rfl, b1.trans But.of, rdr_at T (p := p + (i + 1)) rfl, h, rfl⟩
    · have hin : i = n := by omega
      subst hin
      rw [show fc z (p + i) ("abcdefghijklmnopqrstuvwxyzABCDEFGHIJKLMNOPQRSTUVWXYZ0123456789<>=:_@#" : Str).cps.toList = false from by rw [← hn]; exact fc_out (ks := Lt)]
      refine rd_iteF ?_
      walk_at "rc"
      refine ⟨m, dx1, _, rfl, hm1, rfl, ?_⟩
      walk_at "rc"
      refine ⟨m, z, p + i, _, rfl, R1, lz, fun c H2 hc hcs b2 R2 => ?_, fun hf d H2 b2 hd => ?_⟩
      · have c39 : c = 39 := by
          have : c ∈ [39] := hcs
          exact List.mem_singleton.mp this
        subst c39
        obtain ⟨dx2, hm2⟩ := id R2
        walk_at "rc"
        refine ⟨m, _, dx2, _, _, rfl, hm2, T.cl_ValueReader, T.na_ValueReader_text, rfl, ?_⟩
        walk_at "rc"
        refine ⟨m, _, dx2, _, _, rfl, hm2, T.cl_ValueReader, T.na_ValueReader_place, rfl, ?_⟩
        walk_at "rc"
        rw [show (((p + i + 1 : Nat) : Int)) - 1 = ((p + i : Nat) : Int) by omega]
        refine rd_slS lz ?_
        have lt : p + i < z.length := (List.getElem?_eq_some_iff.mp hc).1
        refine qy hc _ H2 ?_ (b1.trans b2) R2
        rw [cut_list (by omega) (by omega)]
        rw [show p + i - p = i by omega]
      · refine qn ?_ d H2 (b1.trans b2) hd
        intro z39
        unfold fc at hf
        rw [z39] at hf
        exact absurd hf (by decide +kernel)
end
section
theorem num_wI {c : Nat} {t : List Nat} (hd : ∀ x ∈ c :: t, x ∈ Dg) (h0 : c ≠ 48 ∨ t = []) (hl : t.length ≤ 8) : ∃ n : Nat, PySem.NumText.digitsVal (c :: t) = n ∧ wI (n : Int) = c :: t ∧ n < 1000000000 := by
  have ad : PySem.NumText.AllDigits (c :: t) := fun x hx => dg_range (hd x hx)
  have hc := dg_range (hd c List.mem_cons_self)
  have e := PySem.NumText.toDigits_digitsVal t.length (c :: t) rfl ad (by
    rcases h0 with h | h
    · exact .inr ⟨c, t, rfl, by omega⟩
    · exact .inl (by rw [h]; rfl))
  refine ⟨_, rfl, ?_, ?_⟩
  · rw [wI_digits, e, List.map_map]
    have : ∀ l : List Nat, (∀ x ∈ l, x ∈ Dg) → l.map ((fun c : Char => c.toNat) ∘ Char.ofNat) = l := by
      intro l
      induction l with
      | nil => exact fun _ => rfl
      | cons x l ih =>
        intro h
        rw [List.map_cons, ih fun y hy => h y (List.mem_cons_of_mem _ hy)]
        have hx := dg_range (h x List.mem_cons_self)
        have e : x = 48 ∨ x = 49 ∨ x = 50 ∨ x = 51 ∨ x = 52 ∨ x = 53 ∨ x = 54 ∨ x = 55 ∨ x = 56 ∨ x = 57 := by omega
        rcases e with rfl | rfl | rfl | rfl | rfl | rfl | rfl | rfl | rfl | rfl <;> rfl
    exact this _ hd
  · refine (Nat.length_toDigits_le_iff (b := 10) (k := 9) (by decide) (by decide)).mp ?_
    rw [e, List.length_map, List.length_cons]
    omega
variable (T : Txt K mg)
def nN (z : Str) (p c : Nat) : Nat := if c = 48 then 0 else min 8 (sp Dg (z.cps.toList.drop p))
def spNum : Sp := fun vs H Q E => ∃ (m : Addr) (z : Str) (p c : Nat), vs = [.ref m, .int (p : Int)] ∧ Rdr T H m z (p + 1) ∧ z.length ≤ sizeLine ∧ z.cps.toList[p]? = some c ∧ c ∈ Dg ∧
  ∀ (n : Nat) H', wI (n : Int) = c :: (z.cps.toList.drop (p + 1)).take (nN z (p + 1) c) → n < 1000000000 → But m H H' → Rdr T H' m z (p + 1 + nN z (p + 1) c) → Q (.int (n : Int)) H'
theorem ok_ValueReader_number_from : FnOk P w K mg base CX0 2 T.a_ValueReader_number_from T.d_ValueReader_number_from ["self", "start"] (spNum T) := by
  refine T.f_ValueReader_number_from.ok sc_ValueReader_number_from (fun vs H Q E h => ?_) (fun cdv A outer s H vs Q E hr h => ?_)
  · obtain ⟨_, _, _, _, rfl, _⟩ := h; rfl
  · obtain ⟨m, z, p, c, rfl, R, lz, hc, hcd, qy⟩ := h
    obtain ⟨k, hk⟩ : ∃ k, nN z (p + 1) c = k := ⟨_, rfl⟩
    rw [hk] at qy
    have k8 : k ≤ 8 := by
      rw [← hk]; unfold nN
      split
      · omega
      · exact Nat.min_le_left _ _
    have ks : k ≤ sp Dg (z.cps.toList.drop (p + 1)) := by
      rw [← hk]; unfold nN
      split
      · omega
      · exact Nat.min_le_right _ _
    have hl : z.cps.toList.length = z.length := rfl
    have pl : p < z.length := (List.getElem?_eq_some_iff.mp hc).1
    have sl := sp_le (ks := Dg) (z.cps.toList.drop (p + 1))
    rw [List.length_drop] at sl
    have cutk : (z.cps.toList.drop p).take (p + 1 + k - p) = c :: (z.cps.toList.drop (p + 1)).take k := by
      have e : z.cps.toList.drop p = c :: z.cps.toList.drop (p + 1) := by
        obtain ⟨hb, e⟩ := List.getElem?_eq_some_iff.mp hc
        rw [List.drop_eq_getElem_cons hb, e]
      rw [e, show p + 1 + k - p = k + 1 by omega, List.take_succ_cons]
    have dgs : ∀ x ∈ c :: (z.cps.toList.drop (p + 1)).take k, x ∈ Dg := fun x hx => by
      rcases List.mem_cons.mp hx with e | hx
      · rw [e]; exact hcd
      · obtain ⟨i, hi⟩ := List.mem_iff_getElem?.mp hx
        rw [List.getElem?_take] at hi
        split at hi
        · rename_i hlt
          obtain ⟨y, hy, hk⟩ := sp_at (ks := Dg) (z := z.cps.toList.drop (p + 1)) (i := i) (by omega)
          rw [hi] at hy
          cases hy
          exact hk
        · exact nomatch hi
    have tl : ((z.cps.toList.drop (p + 1)).take k).length = k := by rw [List.length_take, List.length_drop]; omega
    obtain ⟨n, hn, hw, hn9⟩ := num_wI dgs (by
      by_cases e : c = 48
      · refine .inr ?_
        have : k = 0 := by rw [← hk]; unfold nN; rw [if_pos e]
        rw [this]; rfl
      · exact .inl e) (by omega)
    have last : ∀ H1, But m H H1 → Rdr T H1 m z (p + 1 + k) → ∃ a n, [V.str (cutS z (some (p : Int)) (some ((p + 1 + k : Nat) : Int)))] = [V.str a] ∧ intText? a = some n ∧ a.length ≤ 640 ∧ Q (V.int n) H1 := fun H1 b1 R1 => by
      have ec : (cutS z (some (p : Int)) (some ((p + 1 + k : Nat) : Int))).cps.toList = c :: (z.cps.toList.drop (p + 1)).take k := by
        rw [cut_list (by omega) (by omega)]
        exact cutk
      have el : (cutS z (some (p : Int)) (some ((p + 1 + k : Nat) : Int))).length = k + 1 := by
        show (cutS z (some (p : Int)) (some ((p + 1 + k : Nat) : Int))).cps.toList.length = _
        rw [ec, List.length_cons, tl]
      refine ⟨_, (n : Int), rfl, ?_, by omega, qy n H1 hw hn9 b1 R1⟩
      have := PySem.intText_digits (x := cutS z (some (p : Int)) (some ((p + 1 + k : Nat) : Int))) (by rw [ec]; exact fun x hx => dg_range (dgs x hx)) (by rw [ec]; exact fun z => nomatch z) (by omega)
      rw [this, ec, hn]
    refine ⟨_, (pss_cons (ps_while PassesOwn.never (PW.pt (pw_and (pt_cmpR (kNe K rfl hr.units) (pe_ix (kIx K) (kFld K rfl (pe_fld (pv 0) rfl)) (pv 1) (fun _ _ => rfl)) pe_str (by first | rfl | exact nomark _)) (pw_and (pt_cmpR op_ltP (pe_op op_subP (kFld K rfl (pe_fld (pv 0) rfl)) (pv 1)) (pe_globI (by rfl) T.c_MOST_DIGITS) (by first | rfl | exact nomark _)) (pw_and1 (pt_val (pe_meth (pv 0) T.cl_ValueReader T.m_ValueReader_faces (ok_ValueReader_faces T) (hr.mono (by decide)) T.b_ValueReader_faces .nil pass0 (pa_cons (pe_globS (by rfl) T.c_DIGITS) pa_nil)))))))
    (pss_one (kFa K rfl (ps_fldaug (pv 0) pe_int in_add))))
  (pss_one (ps_ret (pe_callTy call_int_str (by rfl) T.nb_int (by decide +kernel) (pa_cons (pe_slice (kSl K) (kFld K rfl (pe_fld (pv 0) rfl)) (po_some (pv 1)) (po_some (kFld K rfl (pe_fld (pv 0) rfl)))) pa_nil))))), ?_⟩
    walk_at "rc"
    walk_at "rs"
    refine rd_wh (fun mm σ H' => ∃ i, σ = [some (.ref m), some (.int (p : Int))] ∧ But m H H' ∧ Rdr T H' m z (p + 1 + i) ∧ i ≤ k ∧ mm = k - i)
      _ ⟨0, rfl, But.refl, R, Nat.zero_le _, rfl⟩ ?_
    rintro mm σ H1 ⟨i, rfl, b1, R1, hi, rfl⟩
    obtain ⟨dx1, hm1⟩ := id R1
    walk_at "rc"
    refine ⟨m, _, dx1, _, _, rfl, hm1, T.cl_ValueReader, T.na_ValueReader_text, rfl, ?_⟩
    walk_at "rc"
    refine rd_ixS lz (atI_nat hc) ?_
    walk_at "rc"
    refine rd_iteN (fun h48 => ?_) fun h48 => ?_
    · have c48 : c ≠ 48 := fun e => h48 (by rw [e]; decide +kernel)
      have hk2 : k = min 8 (sp Dg (z.cps.toList.drop (p + 1))) := by rw [← hk]; unfold nN; rw [if_neg c48]
      walk_at "rc"
      refine ⟨m, _, dx1, _, _, rfl, hm1, T.cl_ValueReader, T.na_ValueReader_place, rfl, ?_⟩
      walk_at "rc"
      refine rd_iteD (fun h9 => ?_) fun h9 => ?_
      · walk_at "rc"
        refine ⟨m, dx1, _, rfl, hm1, rfl, ?_⟩
        walk_at "rc"
        refine ⟨m, z, p + 1 + i, _, rfl, R1, lz, ?_⟩
        walk_at "rc"
        rcases Nat.lt_or_ge i (sp Dg (z.cps.toList.drop (p + 1))) with h | h
        · rw [show fc z (p + 1 + i) ("0123456789" : Str).cps.toList = true from fc_in (ks := Dg) h]
          refine rd_iteT ?_
          refine ⟨_, fun σ2 H2 z => z, ?_⟩
          refine rd_fa ?_
          walk_at "rc"
          refine ⟨m, _, dx1, _, _, rfl, hm1, T.cl_ValueReader, T.na_ValueReader_place, rfl, ?_⟩
          walk_at "rc"
          refine ⟨_, _, rfl, rfl, dx1, _, hm1, by show 2 < 1000; decide, ?_⟩
          exact ⟨k - (i + 1), by omega, i + 1, rfl, b1.trans But.of, rdr_at T (p := p + 1 + (i + 1)) rfl, by omega, rfl⟩
        · have hie : i = sp Dg (z.cps.toList.drop (p + 1)) := by omega
          rw [show fc z (p + 1 + i) ("0123456789" : Str).cps.toList = false from by rw [hie]; exact fc_out (ks := Dg)]
          have hik : i = k := by omega
          subst hik
          refine rd_iteF ?_
          walk_at "rc"
          refine ⟨m, _, dx1, _, _, rfl, hm1, T.cl_ValueReader, T.na_ValueReader_text, rfl, ?_⟩
          walk_at "rc"
          refine ⟨m, _, dx1, _, _, rfl, hm1, T.cl_ValueReader, T.na_ValueReader_place, rfl, ?_⟩
          walk_at "rc"
          refine rd_slS lz ?_
          exact last H1 b1 R1
      · have h9 : ¬ ((p + 1 + i : Nat) : Int) - (p : Int) < 9 := h9
        have hik : i = k := by omega
        subst hik
        refine rd_iteF ?_
        walk_at "rc"
        refine ⟨m, _, dx1, _, _, rfl, hm1, T.cl_ValueReader, T.na_ValueReader_text, rfl, ?_⟩
        walk_at "rc"
        refine ⟨m, _, dx1, _, _, rfl, hm1, T.cl_ValueReader, T.na_ValueReader_place, rfl, ?_⟩
        walk_at "rc"
        refine rd_slS lz ?_
        exact last H1 b1 R1
    · have c48 : c = 48 := by
        have e : (⟨#[c]⟩ : Str).cps.toList = ("0" : Str).cps.toList := by rw [h48]
        have e2 : [c] = [48] := e
        exact (List.cons.inj e2).1
      have hk2 : k = 0 := by rw [← hk]; unfold nN; rw [if_pos c48]
      have hik : i = k := by omega
      subst hik
      refine rd_iteF ?_
      walk_at "rc"
      refine ⟨m, _, dx1, _, _, rfl, hm1, T.cl_ValueReader, T.na_ValueReader_text, rfl, ?_⟩
      walk_at "rc"
      refine ⟨m, _, dx1, _, _, rfl, hm1, T.cl_ValueReader, T.na_ValueReader_place, rfl, ?_⟩
      walk_at "rc"
      refine rd_slS lz ?_
      exact last H1 b1 R1
end
section
theorem pv_L : ∀ {ds : List PyData} {n : Nat}, PVL ds n → ∀ d ∈ ds, PV d n
  | [], _, _, d, h => nomatch h
  | x :: xs, n, p, d, h => (List.mem_cons.mp h).elim (fun e => by rw [e]; exact p.1) (pv_L p.2 d)
theorem pv_noList : ∀ (n : Nat) {d : PyData}, PV d n → noList d = true
  | n, .bool _, _ => rfl
  | n, .int _, _ => rfl
  | n, .str _, _ => rfl
  | 0, .tuple _, h => h.elim
  | n + 1, .tuple ds, h => noList_all fun d hd => pv_noList n (pv_L h d hd)
  | 0, .none, h => h.elim
  | n + 1, .none, h => h.elim
  | 0, .list _, h => h.elim
  | n + 1, .list _, h => h.elim
  | 0, .dict _, h => h.elim
  | n + 1, .dict _, h => h.elim
theorem dpAll_hidT {K : PySem.W.Frag} {H : Hp} {S : List Addr} (h : ∀ b ∈ S, (∃ C dx fs, H b = some (.ins C dx fs)) ∨ ∃ xs, H b = some (.lst xs)) : ∀ {vs : List V} {ds : List PyData}, (∀ d ∈ ds, noList d = true) → DpAll K H vs ds → DpAll K (hid S H) vs ds
  | _, _, _, .nil => .nil
  | _, _, n, .cons a b => .cons (Dp.hidT h _ (n _ List.mem_cons_self) a) (dpAll_hidT h (fun d hd => n d (List.mem_cons_of_mem _ hd)) b)
theorem dpAll_ex {K : PySem.W.Frag} {H H' : Hp} (e : Ex H H') : ∀ {vs : List V} {ds : List PyData}, DpAll K H vs ds → DpAll K H' vs ds
  | _, _, .nil => .nil
  | _, _, .cons a b => .cons (a.ex e) (dpAll_ex e b)
theorem But.hid {m : Addr} {H H' : Hp} (h : But m H H') : Ex (hid [m] H) H' := fun b o z => by
  obtain ⟨z1, z2⟩ := hid_some z
  exact h b o (fun e => z1 (by rw [e]; exact List.mem_singleton.mpr rfl)) z2
variable (T : Txt K mg)
theorem Rdr.isI {H : Hp} {m : Addr} {z : Str} {p : Nat} (h : Rdr T H m z p) : ∀ b ∈ [m], (∃ C dx fs, H b = some (.ins C dx fs)) ∨ ∃ xs, H b = some (.lst xs) := fun b hb => by
  obtain ⟨dx, h⟩ := h
  rw [List.mem_singleton.mp hb]
  exact .inl ⟨_, _, _, h⟩
theorem dpAll_app {K : PySem.W.Frag} {H : Hp} {v : V} {d : PyData} (h : Dp K H v d) : ∀ {vs : List V} {ds : List PyData}, DpAll K H vs ds → DpAll K H (vs ++ [v]) (ds ++ [d])
  | _, _, .nil => .cons h .nil
  | _, _, .cons a b => .cons a (dpAll_app h b)
def spValue (d : Nat) : Sp := fun vs H Q E => ∃ (m : Addr) (z : Str) (p : Nat), vs = [.ref m, .int (d : Int)] ∧ Rdr T H m z p ∧ z.length ≤ sizeLine ∧ p ≤ z.length ∧ d ≤ 8 ∧
  (∀ (dt : PyData) (v : V) (p' : Nat) H', Dp K H' v dt → PV dt d → z.cps.toList.drop p = W dt ++ z.cps.toList.drop p' → p' ≤ z.length → (∀ r, Run z.cps.toList (8 - d) (aft (8 - d)) p' r → Run z.cps.toList (8 - d) .val p r) → But m H H' → Rdr T H' m z p' → Q v H') ∧
  (∀ (q : Nat) (dd : Addr) H', Run z.cps.toList (8 - d) .val p (some q) → But m H H' → H' dd = some (.xd [("what", .int (q : Int))]) → E (.ref T.C_BadRecord) (some dd) H')
def spItems (d : Nat) : Sp := fun vs H Q E => ∃ (m : Addr) (z : Str) (p : Nat), vs = [.ref m, .int (d : Int)] ∧ Rdr T H m z p ∧ z.length ≤ sizeLine ∧ p ≤ z.length ∧ d ≤ 7 ∧
  (∀ (ds : List PyData) (v : V) (p' : Nat) H', Dp K H' v (.tuple ds) → PVL ds d → z.cps.toList.drop p = WL ds ++ 41 :: z.cps.toList.drop p' → p' ≤ z.length → (∀ r, Run z.cps.toList (8 - d - 1) (aft (8 - d - 1)) p' r → Run z.cps.toList (8 - d) .itm p r) → But m H H' → Rdr T H' m z p' → Q v H') ∧
  (∀ (q : Nat) (dd : Addr) H', Run z.cps.toList (8 - d) .itm p (some q) → But m H H' → H' dd = some (.xd [("what", .int (q : Int))]) → E (.ref T.C_BadRecord) (some dd) H')
def spItemsX : Nat → Sp
  | 0 => fun vs _ _ _ => vs.length = 2 ∧ False
  | d + 1 => spItems T d
def Sv (d : Nat) : List Nat := [84, 70, 39, 48, 49, 50, 51, 52, 53, 54, 55, 56, 57] ++ (if 0 < d then [40] else [])
theorem rd_sel {d : Nat} {σ : L2.St} {H : Hp} {Q : VK} (h : ∀ s : Str, s.cps.toList = (if 0 < d then [40] else []) → Q (.str s) H) : if decide ((0 : Int) < (d : Int)) = true then tC (.str (Str.ofString "(")) σ H Q else tC (.str (Str.ofString "")) σ H Q := by
  by_cases e : 0 < d
  · rw [decide_eq_true (by omega)]
    exact rd_iteT (h _ (by rw [if_pos e]; decide +kernel))
  · rw [decide_eq_false (by omega)]
    exact rd_iteF (h _ (by rw [if_neg e]; decide +kernel))
theorem sg_list {s : Str} {d : Nat} (h : s.cps.toList = (if 0 < d then [40] else [])) : ((Str.ofString "TF" ++ Str.ofString "'" ++ Str.ofString "0123456789") ++ s).cps.toList = Sv d := by
  have e := TL.tl_append (Str.ofString "TF" ++ Str.ofString "'" ++ Str.ofString "0123456789") s
  refine Eq.trans e ?_
  show (Str.ofString "TF" ++ Str.ofString "'" ++ Str.ofString "0123456789").cps.toList ++ s.cps.toList = _
  rw [h, show (Str.ofString "TF" ++ Str.ofString "'" ++ Str.ofString "0123456789").cps.toList = [84, 70, 39, 48, 49, 50, 51, 52, 53, 54, 55, 56, 57] by decide +kernel]
  rfl
theorem sg_bad {d c : Nat} (d8 : d ≤ 8) (h : c ∉ Sv d) : c ∉ Sg ∨ c = 41 ∨ (c = 40 ∧ 8 - d = 8) := by
  unfold Sv at h
  by_cases e : c ∈ Sg
  · refine .inr ?_
    unfold Sg at e
    simp only [List.mem_cons, List.not_mem_nil, or_false] at e
    rw [List.mem_append] at h
    simp only [List.mem_cons, List.not_mem_nil, or_false] at h
    by_cases e40 : c = 40
    · refine .inr ⟨e40, ?_⟩
      by_cases d0 : 0 < d
      · exact absurd (.inr (by rw [if_pos d0, e40]; exact List.mem_singleton.mpr rfl)) h
      · omega
    · refine .inl ?_
      have h1 := fun z => h (.inl z)
      omega
  · exact .inl e
theorem oneS {c k : Nat} {s : Str} (hs : s.cps.toList = [k]) : (⟨#[c]⟩ : Str) = s ↔ c = k := by
  constructor
  · intro e
    rw [← e] at hs
    exact (List.cons.inj (show [c] = [k] from hs)).1
  · intro e
    obtain ⟨a⟩ := s
    have hs : a.toList = [k] := hs
    rw [e]
    have : #[k].toList = a.toList := hs.symm
    rw [Array.toList_inj.mp this]
theorem dr_at {z : List Nat} {p c : Nat} (h : z[p]? = some c) : z.drop p = c :: z.drop (p + 1) := by
  obtain ⟨hb, e⟩ := List.getElem?_eq_some_iff.mp h
  rw [List.drop_eq_getElem_cons hb, e]
theorem ok_val (d : Nat) (hI : FnOk P w K mg base (L2.CX P w) (2 * d + 4) T.a_ValueReader_items_behind T.d_ValueReader_items_behind ["self", "deep"] (spItemsX T d)) : FnOk P w K mg base (L2.CX P w) (2 * d + 5) T.a_ValueReader_value T.d_ValueReader_value ["self", "deep"] (spValue T d) := by
  refine T.f_ValueReader_value.okX sc_ValueReader_value (fun vs H Q E h => ?_) (fun cdv A outer s H vs Q E hr h => ?_)
  · obtain ⟨_, _, _, rfl, _⟩ := h; rfl
  · obtain ⟨m, z, p, rfl, R, lz, pl, d8, qy, qn⟩ := h
    have ok_ValueReader_items_behind : ∀ _ : Txt K mg, FnOk P w K mg base (L2.CX P w) (2 * d + 4) T.a_ValueReader_items_behind T.d_ValueReader_items_behind ["self", "deep"] (spItemsX T d) := fun _ => hI
    have hzl : z.cps.toList.length = z.length := rfl
    refine ⟨_, (pss_cons (ps_set (i := 2) sc_ValueReader_value.nd rfl (by first | exact Or.inl rfl | exact Or.inr rfl) (kFld K rfl (pe_fld (pv 0) rfl)))
  (pss_cons (ps_set (i := 3) sc_ValueReader_value.nd rfl (by first | exact Or.inl rfl | exact Or.inr rfl) (pe_methRs T.m_ValueReader_take T.cl_ValueReader (pv 0) (ok_ValueReader_take T) (hr.mono (by omega)) T.b_ValueReader_take (takes_of rfl rfl rfl rfl) (pa_cons (pe_op (kAdd K) (pe_op (kAdd K) (pe_op (kAdd K) pe_str (pe_globS (by rfl) T.c_QUOTE)) (pe_globS (by rfl) T.c_DIGITS)) (pe_ifExp (pt_cmpR op_gtP (pv 1) pe_int (by first | rfl | exact nomark _)) pe_str pe_str)) pa_nil)))
  (pss_cons (ps_if (pt_cmpR (kEq K rfl hr.units) (pv 3) pe_str (by first | rfl | exact nomark _))
    (pss_one (ps_ret (pe_methRs T.m_ValueReader_items_behind T.cl_ValueReader (pv 0) (ok_ValueReader_items_behind T) (hr.mono (by omega)) T.b_ValueReader_items_behind (takes_of rfl rfl rfl rfl) (pa_cons (pe_op op_subP (pv 1) pe_int) pa_nil))))
    pss_nil)
  (pss_cons (ps_if (pt_cmpR (kEq K rfl hr.units) (pv 3) (pe_globS (by rfl) T.c_QUOTE) (by first | rfl | exact nomark _))
    (pss_one (ps_ret (pe_methR0 T.m_ValueReader_text_behind T.cl_ValueReader (pv 0) (ok_ValueReader_text_behind T) (hr.mono (by omega)) T.b_ValueReader_text_behind (takes_of rfl rfl rfl rfl))))
    pss_nil)
  (pss_cons (ps_if (pt_cmpR (kIn K) (pv 3) (pe_globS (by rfl) T.c_DIGITS) (by first | rfl | exact nomark _))
    (pss_one (ps_ret (pe_meth (pv 0) T.cl_ValueReader T.m_ValueReader_number_from (ok_ValueReader_number_from T) (hr.mono (by omega)) T.b_ValueReader_number_from .nil pass0 (pa_cons (pv 2) pa_nil))))
    pss_nil)
  (pss_one (ps_ret (pe_cmpR (kEq K rfl hr.units) (pv 3) pe_str (by first | rfl | exact nomark _))))))))), ?_⟩
    obtain ⟨dx, hm⟩ := id R
    walk_at "rc"
    refine ⟨m, _, dx, _, _, rfl, hm, T.cl_ValueReader, T.na_ValueReader_place, rfl, ?_⟩
    walk_at "rc"
    refine ⟨m, dx, _, rfl, hm, rfl, ?_⟩
    walk_at "rc"
    refine rd_addS (by decide +kernel) ?_
    refine rd_addS (by decide +kernel) ?_
    refine rd_ife ?_
    walk_at "rc"
    refine rd_sel fun sx hsx => ?_
    have lsx : sx.length ≤ 1 := by
      show sx.cps.toList.length ≤ 1
      rw [hsx]; split <;> simp
    refine rd_addS (by
      have : (Str.ofString "TF" ++ Str.ofString "'" ++ Str.ofString "0123456789").length = 13 := by decide +kernel
      have hs : 1000000 ≤ sizeLine := by decide
      rw [this]; omega) ?_
    have hsg := sg_list hsx
    walk_at "rc"
    refine ⟨m, z, p, _, rfl, R, lz, fun c H1 hc hcs b1 R1 => ?_, fun hf dd H1 b1 hd => ?_⟩
    · rw [hsg] at hcs
      have pl1 : p < z.length := (List.getElem?_eq_some_iff.mp hc).1
      have edr := dr_at hc
      walk_at "rc"
      walk_at "rs"
      walk_at "rc"
      refine rd_iteD (fun h40 => ?_) fun n40 => ?_
      · have h40 : c = 40 := (oneS (by decide +kernel)).mp h40
        subst h40
        cases d with
        | zero => exact absurd hcs (by decide)
        | succ e =>
          obtain ⟨dx1, hm1⟩ := id R1
          walk_at "rc"
          refine ⟨m, dx1, _, rfl, hm1, rfl, ?_⟩
          walk_at "rc"
          rw [show ((e + 1 : Nat) : Int) - 1 = (e : Int) by omega]
          refine ⟨m, z, p + 1, rfl, R1, lz, by omega, by omega, fun ds v p' H2 hv hpv hdr hp' hrun b2 R2 => ?_, fun q dd H2 hrun b2 hd => ?_⟩
          · refine qy (.tuple ds) v p' H2 hv hpv ?_ hp' (fun r hr => ?_) (b1.trans b2) R2
            · rw [edr, hdr]
              show _ = 40 :: (WL ds ++ [41]) ++ _
              rw [List.cons_append, List.append_assoc]; rfl
            · refine .go (stp_open hc (.inl rfl) (by omega)) ?_
              rw [show 8 - (e + 1) + 1 = 8 - e by omega]
              refine hrun r ?_
              rw [show 8 - e - 1 = 8 - (e + 1) by omega]
              exact hr
          · refine qn q dd H2 (.go (stp_open hc (.inl rfl) (by omega)) ?_) (b1.trans b2) hd
            rw [show 8 - (e + 1) + 1 = 8 - e by omega]
            exact hrun
      · have n40 : c ≠ 40 := fun e => n40 ((oneS (by decide +kernel)).mpr e)
        obtain ⟨dx1, hm1⟩ := id R1
        walk_at "rc"
        walk_at "rs"
        walk_at "rc"
        refine rd_iteD (fun h39 => ?_) fun n39 => ?_
        · have h39 : c = 39 := (oneS (by decide +kernel)).mp h39
          subst h39
          walk_at "rc"
          refine ⟨m, dx1, _, rfl, hm1, rfl, ?_⟩
          walk_at "rc"
          refine ⟨m, z, p + 1, rfl, R1, lz, fun hq s H2 hs b2 R2 => ?_, fun hq dd H2 b2 hd => ?_⟩
          · have hq' : z.cps.toList[p + 1 + sp Lt (z.cps.toList.drop (p + 1))]? = some 39 := hq
            have pl2 : p + 1 + nT' z (p + 1) < z.length := (List.getElem?_eq_some_iff.mp hq).1
            refine qy (.str s) (.str s) (p + 1 + nT' z (p + 1) + 1) H2 (.str s) ?_ ?_ (by omega) (fun r hr => ?_) (b1.trans b2) R2
            · have : ∀ c ∈ s.cps.toList, c ∈ Lt := fun x hx => by
                rw [hs] at hx
                obtain ⟨i, hi⟩ := List.mem_iff_getElem?.mp hx
                rw [List.getElem?_take] at hi
                split at hi
                · rename_i hlt
                  obtain ⟨y, hy, hk⟩ := sp_at (ks := Lt) (z := z.cps.toList.drop (p + 1)) (i := i) hlt
                  rw [hi] at hy
                  cases hy
                  exact hk
                · exact nomatch hi
              cases d <;> exact this
            · show _ = 39 :: (s.cps.toList ++ [39]) ++ _
              rw [edr, hs, List.cons_append, List.append_assoc]
              refine congrArg (39 :: ·) ?_
              have e2 := dr_at hq
              have e3 := (List.take_append_drop (nT' z (p + 1)) (z.cps.toList.drop (p + 1))).symm
              rw [List.drop_drop, e2] at e3
              exact e3
            · exact .go (stp_txt hc (.inl rfl) hq') hr
          · refine qn _ dd H2 (.fin ?_) (b1.trans b2) hd
            exact stp_txtB hc (.inl rfl) hq
        · have n39 : c ≠ 39 := fun e => n39 ((oneS (by decide +kernel)).mpr e)
          walk_at "rc"
          walk_at "rs"
          walk_at "rc"
          refine rd_iteD (fun hdg => ?_) fun ndg => ?_
          · have hdg : c ∈ Dg := hdg
            walk_at "rc"
            refine ⟨m, dx1, _, rfl, hm1, rfl, ?_⟩
            walk_at "rc"
            refine ⟨m, z, p, c, rfl, R1, lz, hc, hdg, fun n H2 hn hn9 b2 R2 => ?_⟩
            have pn : p + 1 + nN z (p + 1) c ≤ z.length := by
              have sl := sp_le (ks := Dg) (z.cps.toList.drop (p + 1))
              rw [List.length_drop] at sl
              unfold nN
              split
              · omega
              · have := Nat.min_le_right 8 (sp Dg (z.cps.toList.drop (p + 1)))
                omega
            refine qy (.int (n : Int)) (.int (n : Int)) (p + 1 + nN z (p + 1) c) H2 (.int _) ?_ ?_ pn (fun r hr => ?_) (b1.trans b2) R2
            · cases d <;> exact ⟨by omega, by omega⟩
            · show _ = wI (n : Int) ++ _
              rw [edr, hn, List.cons_append]
              refine congrArg (c :: ·) ?_
              have e3 := (List.take_append_drop (nN z (p + 1) c) (z.cps.toList.drop (p + 1))).symm
              rw [List.drop_drop] at e3
              exact e3
            · have rg := dg_range hdg
              by_cases e48 : c = 48
              · refine .go (stp_one hc (.inl rfl) (.inr (.inr e48))) ?_
                have : nN z (p + 1) c = 0 := by unfold nN; rw [if_pos e48]
                rw [this] at hr
                exact hr
              · refine .go (stp_num hc (.inl rfl) (by omega)) ?_
                have : nN z (p + 1) c = min 8 (sp Dg (z.cps.toList.drop (p + 1))) := by unfold nN; rw [if_neg e48]
                rw [this] at hr
                exact hr
          · have ndg : c ∉ Dg := ndg
            have c2 : c = 84 ∨ c = 70 := by
              unfold Sv at hcs
              rw [List.mem_append] at hcs
              have nd : ¬ (48 ≤ c ∧ c ≤ 57) := fun z => ndg (mem_Dg.mpr z)
              rcases hcs with h | h
              · simp only [List.mem_cons, List.not_mem_nil, or_false] at h
                omega
              · split at h
                · exact absurd (List.mem_singleton.mp h) n40
                · exact nomatch h
            walk_at "rc"
            have eb : decide ((⟨#[c]⟩ : Str) = Str.ofString "T") = decide (c = 84) := by
              rw [decide_eq_decide]
              exact oneS (by decide +kernel)
            rw [eb]
            refine qy (.bool (decide (c = 84))) (.bl (decide (c = 84))) (p + 1) H1 (.bl _) ?_ ?_ (by omega) (fun r hr => ?_) b1 R1
            · cases d <;> exact True.intro
            · rw [edr]
              rcases c2 with rfl | rfl <;> rfl
            · exact .go (stp_one hc (.inl rfl) (by omega)) hr
    · rw [hsg] at hf
      refine qn p dd H1 ?_ b1 hd
      unfold fc at hf
      cases e : z.cps.toList[p]? with
      | none =>
        have : p = z.cps.toList.length := by
          have := List.getElem?_eq_none_iff.mp e
          omega
        have h := stp_end (d := 8 - d) (w := .val) e (by decide)
        rw [← this] at h
        exact .fin h
      | some c =>
        rw [e] at hf
        exact .fin (stp_bad e (sg_bad d8 (of_decide_eq_false hf)))
end
section
theorem WL_cons (x : PyData) (xs : List PyData) : WL (x :: xs) = W x ++ WR xs := WM_eq xs (W x)
theorem WR_snoc (y : PyData) : ∀ xs : List PyData, WR (xs ++ [y]) = WR xs ++ 32 :: W y
  | [] => by
    show 32 :: (W y ++ []) = _
    rw [List.append_nil]; rfl
  | x :: xs => by
    show 32 :: (W x ++ WR (xs ++ [y])) = 32 :: (W x ++ WR xs) ++ 32 :: W y
    rw [WR_snoc y xs, List.cons_append, List.append_assoc]
theorem WL_snoc {ds : List PyData} {y : PyData} (h : ds ≠ []) : WL (ds ++ [y]) = WL ds ++ 32 :: W y := by
  cases ds with
  | nil => exact absurd rfl h
  | cons x xs =>
    show WL (x :: (xs ++ [y])) = _
    rw [WL_cons, WL_cons, WR_snoc, List.append_assoc]
theorem PVL_snoc {y : PyData} {n : Nat} (hy : PV y n) : ∀ {ds : List PyData}, PVL ds n → PVL (ds ++ [y]) n
  | [], _ => ⟨hy, True.intro⟩
  | x :: xs, h => ⟨h.1, PVL_snoc hy h.2⟩
theorem W_pos {x : PyData} {n : Nat} (h : PV x n) : 0 < (W x).length := by
  obtain ⟨c, t, e, _⟩ := W_head h
  rw [e]; exact Nat.succ_pos _
theorem drop_len {z a : List Nat} {p p' : Nat} (h : z.drop p = a ++ z.drop p') (h0 : 0 < a.length) (hp : p' ≤ z.length) : p < p' := by
  have := congrArg List.length h
  rw [List.length_append, List.length_drop, List.length_drop] at this
  omega
structure Its' (K : PySem.W.Frag) (m : Addr) (H0 H : Hp) (l : Addr) (vs : List V) (ds : List PyData) : Prop where
  b : But m H0 H
  l : H l = some (.lst vs)
  d : DpAll K H vs ds
  n : ∀ x ∈ ds, noList x = true
theorem Its'.but {K : PySem.W.Frag} {m l dx C : Addr} {fs : List (Str × V)} {H0 H H' : Hp} {vs : List V} {ds : List PyData} (h : Its' K m H0 H l vs ds) (hm : H m = some (.ins C dx fs)) (k : But m H H') : Its' K m H0 H' l vs ds := by
  have nl : l ≠ m := fun z => by rw [← z, h.l] at hm; cases hm
  refine ⟨h.b.trans k, k _ _ nl h.l, dpAll_ex k.hid (dpAll_hidT (fun b hb => ?_) h.n h.d), h.n⟩
  rw [List.mem_singleton.mp hb]
  exact .inl ⟨_, _, _, hm⟩
theorem Its'.push {K : PySem.W.Frag} {m l : Addr} {H0 H : Hp} {vs : List V} {ds : List PyData} {v : V} {d : PyData} (h : Its' K m H0 H l vs ds) (h0 : H0 l = none) (hv : Dp K H v d) (hn : noList d = true) : Its' K m H0 (upd H l (.lst (vs ++ [v]))) l (vs ++ [v]) (ds ++ [d]) := by
  have n2 : ∀ x ∈ ds ++ [d], noList x = true := fun x hx => (List.mem_append.mp hx).elim (h.n x) fun e => by rw [List.mem_singleton.mp e]; exact hn
  refine ⟨fun b o hb z => ?_, upd_same, ?_, n2⟩
  · rw [upd_ne (fun e => by rw [e, h0] at z; cases z)]
    exact h.b b o hb z
  · refine dpAll_ex (H := hid [l] H) (fun b o z => ?_) (dpAll_hidT (fun b hb => ?_) n2 (dpAll_app hv h.d))
    · obtain ⟨z1, z2⟩ := hid_some z
      rw [upd_ne (fun e => z1 (by rw [e]; exact List.mem_singleton.mpr rfl))]
      exact z2
    · rw [List.mem_singleton.mp hb]
      exact .inr ⟨_, h.l⟩
theorem fc_one {z : Str} {p k : Nat} : fc z p [k] = decide (z.cps.toList[p]? = some k) := by
  unfold fc
  cases e : z.cps.toList[p]? with
  | none => simp
  | some c => simp
variable (T : Txt K mg)
theorem ok_itm (d : Nat) (hV : FnOk P w K mg base (L2.CX P w) (2 * d + 5) T.a_ValueReader_value T.d_ValueReader_value ["self", "deep"] (spValue T d)) : FnOk P w K mg base (L2.CX P w) (2 * d + 6) T.a_ValueReader_items_behind T.d_ValueReader_items_behind ["self", "deep"] (spItems T d) := by
  refine T.f_ValueReader_items_behind.okX sc_ValueReader_items_behind (fun vs H Q E h => ?_) (fun cdv A outer s H vs Q E hr h => ?_)
  · obtain ⟨_, _, _, rfl, _⟩ := h; rfl
  · obtain ⟨m, z, p, rfl, R, lz, pl, d7, qy, qn⟩ := h
    have ok_ValueReader_value : ∀ _ : Txt K mg, FnOk P w K mg base (L2.CX P w) (2 * d + 5) T.a_ValueReader_value T.d_ValueReader_value ["self", "deep"] (spValue T d) := fun _ => hV
    have hzl : z.cps.toList.length = z.length := rfl
    have ea : aft (8 - d) = .mor := by unfold aft; rw [if_pos (by omega)]
    refine ⟨_, (pss_cons (ps_set (i := 2) sc_ValueReader_items_behind.nd rfl (by first | exact Or.inl rfl | exact Or.inr rfl) (pe_lst pa_nil))
  (pss_cons (ps_if (pt_not (pt_val (pe_meth (pv 0) T.cl_ValueReader T.m_ValueReader_faces (ok_ValueReader_faces T) (hr.mono (by omega)) T.b_ValueReader_faces .nil pass0 (pa_cons pe_str pa_nil))))
    (pss_cons (ps_expr (kBm K rfl (pe_bm PySem.F.plainAttrs_list PySem.F.slot_list_append PySem.F.type_list_append mt_append (pv 2) (pa_cons (pe_methRs T.m_ValueReader_value T.cl_ValueReader (pv 0) (ok_ValueReader_value T) (hr.mono (by omega)) T.b_ValueReader_value (takes_of rfl rfl rfl rfl) (pa_cons (pv 1) pa_nil)) pa_nil))))
  (pss_one (ps_while (passes_of rfl) (pt_val (pe_meth (pv 0) T.cl_ValueReader T.m_ValueReader_faces (ok_ValueReader_faces T) (hr.mono (by omega)) T.b_ValueReader_faces .nil pass0 (pa_cons pe_str pa_nil)))
    (pss_cons (ps_expr (pe_methRs T.m_ValueReader_take T.cl_ValueReader (pv 0) (ok_ValueReader_take T) (hr.mono (by omega)) T.b_ValueReader_take (takes_of rfl rfl rfl rfl) (pa_cons pe_str pa_nil)))
  (pss_one (ps_expr (kBm K rfl (pe_bm PySem.F.plainAttrs_list PySem.F.slot_list_append PySem.F.type_list_append mt_append (pv 2) (pa_cons (pe_methRs T.m_ValueReader_value T.cl_ValueReader (pv 0) (ok_ValueReader_value T) (hr.mono (by omega)) T.b_ValueReader_value (takes_of rfl rfl rfl rfl) (pa_cons (pv 1) pa_nil)) pa_nil)))))))))
    pss_nil)
  (pss_cons (ps_expr (pe_methRs T.m_ValueReader_take T.cl_ValueReader (pv 0) (ok_ValueReader_take T) (hr.mono (by omega)) T.b_ValueReader_take (takes_of rfl rfl rfl rfl) (pa_cons pe_str pa_nil)))
  (pss_one (ps_ret (pe_callTy (kTupOf K) (by rfl) T.nb_tuple (by decide +kernel) (pa_cons (pv 2) pa_nil))))))), ?_⟩
    walk_at "rc"
    refine ⟨Nat.zero_le _, fun l hl => ?_⟩
    have I1 : Its' K m H (upd H l (.lst [])) l [] [] := ⟨Ex.but (Evl.Ex.new hl), upd_same, .nil, fun x h => nomatch h⟩
    have R1 := R.ex T (Evl.Ex.new (o := .lst []) hl)
    generalize upd H l (.lst []) = H1 at I1 R1
    walk_at "rc"
    refine rd_cut (fun σ H' => ∃ (ds : List PyData) (vs : List V) (pk : Nat), σ = [some (.ref m), some (.int (d : Int)), some (.ref l)] ∧ Its' K m H H' l vs ds ∧ PVL ds d ∧ z.cps.toList.drop p = WL ds ++ z.cps.toList.drop pk ∧ pk ≤ z.length ∧ Rdr T H' m z pk ∧ (z.cps.toList[pk]? = some 41 → ∀ r, Run z.cps.toList (8 - d - 1) (aft (8 - d - 1)) (pk + 1) r → Run z.cps.toList (8 - d) .itm p r) ∧ (z.cps.toList[pk]? ≠ some 41 → Run z.cps.toList (8 - d) .itm p (some pk))) (fun N hN => ?_) ?_
    · obtain ⟨dx1, hm1⟩ := id R1
      walk_at "rc"
      refine ⟨m, dx1, _, rfl, hm1, rfl, ?_⟩
      walk_at "rc"
      refine ⟨m, z, p, _, rfl, R1, lz, ?_⟩
      rw [show (Str.ofString ")").cps.toList = [41] by decide +kernel, fc_one]
      walk_at "rc"
      refine rd_iteN (fun n41 => ?_) fun h41 => ?_
      · walk_at "rc"
        refine ⟨.inl ⟨rfl, _, SqL.of I1.l⟩, ?_⟩
        walk_at "rc"
        refine ⟨m, dx1, _, rfl, hm1, rfl, ?_⟩
        walk_at "rc"
        refine ⟨m, z, p, rfl, R1, lz, pl, by omega, fun dt v p' H2 hv hpv hdr hp' hrun b2 R2 => ?_, fun q dd H2 hrun b2 hd => qn q dd H2 (Run.itm n41 hrun) (I1.b.trans b2) hd⟩
        walk_at "rc"
        have I2 := I1.but hm1 b2
        refine ⟨l, _, _, rfl, rfl, I2.l, by show 0 < sizeLine; decide, ?_⟩
        have I3 := I2.push hl hv (pv_noList d hpv)
        have R3 : Rdr T (upd H2 l (.lst ([] ++ [v]))) m z p' := by
          obtain ⟨dx2, hm2⟩ := R2
          exact ⟨dx2, by rw [upd_ne (fun e => by rw [e, I2.l] at hm2; cases hm2)]; exact hm2⟩
        have hpp := drop_len hdr (W_pos hpv) hp'
        refine rd_wh (fun mm σ H' => ∃ (ds : List PyData) (vs : List V) (pk : Nat), σ = [some (.ref m), some (.int (d : Int)), some (.ref l)] ∧ Its' K m H H' l vs ds ∧ ds ≠ [] ∧ PVL ds d ∧ z.cps.toList.drop p = WL ds ++ z.cps.toList.drop pk ∧ pk ≤ z.length ∧ vs.length ≤ pk ∧ Rdr T H' m z pk ∧ (∀ r, Run z.cps.toList (8 - d) .mor pk r → Run z.cps.toList (8 - d) .itm p r) ∧ mm = z.length - pk)
          _ ⟨[dt], [v], p', rfl, I3, (fun z => nomatch z), ⟨hpv, True.intro⟩, hdr, hp', by show 1 ≤ p'; omega, R3, fun r hr => Run.itm n41 (hrun r (by rw [ea]; exact hr)), rfl⟩ ?_
        rintro mm σ H4 ⟨ds, vs, pk, rfl, I4, dn, hpv4, hdr4, hpk, vl, R4, hrun4, rfl⟩
        obtain ⟨dx4, hm4⟩ := id R4
        walk_at "rc"
        refine ⟨m, dx4, _, rfl, hm4, rfl, ?_⟩
        walk_at "rc"
        refine ⟨m, z, pk, _, rfl, R4, lz, ?_⟩
        rw [show (Str.ofString " ").cps.toList = [32] by decide +kernel, fc_one]
        walk_at "rc"
        refine rd_iteD (fun h32 => ?_) fun n32 => ?_
        · refine ⟨_, fun σ2 H2 z => z, ?_⟩
          have pk1 : pk < z.length := (List.getElem?_eq_some_iff.mp h32).1
          walk_at "rc"
          refine ⟨m, dx4, _, rfl, hm4, rfl, ?_⟩
          walk_at "rc"
          refine ⟨m, z, pk, _, rfl, R4, lz, fun c H5 _ _ b5 R5 => ?_, fun hf => ?_⟩
          · have I5 := I4.but hm4 b5
            obtain ⟨dx5, hm5⟩ := id R5
            walk_at "rc"
            refine ⟨.inl ⟨rfl, _, SqL.of I5.l⟩, ?_⟩
            walk_at "rc"
            refine ⟨m, dx5, _, rfl, hm5, rfl, ?_⟩
            walk_at "rc"
            refine ⟨m, z, pk + 1, rfl, R5, lz, by omega, by omega, fun dt6 v6 p6 H6 hv6 hpv6 hdr6 hp6 hrun6 b6 R6 => ?_, fun q dd H6 hrun6 b6 hd => qn q dd H6 (hrun4 _ (.go (stp_sp h32) hrun6)) (I5.b.trans b6) hd⟩
            have I6 := I5.but hm5 b6
            have hpp6 := drop_len hdr6 (W_pos hpv6) hp6
            walk_at "rc"
            refine ⟨l, _, _, rfl, rfl, I6.l, by omega, ?_⟩
            have R7 : Rdr T (upd H6 l (.lst (vs ++ [v6]))) m z p6 := by
              obtain ⟨dx6, hm6⟩ := R6
              exact ⟨dx6, by rw [upd_ne (fun e => by rw [e, I6.l] at hm6; cases hm6)]; exact hm6⟩
            refine ⟨z.length - p6, by omega, ds ++ [dt6], vs ++ [v6], p6, rfl, I6.push hl hv6 (pv_noList d hpv6), (fun e => nomatch (List.append_eq_nil_iff.mp e).2), PVL_snoc hpv6 hpv4, ?_, hp6, by rw [List.length_append]; show vs.length + 1 ≤ p6; omega, R7, fun r hr => hrun4 r (.go (stp_sp h32) (hrun6 r (by rw [ea]; exact hr))), rfl⟩
            rw [hdr4, WL_snoc dn, dr_at h32, hdr6, List.append_assoc]
            rfl
          · rw [show (Str.ofString " ").cps.toList = [32] by decide +kernel, fc_one] at hf
            exact absurd h32 (of_decide_eq_false hf)
        · refine hN _ _ ⟨ds, vs, pk, rfl, I4, hpv4, hdr4, hpk, R4, fun h41 r hr => hrun4 r (.go (stp_close h41 (.inl rfl)) hr), fun n41' => hrun4 _ ?_⟩
          cases e : z.cps.toList[pk]? with
          | none =>
            have : pk = z.cps.toList.length := by
              have := List.getElem?_eq_none_iff.mp e
              omega
            have h := stp_end (d := 8 - d) (w := .mor) e (by decide)
            rw [← this] at h
            exact .fin h
          | some c => exact .fin (stp_badM e ⟨fun e2 => n32 (by rw [e, e2]), fun e2 => n41' (by rw [e, e2])⟩)
      · walk_at "rc"
        exact hN _ _ ⟨[], [], p, rfl, I1, True.intro, rfl, pl, R1, fun h41 r hr => .go (stp_close h41 (.inr rfl)) hr, fun n => absurd h41 n⟩
    · rintro σ H4 ⟨ds, vs, pk, rfl, I4, hpv4, hdr4, hpk, R4, hy, hn⟩
      obtain ⟨dx4, hm4⟩ := id R4
      walk_at "rc"
      refine ⟨m, dx4, _, rfl, hm4, rfl, ?_⟩
      walk_at "rc"
      refine ⟨m, z, pk, _, rfl, R4, lz, fun c H5 hc hcs b5 R5 => ?_, fun hf dd H5 b5 hd => ?_⟩
      · have h41 : z.cps.toList[pk]? = some 41 := by
          rw [show (Str.ofString ")").cps.toList = [41] by decide +kernel] at hcs
          rw [hc, List.mem_singleton.mp hcs]
        have pk1 : pk < z.length := (List.getElem?_eq_some_iff.mp h41).1
        have I5 := I4.but hm4 b5
        walk_at "rc"
        refine rd_tupL (SqL.of I5.l) fun a ha => ?_
        refine qy ds (.ref a) (pk + 1) _ (.tup (Evl.st_of upd_same) (dpAll_ex (Evl.Ex.new ha) I5.d)) hpv4 ?_ (by omega) (hy h41) (I5.b.ex (Evl.Ex.new ha)) (R5.ex T (Evl.Ex.new ha))
        rw [hdr4, dr_at h41]
      · refine qn pk dd H5 (hn ?_) (I4.b.trans b5) hd
        rw [show (Str.ofString ")").cps.toList = [41] by decide +kernel, fc_one] at hf
        exact of_decide_eq_false hf
theorem ok_VI : ∀ d : Nat, FnOk P w K mg base (L2.CX P w) (2 * d + 5) T.a_ValueReader_value T.d_ValueReader_value ["self", "deep"] (spValue T d)
  | 0 => ok_val T 0 (by
    refine T.f_ValueReader_items_behind.okX sc_ValueReader_items_behind (fun vs H Q E h => ?_) (fun cdv A outer s H vs Q E hr h => ?_)
    · exact h.2.elim
    · exact h.2.elim)
  | d + 1 => ok_val T (d + 1) (ok_itm T d (ok_VI d))
end
section
variable (T : Txt K mg)
theorem ok_ValueReader_value : FnOk P w K mg base (L2.CX P w) 21 T.a_ValueReader_value T.d_ValueReader_value ["self", "deep"] (spValue T 8) := ok_VI T 8
def spVInit : Sp := fun vs H Q _ => ∃ (m dx : Addr) (z : Str), vs = [.ref m, .str z, .int 0] ∧ H m = some (.ins T.C_ValueReader dx []) ∧ ∀ H', But m H H' → Rdr T H' m z 0 → Q .non H'
theorem ok_ValueReader_init : FnOk P w K mg base CX0 1 T.a_ValueReader_init T.d_ValueReader_init ["self", "text", "place"] (spVInit T) := by
  refine T.f_ValueReader_init.ok sc_ValueReader_init (fun vs H Q E h => ?_) (fun cdv A outer s H vs Q E hr h => ?_)
  · obtain ⟨_, _, _, rfl, _⟩ := h; rfl
  · obtain ⟨m, dx, z, rfl, hm, q⟩ := h
    refine ⟨_, (pss_cons (kSf K rfl (ps_fld (pv 0) (pv 1) rfl))
  (pss_one (kSf K rfl (ps_fld (pv 0) (pv 2) rfl)))), ?_⟩
    walk_at "rs"
    walk_at "rc"
    refine ⟨m, T.C_ValueReader, dx, [], rfl, hm, T.cl_ValueReader, T.na_ValueReader_text, by show 0 < 1000; decide, ?_⟩
    have b1 : But m H (upd H m (.ins T.C_ValueReader dx (putF "text" (.str z) []))) := But.of
    have m1 : upd H m (.ins T.C_ValueReader dx (putF "text" (.str z) [])) m = some (.ins T.C_ValueReader dx [("text", .str z)]) := upd_same
    generalize upd H m (.ins T.C_ValueReader dx (putF "text" (.str z) [])) = H1 at b1 m1
    walk_at "rc"
    refine ⟨m, T.C_ValueReader, dx, _, rfl, m1, T.cl_ValueReader, T.na_ValueReader_place, by show 1 < 1000; decide, ?_⟩
    exact q _ (b1.trans But.of) ⟨dx, upd_same⟩
def spWhole : Sp := fun vs H Q E => ∃ (m : Addr) (z : Str), vs = [.ref m] ∧ Rdr T H m z 0 ∧ z.length ≤ sizeLine ∧
  (∀ (dt : PyData) (v : V) H', Dp K H' v dt → PV dt 8 → z.cps.toList = W dt → Run z.cps.toList 0 .val 0 none → But m H H' → Q v H') ∧
  (∀ (q : Nat) (dd : Addr) H', Run z.cps.toList 0 .val 0 (some q) → But m H H' → H' dd = some (.xd [("what", .int (q : Int))]) → E (.ref T.C_BadRecord) (some dd) H')
theorem ok_ValueReader_whole : FnOk P w K mg base (L2.CX P w) 22 T.a_ValueReader_whole T.d_ValueReader_whole ["self"] (spWhole T) := by
  refine T.f_ValueReader_whole.okX sc_ValueReader_whole (fun vs H Q E h => ?_) (fun cdv A outer s H vs Q E hr h => ?_)
  · obtain ⟨_, _, rfl, _⟩ := h; rfl
  · obtain ⟨m, z, rfl, R, lz, qy, qn⟩ := h
    have hzl : z.cps.toList.length = z.length := rfl
    refine ⟨_, (pss_cons (ps_set (i := 1) sc_ValueReader_whole.nd rfl (by first | exact Or.inl rfl | exact Or.inr rfl) (pe_methRs T.m_ValueReader_value T.cl_ValueReader (pv 0) (ok_ValueReader_value T) (hr.mono (by decide)) T.b_ValueReader_value (takes_of rfl rfl rfl rfl) (pa_cons (pe_globI (by rfl) T.c_MOST_DEEP) pa_nil)))
  (pss_cons (ps_if (pt_cmpR op_ltP (kFld K rfl (pe_fld (pv 0) rfl)) (pe_callB (kLen K) (by rfl) T.nb_len (by decide +kernel) (pa_cons (kFld K rfl (pe_fld (pv 0) rfl)) pa_nil)) (by first | rfl | exact nomark _))
    (pss_one (ps_raiseW rfl T.x_BadRecord (ok_init T) T.tI T.bI (hr.mono (by decide)) T.g_BadRecord (takes_of rfl rfl rfl rfl) (pa_cons (kFld K rfl (pe_fld (pv 0) rfl)) pa_nil) (MonoA.one mono_fld)))
    pss_nil)
  (pss_one (ps_ret (pv 1))))), ?_⟩
    obtain ⟨dx, hm⟩ := id R
    walk_at "rc"
    refine ⟨m, dx, _, rfl, hm, rfl, ?_⟩
    walk_at "rc"
    refine ⟨m, z, 0, rfl, R, lz, Nat.zero_le _, Nat.le_refl _, fun dt v p' H1 hv hpv hdr hp' hrun b1 R1 => ?_, fun q dd H1 hrun b1 hd => qn q dd H1 hrun b1 hd⟩
    obtain ⟨dx1, hm1⟩ := id R1
    walk_at "rc"
    walk_at "rs"
    walk_at "rc"
    refine ⟨m, _, dx1, _, _, rfl, hm1, T.cl_ValueReader, T.na_ValueReader_place, rfl, ?_⟩
    walk_at "rc"
    refine ⟨m, _, dx1, _, _, rfl, hm1, T.cl_ValueReader, T.na_ValueReader_text, rfl, ?_⟩
    walk_at "rc"
    refine rd_lenS lz ?_
    walk_at "rc"
    refine rd_iteD (fun hlt => ?_) fun hge => ?_
    · walk_at "rc"
      refine ⟨m, _, dx1, _, _, rfl, hm1, T.cl_ValueReader, T.na_ValueReader_place, rfl, ?_⟩
      refine ⟨_, rfl, fun dd hdd => qn p' dd _ (hrun _ (.fin ?_)) (b1.ex (Evl.Ex.new hdd)) upd_same⟩
      exact stp_more (List.getElem?_eq_getElem (by omega))
    · have hp : p' = z.cps.toList.length := by omega
      walk_at "rc"
      refine qy dt v H1 hv hpv ?_ (hrun _ (.fin (stp_read (List.getElem?_eq_none (by omega))))) b1
      rw [hp, List.drop_length, List.append_nil, List.drop_zero] at hdr
      exact hdr
theorem rd_mkV {C : Addr} {sp : Sp} {dvs : List V} {E : XK} {t : TA} {σ : L2.St} {H : Hp} {Q : VK} (h : t σ H fun vs H1 => ∀ x dx, H1 x = none → H1 dx = none → dx ≠ x → sp (.ref x :: (vs ++ dvs)) (upd (upd H1 dx (.own x)) x (.ins C dx [])) (fun v H2 => v = .non ∧ Q (.ref x) H2) E) : tMake C sp dvs E t σ H Q := h
def spReadV : Sp := fun vs H Q E => ∃ (z : Str), vs = [.str z] ∧ z.length ≤ sizeLine ∧
  (∀ (dt : PyData) (v : V) H', Dp K H' v dt → PV dt 8 → z.cps.toList = W dt → Run z.cps.toList 0 .val 0 none → Ex H H' → Q v H') ∧
  (∀ (q : Nat) (dd : Addr) H', Run z.cps.toList 0 .val 0 (some q) → Ex H H' → H' dd = some (.xd [("what", .int (q : Int))]) → E (.ref T.C_BadRecord) (some dd) H')
theorem ok_read_value : FnOk P w K mg base (L2.CX P w) 24 T.a_read_value T.d_read_value ["text"] (spReadV T) := by
  refine T.f_read_value.okX sc_read_value (fun vs H Q E h => ?_) (fun cdv A outer s H vs Q E hr h => ?_)
  · obtain ⟨_, rfl, _⟩ := h; rfl
  · obtain ⟨z, rfl, lz, qy, qn⟩ := h
    refine ⟨_, (pss_one (ps_ret (pe_methR0 T.m_ValueReader_whole T.cl_ValueReader (pe_make T.mk_ValueReader (ok_ValueReader_init T) (hr.mono (by decide)) (by rfl) T.g_ValueReader T.b_ValueReader_init .nil pass0 (pa_cons (pv 0) (pa_cons pe_int pa_nil))) (ok_ValueReader_whole T) (hr.mono (by decide)) T.b_ValueReader_whole (takes_of rfl rfl rfl rfl)))), ?_⟩
    walk_at "rc"
    refine rd_mkV ?_
    walk_at "rc"
    intro x dx hx hdx ne
    refine ⟨x, dx, z, rfl, upd_same, fun H1 b1 R1 => ⟨rfl, ?_⟩⟩
    have e1 : Ex H H1 := fun b o hb => b1 b o (ne_of_none hb hx) (by rw [upd_ne (ne_of_none hb hx), upd_ne (ne_of_none hb hdx)]; exact hb)
    have ex2 : ∀ {H2 : Hp}, But x H1 H2 → Ex H H2 := fun b2 b o hb => b2 b o (ne_of_none hb hx) (e1 b o hb)
    obtain ⟨dx1, hm1⟩ := id R1
    refine ⟨x, dx1, _, rfl, hm1, rfl, ?_⟩
    walk_at "rc"
    exact ⟨x, z, rfl, R1, lz, fun dt v H2 hv hpv hz hrun b2 => qy dt v H2 hv hpv hz hrun (ex2 b2), fun q dd H2 hrun b2 hd => qn q dd H2 hrun (ex2 b2) hd⟩
end
section
variable (T : Txt K mg)
def spLRead : Sp := fun vs H Q _ => ∃ (z : Str), vs = [.str z] ∧ z.length ≤ sizeLine ∧
  (∀ (dt : PyData) (a : Addr) H', Dp K H' (.ref a) (.tuple [.str "read", dt]) → PV dt 8 → z.cps.toList = W dt → Run z.cps.toList 0 .val 0 none → Ex H H' → Q (.ref a) H') ∧
  (∀ (q : Nat) (a : Addr) H', Dp K H' (.ref a) (.tuple [.str "bad", .int (q : Int)]) → Run z.cps.toList 0 .val 0 (some q) → Ex H H' → Q (.ref a) H')
theorem ok_read : FnOk P w K mg base CX0 25 T.a_read T.d_read ["text"] (spLRead (K := K)) := by
  refine T.f_read.ok sc_read (fun vs H Q E h => ?_) (fun cdv A outer s H vs Q E hr h => ?_)
  · obtain ⟨_, rfl, _⟩ := h; rfl
  · obtain ⟨z, rfl, lz, qy, qn⟩ := h
    refine ⟨_, (pss_one (ps_try_as (i := 1) rfl rfl sc_read.nd rfl rfl ⟨rfl, by decide, Or.inl T.g_RecordError⟩ takes0
   (fun W pn xe tk hp => (pss_one (ps_ret (pe_tup (pa_cons pe_str (pa_cons (pe_callR (ok_read_value T) (hr.mono (by decide)) T.o_read_value tk (pa_cons (pv 0) pa_nil)) pa_nil))))))
   (fun a oe cls d pn hz hf => PSs.exi (P := Caught K cls d) fun i hi => (pss_cons (ps_if (PW.pt (pw_or (pt_not (pt_val (pe_callB (call_isX hi.x T.clsB (hi.z hz) hf) (by rfl) T.nb_isinstance (by decide +kernel) (pa_cons (pv 1) (pa_cons (pe_globR (by rfl) T.g_BadRecord) pa_nil))))) (pw_or1 (pt_val (pe_callB (call_isX hi.x T.clsB (hi.z hz) hf) (by rfl) T.nb_isinstance (by decide +kernel) (pa_cons (pv 1) (pa_cons (pe_tup (pa_cons (pe_globR (by rfl) T.g_BadLine) (pa_cons (pe_globR (by rfl) T.g_PatternError) (pa_cons (pe_globR (by rfl) T.g_ProgramError) pa_nil)))) pa_nil)))))))
    (pss_one (ps_ret (pe_tup (pa_cons pe_str (pa_cons pe_int pa_nil)))))
    pss_nil)
  (pss_one (ps_ret (pe_tup (pa_cons pe_str (pa_cons (pe_xf hi.x.xf hi.x.nw (hi.z hz) hf (pv 1)) pa_nil))))))))), ?_⟩
    have sz : 1000000 ≤ sizeLine := by decide
    walk_at "rc"
    refine ⟨z, rfl, lz, fun dt v H1 hv hpv hz hrun e1 => ?_, fun qq dd H1 hrun e1 hd => ?_⟩
    · walk_at "rc"
      refine ⟨by show 2 ≤ sizeLine; omega, fun a ha => ?_⟩
      have e2 := Evl.Ex.new (o := .tup [.str (Str.ofString "read"), v]) ha
      exact qy dt a _ (.tup (Evl.st_of upd_same) (.cons (.str _) (.cons (hv.ex e2) .nil))) hpv hz hrun (e1.trans e2)
    · refine ⟨true, PySem.W.exm_ref T.e_RecordError T.h_RecordError T.t_RecordError T.s_BadRecord_RecordError, fun _ a0 _ => ?_, fun h => by cases h⟩
      refine ⟨(T.C_BadRecord, dd, T.a_init), ⟨rfl, rfl, T.x_BadRecord⟩, ?_⟩
      walk_at "rd"
      refine ⟨_, true, hd, .inl ⟨_, _, rfl, .own _, kit_ref T.x_BadRecord T.i_BadRecord T.t_BadRecord T.s_BadRecord_BadRecord⟩, ?_⟩
      walk_at "rd"
      refine ⟨by show 3 ≤ sizeLine; omega, fun tp htp => ?_⟩
      have hd2 : (upd H1 tp (.tup [.ref T.C_BadLine, .ref T.C_PatternError, .ref T.C_ProgramError])) dd = some (.xd [("what", .int (qq : Int))]) := by
        rw [upd_ne (ne_of_none hd htp)]; exact hd
      walk_at "rd"
      refine ⟨_, false, hd2, .inr ⟨tp, _, [.ref T.C_BadLine, .ref T.C_PatternError, .ref T.C_ProgramError], rfl, upd_same, .cons (.own _) (.cons (.own _) (.cons (.own _) .nil)), ?_⟩, ?_⟩
      · have X := T.x_BadRecord
        exact kitAny_cons (kit_ref X T.i_BadLine T.t_BadLine T.s_BadRecord_BadLine) (fun _ => kitAny_cons (kit_ref X T.i_PatternError T.t_PatternError T.s_BadRecord_PatternError) (fun _ => kitAny_cons (kit_ref X T.i_ProgramError T.t_ProgramError T.s_BadRecord_ProgramError) (fun _ => kitAny_nil) (fun h => by cases h)) (fun h => by cases h)) (fun h => by cases h)
      · walk_at "rd"
        refine ⟨rfl, rfl, dd, _, _, rfl, hd2, rfl, ?_⟩
        walk_at "rd"
        refine ⟨by show 2 ≤ sizeLine; omega, fun a ha => ?_⟩
        exact qn qq a _ (.tup (Evl.st_of upd_same) (.cons (.str _) (.cons (.int _) .nil))) hrun ((ex_upd e1 htp).trans (Evl.Ex.new ha))
end
section
def WS (d : PyData) : Str := ⟨(W d).toArray⟩
theorem WS_list (d : PyData) : (WS d).cps.toList = W d := by
  show (W d).toArray.toList = _
  rw [List.toList_toArray]
theorem WS_len (d : PyData) : (WS d).length = (W d).length := by
  show (WS d).cps.toList.length = _
  rw [WS_list]
theorem str_of {a b : Str} (h : a.cps.toList = b.cps.toList) : a = b := by
  obtain ⟨a⟩ := a
  obtain ⟨b⟩ := b
  have h : a.toList = b.toList := h
  rw [Array.toList_inj.mp h]
theorem join_WL : ∀ ds : List PyData, TL.joinL [32] (ds.map W) = WL ds
  | [] => rfl
  | [x] => by
    rw [WL_cons]
    show W x = W x ++ []
    rw [List.append_nil]
  | x :: y :: r => by
    rw [WL_cons]
    show W x ++ ([32] ++ TL.joinL [32] ((y :: r).map W)) = _
    rw [join_WL (y :: r), WL_cons]
    rfl
theorem join_WS (ds : List PyData) : (Txt.join (Str.ofString " ") (ds.map WS)).cps.toList = WL ds := by
  have e := congrArg TL.tl (TL.join_eq (Str.ofString " ") (ds.map WS))
  rw [TL.tl_join] at e
  have e2 : TL.tl (Str.ofString " ") = [32] := by decide +kernel
  have e3 : (ds.map WS).map TL.tl = ds.map W := by
    rw [List.map_map]
    exact List.map_congr_left fun d _ => WS_list d
  rw [e2, e3, join_WL] at e
  exact e
theorem sum_WL : ∀ ds : List PyData, ((ds.map WS).map (·.length)).sum + ds.length ≤ (WL ds).length + 1
  | [] => by simp
  | x :: xs => by
    have key : ∀ xs : List PyData, ((xs.map WS).map (·.length)).sum + xs.length ≤ (WR xs).length := by
      intro xs
      induction xs with
      | nil => simp
      | cons x xs ih =>
        rw [List.map_cons, List.map_cons, List.sum_cons, WS_len]
        show _ ≤ (32 :: (W x ++ WR xs)).length
        simp only [List.length_cons, List.length_append]
        omega
    have := key xs
    rw [WL_cons, List.map_cons, List.map_cons, List.sum_cons, WS_len, List.length_append, List.length_cons]
    omega
theorem W_mem {x : PyData} : ∀ {ds : List PyData}, x ∈ ds → (W x).length ≤ (WL ds).length
  | y :: ys, h => by
    have key : ∀ {ds : List PyData}, x ∈ ds → (W x).length ≤ (WR ds).length := by
      intro ds
      induction ds with
      | nil => exact fun h => nomatch h
      | cons y ys ih =>
        intro h
        show _ ≤ (32 :: (W y ++ WR ys)).length
        rw [List.length_cons, List.length_append]
        rcases List.mem_cons.mp h with rfl | h
        · omega
        · have := ih h
          omega
    rw [WL_cons, List.length_append]
    rcases List.mem_cons.mp h with rfl | h
    · omega
    · have := key h
      omega
theorem W_tupL (ds : List PyData) : W (.tuple ds) = 40 :: (WL ds ++ [41]) := rfl
theorem rd_isT {K : PySem.W.Frag} {H : Hp} {Q : VK} {v : V} {t n : String} {b : Bool} (h : TyX K H v (.type t)) (k : kitB t n = some b) (q : Q (.bl b) H) : rIsi K [v, .ty n] H Q := ⟨_, _, _, _, b, rfl, .ty _, h, kit_ty k, q⟩
theorem tyx_tup {K : PySem.W.Frag} {H : Hp} {a : Addr} {xs : List V} (h : SqT K H a xs) : TyX K H (.ref a) (.type "tuple") := by
  rcases h with (h | ⟨o, h⟩) | ⟨o, its, n, h1, h2, _⟩
  · exact .base (.tup h)
  · exact .fTuple h
  · exact .kTuple h1 h2
def spW (d : Nat) : Sp := fun vs H Q _ => ∃ (v : V) (dt : PyData), vs = [v] ∧ Dp K H v dt ∧ PV dt d ∧ (W dt).length ≤ 90000 ∧ ∀ H', Ex H H' → Q (.str (WS dt)) H'
def wrX : Nat → Sp
  | 0 => fun vs _ _ _ => vs.length = 1 ∧ False
  | d + 1 => spW (K := K) d
theorem lc_x {σ : L2.St} {H : Hp} {Q : VK} {te : TE} {J : It} {j n : Nat} {G : Hp → Prop} {Y : Nat → Hp → V → Hp → Prop} (wk : Walk J n G Y) (hG : ∀ Hc, Ex H Hc → G Hc) (hn : n < 100000) (hw : ∀ v : V, wipe ((wipe σ [j]).set j (some v)) [j] = wipe σ [j]) (f : Nat → V)
    (he : ∀ i x Hc H', i < n → Ex H Hc → Y i Hc x H' → H' = Hc ∧ ∀ N : VK, (∀ H2, Ex Hc H2 → N (f i) H2) → te ((wipe σ [j]).set j (some x)) Hc N)
    (h : ∀ L Hc, Ex H Hc → H L = none → Hc L = some (.lst ((List.range n).map f)) → Q (.ref L) Hc) : lcB (gName j) tYes te [j] σ Q J H := by
  intro L hL
  have hz : 100000 ≤ sizeLine := by decide
  refine lc_it wk (fun i Hc => i ≤ n ∧ Ex H Hc ∧ Hc L = some (.lst ((List.range i).map f))) ⟨Nat.zero_le _, Evl.Ex.new hL, upd_same⟩ (fun i Hc _ z => hG Hc z.2.1) (fun i x Hc H' hi z y => ?_) fun Hc z => h L Hc z.2.1 hL z.2.2
  obtain ⟨_, ec, gc⟩ := z
  obtain ⟨rfl, hh⟩ := he i x Hc H' hi ec y
  refine ⟨hw _, rd_yes (rd_iteT ?_)⟩
  refine hh _ fun H2 e2 => ⟨_, e2 _ _ gc, ?_, hi, Evl.Ex.mut (ec.trans e2) hL, ?_⟩
  · rw [List.length_map, List.length_range]
    omega
  · rw [upd_same, List.range_succ, List.map_append]
    rfl
theorem str_len' (x y : Str) : (x ++ y).length = x.length + y.length := by
  rw [TL.len_tl, TL.len_tl, TL.len_tl, TL.tl_append, List.length_append]
variable (T : Txt K mg)
theorem ok_write_value_step (d : Nat) (hI : FnOk P w K mg base CX0 (d + 1) T.a_write_value T.d_write_value ["value"] (wrX (K := K) d)) : FnOk P w K mg base CX0 (d + 2) T.a_write_value T.d_write_value ["value"] (spW (K := K) d) := by
  refine T.f_write_value.ok sc_write_value (fun vs H Q E h => ?_) (fun cdv A outer s H vs Q E hr h => ?_)
  · obtain ⟨_, _, rfl, _⟩ := h; rfl
  · obtain ⟨v, dt, rfl, hv, hpv, hl, q⟩ := h
    have ok_write_value : ∀ _ : Txt K mg, FnOk P w K mg base CX0 (d + 1) T.a_write_value T.d_write_value ["value"] (wrX (K := K) d) := fun _ => hI
    have sz : 2000000 ≤ sizeLine := by decide
    refine ⟨_, (pss_cons (ps_if (pt_val (pe_callB (kIsi K) (by rfl) T.nb_isinstance (by decide +kernel) (pa_cons (pv 0) (pa_cons (pe_blT (n := "tuple") (by rfl) T.nb_tuple (by decide +kernel)) pa_nil))))
    (pss_one (ps_ret (pe_op (kAdd K) (pe_op (kAdd K) pe_str (kBm K rfl (pe_bm PySem.F.plainAttrs_str PySem.F.slot_str_join PySem.F.type_str_join (kJoin K) pe_str (pa_cons (pe_lc (own := [("item", 1)]) (g := gName 1) (tt := tYes) (by rfl) sc_write_value.nd (kAny K rfl (pv 0)) (blkOk_by (own := [("item", 1)]) (N := ["value", "item"]) (sc := defScope s_write_value) (by decide +kernel)) (fun _ _ _ _ _ => (pg_name (i := 1) sc_write_value.nd rfl (by first | exact Or.inl rfl | exact Or.inr rfl))) (fun _ _ _ _ _ => pts_nil) (fun _ _ _ _ _ => (pe_callE (ok_write_value T) (hr.mono (by omega)) T.o_write_value (pa_cons (pv 1) pa_nil)))) pa_nil)))) pe_str)))
    pss_nil)
  (pss_cons (ps_if (pt_val (pe_callB (kIsi K) (by rfl) T.nb_isinstance (by decide +kernel) (pa_cons (pv 0) (pa_cons (pe_blT (n := "str") (by rfl) T.nb_str (by decide +kernel)) pa_nil))))
    (pss_one (ps_ret (pe_op (kAdd K) (pe_op (kAdd K) (pe_globS (by rfl) T.c_QUOTE) (pv 0)) (pe_globS (by rfl) T.c_QUOTE))))
    pss_nil)
  (pss_cons (ps_if (pt_val (pe_callB (kIsi K) (by rfl) T.nb_isinstance (by decide +kernel) (pa_cons (pv 0) (pa_cons (pe_blT (n := "bool") (by rfl) T.nb_bool (by decide +kernel)) pa_nil))))
    (pss_one (ps_ret (pe_ifExp (pt_val (pv 0)) pe_str pe_str)))
    pss_nil)
  (pss_one (ps_ret (pe_callTy call_str_int (by rfl) T.nb_str (by decide +kernel) (pa_cons (pv 0) pa_nil))))))), ?_⟩
    cases dt with
    | bool b =>
      cases Dp.bl_iff hv
      walk_at "rs"
      walk_at "rc"
      refine rd_isT (t := "bool") (b := false) (.base (.bl _)) (by decide +kernel) ?_
      walk_at "rc"
      walk_at "rs"
      walk_at "rc"
      refine rd_isT (t := "bool") (b := false) (.base (.bl _)) (by decide +kernel) ?_
      walk_at "rc"
      walk_at "rs"
      walk_at "rc"
      refine rd_isT (t := "bool") (b := true) (.base (.bl _)) (by decide +kernel) ?_
      walk_at "rc"
      refine rd_ife ?_
      walk_at "rc"
      have e : ∀ b : Bool, WS (.bool b) = if b = true then Str.ofString "T" else Str.ofString "F" := by decide +kernel
      cases b
      · exact q H (Evl.Ex.refl H)
      · exact q H (Evl.Ex.refl H)
    | int i =>
      cases Dp.int_iff hv
      walk_at "rs"
      walk_at "rc"
      refine rd_isT (t := "int") (b := false) (.base (.int _)) (by decide +kernel) ?_
      walk_at "rc"
      walk_at "rs"
      walk_at "rc"
      refine rd_isT (t := "int") (b := false) (.base (.int _)) (by decide +kernel) ?_
      walk_at "rc"
      walk_at "rs"
      walk_at "rc"
      refine rd_isT (t := "int") (b := false) (.base (.int _)) (by decide +kernel) ?_
      walk_at "rc"
      refine ⟨i, rfl, ?_, q H (Evl.Ex.refl H)⟩
      obtain ⟨k, rfl, hk⟩ := PV_int hpv
      have : Nat.log2 k < 1920 := by
        rcases Nat.eq_zero_or_pos k with rfl | h0
        · decide
        · exact (Nat.log2_lt (by omega)).mpr (Nat.lt_of_lt_of_le hk (by decide +kernel))
      exact this
    | str s =>
      cases Dp.str_iff hv
      have hls : s.length + 2 ≤ 90000 := by
        have hl : (39 :: (s.cps.toList ++ [39])).length ≤ 90000 := hl
        simp at hl
        have : s.cps.toList.length = s.length := rfl
        simp at this
        omega
      walk_at "rs"
      walk_at "rc"
      refine rd_isT (t := "str") (b := false) (.base (.str _)) (by decide +kernel) ?_
      walk_at "rc"
      walk_at "rs"
      walk_at "rc"
      refine rd_isT (t := "str") (b := true) (.base (.str _)) (by decide +kernel) ?_
      walk_at "rc"
      walk_at "rc"
      refine rd_addS (by rw [show (Str.ofString "'").length = 1 by decide +kernel]; omega) ?_
      refine rd_addS (by rw [str_len', show (Str.ofString "'").length = 1 by decide +kernel]; omega) ?_
      have e : Str.ofString "'" ++ s ++ Str.ofString "'" = WS (.str s) := str_of (by
        have e1 := TL.tl_append (Str.ofString "'" ++ s) (Str.ofString "'")
        have e2 := TL.tl_append (Str.ofString "'") s
        rw [e2] at e1
        refine Eq.trans e1 ?_
        rw [WS_list, show TL.tl (Str.ofString "'") = [39] by decide +kernel]
        rfl)
      rw [e]
      exact q H (Evl.Ex.refl H)
    | tuple ds =>
      cases d with
      | zero => exact hpv.elim
      | succ d =>
      have hpd : PVL ds d := hpv
      have hlw : (WL ds).length + 2 ≤ 90000 := by
        rw [W_tupL] at hl
        simp at hl
        omega
      obtain ⟨a, vs, rfl, hs, hds⟩ := Dp.tupv hv
      walk_at "rs"
      walk_at "rc"
      refine rd_isT (t := "tuple") (b := true) (tyx_tup hs) (by decide +kernel) ?_
      walk_at "rc"
      refine ⟨rfl, ?_⟩
      walk_at "rc"
      refine rd_anyT' ?_
      walk_at "rc"
      have hsum := sum_WL ds
      refine rd_itDT (Evl.Ex.refl H) hv fun J wJ => ?_
      refine lc_x (j := 1) wJ (fun _ e => e) (by omega) (fun v => rfl) (fun i => .str (WS (ds.getD i .none))) (fun i x Hc H' hi ec y => ?_) fun L H1 e1 hL hl1 => ?_
      · obtain ⟨rfl, dd, hdd, hx⟩ := y
        refine ⟨rfl, fun N hN => ?_⟩
        walk_at "rc"
        have hm := List.mem_of_getElem? hdd
        have hwl := W_mem hm
        refine ⟨x, dd, rfl, hx.ex ec, pv_L hpd dd hm, by omega, fun H2 e2 => ?_⟩
        have := hN H2 e2
        rw [List.getD_eq_getElem?_getD, hdd] at this
        exact this
      · have hl2 : H1 L = some (.lst ((ds.map WS).map V.str)) := by
          rw [hl1]
          refine congrArg (fun l => some (HO.lst l)) ?_
          refine List.ext_getElem (by simp) fun i h1 h2 => ?_
          rw [List.getElem_map, List.getElem_range, List.getElem_map, List.getElem_map, List.getD_eq_getElem?_getD, List.getElem?_eq_getElem (by simpa using h2)]
          rfl
        walk_at "rc"
        refine ⟨Str.ofString " ", L, ds.map WS, rfl, rfl, .inl (SqL.of hl2), ?_, ?_⟩
        · rw [show (Str.ofString " ").length = 1 by decide +kernel, List.length_map]
          omega
        have jl : (Txt.join (Str.ofString " ") (ds.map WS)).length = (WL ds).length := by
          show (Txt.join (Str.ofString " ") (ds.map WS)).cps.toList.length = _
          rw [join_WS]
        refine rd_addS (by rw [show (Str.ofString "(").length = 1 by decide +kernel]; omega) ?_
        walk_at "rc"
        refine rd_addS (by rw [str_len', show (Str.ofString "(").length = 1 by decide +kernel, show (Str.ofString ")").length = 1 by decide +kernel]; omega) ?_
        have e : Str.ofString "(" ++ Txt.join (Str.ofString " ") (ds.map WS) ++ Str.ofString ")" = WS (.tuple ds) := str_of (by
          have e1 := TL.tl_append (Str.ofString "(" ++ Txt.join (Str.ofString " ") (ds.map WS)) (Str.ofString ")")
          have e2 := TL.tl_append (Str.ofString "(") (Txt.join (Str.ofString " ") (ds.map WS))
          rw [e2] at e1
          refine Eq.trans e1 ?_
          rw [WS_list, show TL.tl (Str.ofString "(") = [40] by decide +kernel, show TL.tl (Str.ofString ")") = [41] by decide +kernel, show TL.tl (Txt.join (Str.ofString " ") (ds.map WS)) = WL ds from join_WS ds]
          rfl)
        rw [e]
        exact q H1 e1
    | none => cases d <;> exact hpv.elim
    | list _ => cases d <;> exact hpv.elim
    | dict _ => cases d <;> exact hpv.elim
theorem ok_write_value_all : ∀ d : Nat, FnOk P w K mg base CX0 (d + 2) T.a_write_value T.d_write_value ["value"] (spW (K := K) d)
  | 0 => ok_write_value_step T 0 (by
    refine T.f_write_value.ok sc_write_value (fun vs H Q E h => ?_) (fun cdv A outer s H vs Q E hr h => ?_)
    · exact h.2.elim
    · exact h.2.elim)
  | d + 1 => ok_write_value_step T (d + 1) (ok_write_value_all d)
theorem ok_write_value : FnOk P w K mg base CX0 10 T.a_write_value T.d_write_value ["value"] (spW (K := K) 8) := ok_write_value_all T 8
theorem ok_written_step (d : Nat) (hI : FnOk P w K mg base CX0 (d + 1) T.a_written T.d_written ["value"] (wrX (K := K) d)) : FnOk P w K mg base CX0 (d + 2) T.a_written T.d_written ["value"] (spW (K := K) d) := by
  refine T.f_written.ok sc_written (fun vs H Q E h => ?_) (fun cdv A outer s H vs Q E hr h => ?_)
  · obtain ⟨_, _, rfl, _⟩ := h; rfl
  · obtain ⟨v, dt, rfl, hv, hpv, hl, q⟩ := h
    have ok_written : ∀ _ : Txt K mg, FnOk P w K mg base CX0 (d + 1) T.a_written T.d_written ["value"] (wrX (K := K) d) := fun _ => hI
    have sz : 2000000 ≤ sizeLine := by decide
    refine ⟨_, (pss_cons (ps_if (pt_val (pe_callB (kIsi K) (by rfl) T.nb_isinstance (by decide +kernel) (pa_cons (pv 0) (pa_cons (pe_blT (n := "tuple") (by rfl) T.nb_tuple (by decide +kernel)) pa_nil))))
    (pss_one (ps_ret (pe_op (kAdd K) (pe_op (kAdd K) pe_str (kBm K rfl (pe_bm PySem.F.plainAttrs_str PySem.F.slot_str_join PySem.F.type_str_join (kJoin K) pe_str (pa_cons (pe_lc (own := [("item", 1)]) (g := gName 1) (tt := tYes) (by rfl) sc_written.nd (kAny K rfl (pv 0)) (blkOk_by (own := [("item", 1)]) (N := ["value", "item"]) (sc := defScope s_written) (by decide +kernel)) (fun _ _ _ _ _ => (pg_name (i := 1) sc_written.nd rfl (by first | exact Or.inl rfl | exact Or.inr rfl))) (fun _ _ _ _ _ => pts_nil) (fun _ _ _ _ _ => (pe_callE (ok_written T) (hr.mono (by omega)) T.o_written (pa_cons (pv 1) pa_nil)))) pa_nil)))) pe_str)))
    pss_nil)
  (pss_cons (ps_if (pt_val (pe_callB (kIsi K) (by rfl) T.nb_isinstance (by decide +kernel) (pa_cons (pv 0) (pa_cons (pe_blT (n := "bool") (by rfl) T.nb_bool (by decide +kernel)) pa_nil))))
    (pss_one (ps_ret (pe_ifExp (pt_val (pv 0)) pe_str pe_str)))
    pss_nil)
  (pss_cons (ps_if (pt_val (pe_callB (kIsi K) (by rfl) T.nb_isinstance (by decide +kernel) (pa_cons (pv 0) (pa_cons (pe_blT (n := "str") (by rfl) T.nb_str (by decide +kernel)) pa_nil))))
    (pss_one (ps_ret (pe_op (kAdd K) (pe_op (kAdd K) pe_str (pv 0)) pe_str)))
    pss_nil)
  (pss_one (ps_ret (pe_callTy call_str_int (by rfl) T.nb_str (by decide +kernel) (pa_cons (pv 0) pa_nil))))))), ?_⟩
    cases dt with
    | bool b =>
      cases Dp.bl_iff hv
      walk_at "rs"
      walk_at "rc"
      refine rd_isT (t := "bool") (b := false) (.base (.bl _)) (by decide +kernel) ?_
      walk_at "rc"
      walk_at "rs"
      walk_at "rc"
      refine rd_isT (t := "bool") (b := true) (.base (.bl _)) (by decide +kernel) ?_
      walk_at "rc"
      refine rd_ife ?_
      walk_at "rc"
      have e : ∀ b : Bool, WS (.bool b) = if b = true then Str.ofString "T" else Str.ofString "F" := by decide +kernel
      cases b
      · exact q H (Evl.Ex.refl H)
      · exact q H (Evl.Ex.refl H)
    | int i =>
      cases Dp.int_iff hv
      walk_at "rs"
      walk_at "rc"
      refine rd_isT (t := "int") (b := false) (.base (.int _)) (by decide +kernel) ?_
      walk_at "rc"
      walk_at "rs"
      walk_at "rc"
      refine rd_isT (t := "int") (b := false) (.base (.int _)) (by decide +kernel) ?_
      walk_at "rc"
      walk_at "rs"
      walk_at "rc"
      refine rd_isT (t := "int") (b := false) (.base (.int _)) (by decide +kernel) ?_
      walk_at "rc"
      refine ⟨i, rfl, ?_, q H (Evl.Ex.refl H)⟩
      obtain ⟨k, rfl, hk⟩ := PV_int hpv
      have : Nat.log2 k < 1920 := by
        rcases Nat.eq_zero_or_pos k with rfl | h0
        · decide
        · exact (Nat.log2_lt (by omega)).mpr (Nat.lt_of_lt_of_le hk (by decide +kernel))
      exact this
    | str s =>
      cases Dp.str_iff hv
      have hls : s.length + 2 ≤ 90000 := by
        have hl : (39 :: (s.cps.toList ++ [39])).length ≤ 90000 := hl
        simp at hl
        have : s.cps.toList.length = s.length := rfl
        simp at this
        omega
      walk_at "rs"
      walk_at "rc"
      refine rd_isT (t := "str") (b := false) (.base (.str _)) (by decide +kernel) ?_
      walk_at "rc"
      walk_at "rs"
      walk_at "rc"
      refine rd_isT (t := "str") (b := false) (.base (.str _)) (by decide +kernel) ?_
      walk_at "rc"
      walk_at "rs"
      walk_at "rc"
      refine rd_isT (t := "str") (b := true) (.base (.str _)) (by decide +kernel) ?_
      walk_at "rc"
      walk_at "rc"
      refine rd_addS (by rw [show (Str.ofString "'").length = 1 by decide +kernel]; omega) ?_
      refine rd_addS (by rw [str_len', show (Str.ofString "'").length = 1 by decide +kernel]; omega) ?_
      have e : Str.ofString "'" ++ s ++ Str.ofString "'" = WS (.str s) := str_of (by
        have e1 := TL.tl_append (Str.ofString "'" ++ s) (Str.ofString "'")
        have e2 := TL.tl_append (Str.ofString "'") s
        rw [e2] at e1
        refine Eq.trans e1 ?_
        rw [WS_list, show TL.tl (Str.ofString "'") = [39] by decide +kernel]
        rfl)
      rw [e]
      exact q H (Evl.Ex.refl H)
    | tuple ds =>
      cases d with
      | zero => exact hpv.elim
      | succ d =>
      have hpd : PVL ds d := hpv
      have hlw : (WL ds).length + 2 ≤ 90000 := by
        rw [W_tupL] at hl
        simp at hl
        omega
      obtain ⟨a, vs, rfl, hs, hds⟩ := Dp.tupv hv
      walk_at "rs"
      walk_at "rc"
      refine rd_isT (t := "tuple") (b := true) (tyx_tup hs) (by decide +kernel) ?_
      walk_at "rc"
      refine ⟨rfl, ?_⟩
      walk_at "rc"
      refine rd_anyT' ?_
      walk_at "rc"
      have hsum := sum_WL ds
      refine rd_itDT (Evl.Ex.refl H) hv fun J wJ => ?_
      refine lc_x (j := 1) wJ (fun _ e => e) (by omega) (fun v => rfl) (fun i => .str (WS (ds.getD i .none))) (fun i x Hc H' hi ec y => ?_) fun L H1 e1 hL hl1 => ?_
      · obtain ⟨rfl, dd, hdd, hx⟩ := y
        refine ⟨rfl, fun N hN => ?_⟩
        walk_at "rc"
        have hm := List.mem_of_getElem? hdd
        have hwl := W_mem hm
        refine ⟨x, dd, rfl, hx.ex ec, pv_L hpd dd hm, by omega, fun H2 e2 => ?_⟩
        have := hN H2 e2
        rw [List.getD_eq_getElem?_getD, hdd] at this
        exact this
      · have hl2 : H1 L = some (.lst ((ds.map WS).map V.str)) := by
          rw [hl1]
          refine congrArg (fun l => some (HO.lst l)) ?_
          refine List.ext_getElem (by simp) fun i h1 h2 => ?_
          rw [List.getElem_map, List.getElem_range, List.getElem_map, List.getElem_map, List.getD_eq_getElem?_getD, List.getElem?_eq_getElem (by simpa using h2)]
          rfl
        walk_at "rc"
        refine ⟨Str.ofString " ", L, ds.map WS, rfl, rfl, .inl (SqL.of hl2), ?_, ?_⟩
        · rw [show (Str.ofString " ").length = 1 by decide +kernel, List.length_map]
          omega
        have jl : (Txt.join (Str.ofString " ") (ds.map WS)).length = (WL ds).length := by
          show (Txt.join (Str.ofString " ") (ds.map WS)).cps.toList.length = _
          rw [join_WS]
        refine rd_addS (by rw [show (Str.ofString "(").length = 1 by decide +kernel]; omega) ?_
        walk_at "rc"
        refine rd_addS (by rw [str_len', show (Str.ofString "(").length = 1 by decide +kernel, show (Str.ofString ")").length = 1 by decide +kernel]; omega) ?_
        have e : Str.ofString "(" ++ Txt.join (Str.ofString " ") (ds.map WS) ++ Str.ofString ")" = WS (.tuple ds) := str_of (by
          have e1 := TL.tl_append (Str.ofString "(" ++ Txt.join (Str.ofString " ") (ds.map WS)) (Str.ofString ")")
          have e2 := TL.tl_append (Str.ofString "(") (Txt.join (Str.ofString " ") (ds.map WS))
          rw [e2] at e1
          refine Eq.trans e1 ?_
          rw [WS_list, show TL.tl (Str.ofString "(") = [40] by decide +kernel, show TL.tl (Str.ofString ")") = [41] by decide +kernel, show TL.tl (Txt.join (Str.ofString " ") (ds.map WS)) = WL ds from join_WS ds]
          rfl)
        rw [e]
        exact q H1 e1
    | none => cases d <;> exact hpv.elim
    | list _ => cases d <;> exact hpv.elim
    | dict _ => cases d <;> exact hpv.elim
theorem ok_written_all : ∀ d : Nat, FnOk P w K mg base CX0 (d + 2) T.a_written T.d_written ["value"] (spW (K := K) d)
  | 0 => ok_written_step T 0 (by
    refine T.f_written.ok sc_written (fun vs H Q E h => ?_) (fun cdv A outer s H vs Q E hr h => ?_)
    · exact h.2.elim
    · exact h.2.elim)
  | d + 1 => ok_written_step T (d + 1) (ok_written_all d)
theorem ok_written : FnOk P w K mg base CX0 10 T.a_written T.d_written ["value"] (spW (K := K) 8) := ok_written_all T 8
end
section
def BW : Nat → Nat
  | 0 => 11
  | d + 1 => 4 * (BW d + 1) + 2
theorem BW_ge (d : Nat) : 11 ≤ BW d := by
  induction d with
  | zero => exact Nat.le_refl _
  | succ d ih => show 11 ≤ 4 * (BW d + 1) + 2; omega
theorem WL_le {b : Nat} : ∀ {ds : List PyData}, (∀ d ∈ ds, (W d).length ≤ b) → (WL ds).length ≤ ds.length * (b + 1)
  | [], _ => Nat.zero_le _
  | x :: xs, h => by
    have key : ∀ {ds : List PyData}, (∀ d ∈ ds, (W d).length ≤ b) → (WR ds).length ≤ ds.length * (b + 1) := by
      intro ds
      induction ds with
      | nil => exact fun _ => Nat.zero_le _
      | cons y ys ih =>
        intro h
        have := ih fun d hd => h d (List.mem_cons_of_mem _ hd)
        have := h y List.mem_cons_self
        show (32 :: (W y ++ WR ys)).length ≤ _
        rw [List.length_cons, List.length_append, List.length_cons, Nat.succ_mul]
        omega
    have h1 := key (ds := xs) fun d hd => h d (List.mem_cons_of_mem _ hd)
    have h2 := h x List.mem_cons_self
    rw [WL_cons, List.length_append, List.length_cons, Nat.succ_mul]
    omega
def Kd (K : PySem.W.Frag) (S : List Addr) (H : Hp) (v : V) (dt : PyData) (d : Nat) : Prop := Dp K (hid S H) v dt ∧ PV dt d ∧ (W dt).length ≤ BW d
def spLV (d : Nat) : Sp := fun vs H Q _ => ∃ (p : Addr) (S : List Addr), vs = [.ref p, .int (d : Int)] ∧ StAt H p ∧ p ∈ S ∧ (∀ b ∈ S, ∃ o, H b = some o) ∧ d ≤ 5 ∧ ∀ (v : V) (dt : PyData) H', Kd K S H' v dt d → Dr p H H' → Q v H'
def lvX : Nat → Sp
  | 0 => fun vs _ _ _ => vs.length = 2 ∧ False
  | d + 1 => spLV (K := K) d
theorem lv_str {p : Addr} {S : List Addr} {d : Nat} {r : V} {D : Ends} {H1 : Hp} (S1 : StAt H1 p) (q : ∀ (s : Str) H', (∀ c ∈ s.cps.toList, c ∈ Lt) → s.length ≤ 4 → Dr p H1 H' → D.rt (.str s) H') :
    tSeq (tAsg (tC (V.str (Str.ofString "abcdefghijklmnopqrstuvwxyzABCDEFGHIJKLMNOPQRSTUVWXYZ0123456789<>=:_@#"))) (gName 3)) (tRet (tBM K "str" (mJoin K) (tC (V.str (Str.ofString ""))) (tCons (tLc (iRng1 (tCons (tCalled spNext (tCons (tVar 0) (tCons (tC (V.int 5)) tNil))) tNil)) (gName 4) tYes (tOp (rIx K) (tVar 3) (tCalled spNext (tCons (tVar 0) (tCons (tC (V.int 69)) tNil)))) [4]) tNil))) D [some (.ref p), some (.int (d : Int)), some r, none, none] H1 := by
  walk_at "rc"
  refine ⟨rfl, ?_⟩
  walk_at "rc"
  refine ⟨p, 5, rfl, by decide, S1, fun nn H2 r0 r1 S2 o2 i2 => ?_⟩
  have d1 : Dr p H1 H2 := ⟨S2, o2, i2.2⟩
  walk_at "rc"
  refine ⟨nn, rfl, by omega, by omega, ?_⟩
  refine lc_R (K := K) (S := [p]) (P := fun i x => x = V.int (i : Nat)) (tr_dr S2 List.mem_cons_self) (st1 S2.some.choose_spec) walk_range0 rng_Y (by omega) (fun _ _ => True.intro) (fun i d => ∃ c : Nat, d = .str ⟨#[c]⟩ ∧ c ∈ Lt) (hg_name fun v => rfl) (fun L i σ2 Hc hi p2 hL nL dc hs up N hN => ?_) fun L us Hc ds dc hL nL hus hds hlen hR => ?_
  · obtain ⟨v, rfl, rfl⟩ := p2
    walk_at "rc"
    refine ⟨p, 69, rfl, by decide, dc.st, fun r H3 q0 q1 S3' o3' i3' => ?_⟩
    obtain ⟨c, hc, cm⟩ := at_str (z := Str.ofString "abcdefghijklmnopqrstuvwxyzABCDEFGHIJKLMNOPQRSTUVWXYZ0123456789<>=:_@#") q0 (by rw [show (Str.ofString "abcdefghijklmnopqrstuvwxyzABCDEFGHIJKLMNOPQRSTUVWXYZ0123456789<>=:_@#").length = 69 by decide +kernel]; exact q1)
    refine rd_ixS (by rw [show (Str.ofString "abcdefghijklmnopqrstuvwxyzABCDEFGHIJKLMNOPQRSTUVWXYZ0123456789<>=:_@#").length = 69 by decide +kernel]; decide) hc ?_
    exact hN _ _ _ ⟨S3', o3', i3'.2⟩ (.str _) ⟨c, rfl, cm⟩
  · obtain ⟨cs, rfl, hcs⟩ := map_ofD (f := fun c : Nat => PyData.str ⟨#[c]⟩) ds hR
    have es : cs.map (fun c : Nat => PyData.str ⟨#[c]⟩) = (cs.map fun c => (⟨#[c]⟩ : Str)).map PyData.str := by rw [List.map_map]; rfl
    rw [List.length_map] at hlen
    rw [es] at hds
    have eu := dp_strs hds
    subst eu
    walk_at "rc"
    refine ⟨"", L, _, rfl, rfl, .inl (SqL.of hus), ?_, ?_⟩
    · rw [sum_signs, List.length_map]
      have e0 : (Str.ofString "").length = 0 := by decide +kernel
      rw [e0]
      omega
    have et := join_signs cs
    have el : (Txt.join "" (cs.map fun c => (⟨#[c]⟩ : Str))).length = cs.length := by
      show (Txt.join "" (cs.map fun c => (⟨#[c]⟩ : Str))).cps.toList.length = cs.length
      rw [et]
    exact q _ Hc (fun c hc => hcs c (by rw [← et]; exact hc)) (by rw [el]; omega) (d1.trans dc)
variable (T : Txt K mg)
theorem lv_step (d : Nat) (hI : FnOk P w K mg base CX0 (d + 1) T.a_value T.d_value ["state", "deep"] (lvX (K := K) d)) : FnOk P w K mg base CX0 (d + 2) T.a_value T.d_value ["state", "deep"] (spLV (K := K) d) := by
  refine T.f_value.ok sc_value (fun vs H Q E h => ?_) (fun cdv A outer s H vs Q E hr h => ?_)
  · obtain ⟨_, _, rfl, _⟩ := h; rfl
  · obtain ⟨p, S, rfl, hS, hp, hs, d5, q⟩ := h
    have ok_value : ∀ _ : Txt K mg, FnOk P w K mg base CX0 (d + 1) T.a_value T.d_value ["state", "deep"] (lvX (K := K) d) := fun _ => hI
    have sz : 1000000 ≤ sizeLine := by decide
    have bw := BW_ge d
    have leaf : ∀ {v : V} {dt : PyData} {H' : Hp}, (∀ Hx, Dp K Hx v dt) → PV dt d → (W dt).length ≤ 11 → Kd K S H' v dt d := fun h1 h2 h3 => ⟨h1 _, h2, by omega⟩
    refine ⟨_, (pss_cons (ps_set (i := 2) sc_value.nd rfl (by first | exact Or.inl rfl | exact Or.inr rfl) (pe_callE (ok_next T) (hr.mono (by omega)) T.o_next (pa_cons (pv 0) (pa_cons pe_int pa_nil))))
  (pss_cons (ps_if (pt_cmpR (kEq K rfl hr.units) (pv 2) pe_int (by first | rfl | exact nomark _))
    (pss_one (ps_ret (pe_cmpR (kEq K rfl hr.units) (pe_callE (ok_next T) (hr.mono (by omega)) T.o_next (pa_cons (pv 0) (pa_cons pe_int pa_nil))) pe_int (by first | rfl | exact nomark _))))
    pss_nil)
  (pss_cons (ps_if (pt_cmpR (kEq K rfl hr.units) (pv 2) pe_int (by first | rfl | exact nomark _))
    (pss_one (ps_ret (pe_ix (kIx K) (pe_lst (pa_cons pe_int (pa_cons pe_int (pa_cons pe_int (pa_cons pe_int (pa_cons (pe_op (kAdd K) (pe_op op_mulPP (pe_callE (ok_next T) (hr.mono (by omega)) T.o_next (pa_cons (pv 0) (pa_cons pe_int pa_nil))) pe_int) (pe_callE (ok_next T) (hr.mono (by omega)) T.o_next (pa_cons (pv 0) (pa_cons pe_int pa_nil)))) pa_nil)))))) (pe_callE (ok_next T) (hr.mono (by omega)) T.o_next (pa_cons (pv 0) (pa_cons pe_int pa_nil))) (fun _ _ => rfl))))
    pss_nil)
  (pss_cons (ps_if (PW.pt (pw_or (pt_cmpR (kEq K rfl hr.units) (pv 2) pe_int (by first | rfl | exact nomark _)) (pw_or1 (pt_cmpR (kEq K rfl hr.units) (pv 1) pe_int (by first | rfl | exact nomark _)))))
    (pss_cons (ps_set (i := 3) sc_value.nd rfl (by first | exact Or.inl rfl | exact Or.inr rfl) pe_str)
  (pss_one (ps_ret (kBm K rfl (pe_bm PySem.F.plainAttrs_str PySem.F.slot_str_join PySem.F.type_str_join (kJoin K) pe_str (pa_cons (pe_lc (own := [("k", 4)]) (g := gName 4) (tt := tYes) (by rfl) sc_value.nd (pi_range1 (by rfl) T.nb_range (pa_cons (pe_callE (ok_next T) (hr.mono (by omega)) T.o_next (pa_cons (pv 0) (pa_cons pe_int pa_nil))) pa_nil)) (blkOk_by (own := [("k", 4)]) (N := ["state", "deep", "kind", "pool", "k"]) (sc := defScope s_value) (by decide +kernel)) (fun _ _ _ _ _ => (pg_name (i := 4) sc_value.nd rfl (by first | exact Or.inl rfl | exact Or.inr rfl))) (fun _ _ _ _ _ => pts_nil) (fun _ _ _ _ _ => (pe_ix (kIx K) (pv 3) (pe_callE (ok_next T) (hr.mono (by omega)) T.o_next (pa_cons (pv 0) (pa_cons pe_int pa_nil))) (fun _ _ => rfl)))) pa_nil))))))
    pss_nil)
  (pss_one (ps_ret (pe_callTy (kTupOf K) (by rfl) T.nb_tuple (by decide +kernel) (pa_cons (pe_lc (own := [("k", 4)]) (g := gName 4) (tt := tYes) (by rfl) sc_value.nd (pi_range1 (by rfl) T.nb_range (pa_cons (pe_callE (ok_next T) (hr.mono (by omega)) T.o_next (pa_cons (pv 0) (pa_cons pe_int pa_nil))) pa_nil)) (blkOk_by (own := [("k", 4)]) (N := ["state", "deep", "kind", "pool", "k"]) (sc := defScope s_value) (by decide +kernel)) (fun _ _ _ _ _ => (pg_name (i := 4) sc_value.nd rfl (by first | exact Or.inl rfl | exact Or.inr rfl))) (fun _ _ _ _ _ => pts_nil) (fun _ _ _ _ _ => (pe_callE (ok_value T) (hr.mono (by omega)) T.o_value (pa_cons (pv 0) (pa_cons (pe_op op_subP (pv 1) pe_int) pa_nil))))) pa_nil)))))))), ?_⟩
    walk_at "rc"
    refine ⟨p, 6, rfl, by decide, hS, fun r H1 r0 r1 S1 o1 i1 => ?_⟩
    have d1 : Dr p H H1 := ⟨S1, o1, i1.2⟩
    walk_at "rc"
    walk_at "rs"
    walk_at "rc"
    refine rd_iteD (fun h0 => ?_) fun h0 => ?_
    · walk_at "rc"
      refine ⟨p, 2, rfl, by decide, S1, fun r2 H2 r20 r21 S2 o2 i2 => ?_⟩
      walk_at "rc"
      exact q (.bl _) (.bool _) H2 (leaf (fun _ => .bl _) (by cases d <;> exact True.intro) (by show 1 ≤ 11; decide)) (d1.trans ⟨S2, o2, i2.2⟩)
    walk_at "rc"
    walk_at "rs"
    walk_at "rc"
    refine rd_iteD (fun h1 => ?_) fun h1 => ?_
    · walk_at "rc"
      refine ⟨p, 1000, rfl, by decide, S1, fun a H2 a0 a1 S2 o2 i2 => ?_⟩
      have d2 := d1.trans ⟨S2, o2, i2.2⟩
      walk_at "rc"
      refine rd_mulN (.inr ⟨by decide, by decide⟩) ?_
      walk_at "rc"
      refine ⟨p, 1000, rfl, by decide, S2, fun b H3 b0 b1 S3 o3 i3 => ?_⟩
      have d3 := d2.trans ⟨S3, o3, i3.2⟩
      walk_at "rc"
      refine ⟨by show 5 ≤ sizeLine; omega, fun L hL => ?_⟩
      have eL := Evl.Ex.new (o := .lst [.int 0, .int 7, .int 10, .int 999999999, .int (a * 1000 + b)]) hL
      have d4 := d3.ex eL
      have nLp : L ≠ p := fun z => by
        obtain ⟨o, ho⟩ := S3.some
        rw [z, ho] at hL; cases hL
      have hL1 : upd H3 L (.lst [.int 0, .int 7, .int 10, .int 999999999, .int (a * 1000 + b)]) L = some (.lst [.int 0, .int 7, .int 10, .int 999999999, .int (a * 1000 + b)]) := upd_same
      generalize upd H3 L (.lst [.int 0, .int 7, .int 10, .int 999999999, .int (a * 1000 + b)]) = H4 at eL d4 hL1
      walk_at "rc"
      refine ⟨p, 5, rfl, by decide, d4.st, fun r5 H5 r50 r51 S5 o5 i5 => ?_⟩
      have d5' := d4.trans ⟨S5, o5, i5.2⟩
      have hL5 := o5 L _ nLp hL1
      obtain ⟨n5, rfl⟩ := Int.eq_ofNat_of_zero_le r50
      have fin : ∀ k : Int, 0 ≤ k → k < 1000000000 → Q (.int k) H5 := fun k k0 k1 => by
        obtain ⟨k, rfl⟩ := Int.eq_ofNat_of_zero_le k0
        refine q (.int (k : Int)) (.int (k : Int)) H5 (leaf (fun _ => .int _) (by cases d <;> exact ⟨k0, k1⟩) ?_) d5'
        have := wI_len (n := k) (by omega)
        show (wI (k : Int)).length ≤ 11
        omega
      have n5c : n5 = 0 ∨ n5 = 1 ∨ n5 = 2 ∨ n5 = 3 ∨ n5 = 4 := by omega
      rcases n5c with rfl | rfl | rfl | rfl | rfl
      · exact rd_ixL (SqL.of hL5) (atI_nat (j := 0) rfl) (fin 0 (by decide) (by decide))
      · exact rd_ixL (SqL.of hL5) (atI_nat (j := 1) rfl) (fin 7 (by decide) (by decide))
      · exact rd_ixL (SqL.of hL5) (atI_nat (j := 2) rfl) (fin 10 (by decide) (by decide))
      · exact rd_ixL (SqL.of hL5) (atI_nat (j := 3) rfl) (fin 999999999 (by decide) (by decide))
      · exact rd_ixL (SqL.of hL5) (atI_nat (j := 4) rfl) (fin (a * 1000 + b) (by omega) (by omega))
    have strQ : ∀ (s : Str) H', (∀ c ∈ s.cps.toList, c ∈ Lt) → s.length ≤ 4 → Dr p H1 H' → Q (.str s) H' := fun s H' hc hl d2 => by
      refine q (.str s) (.str s) H' (leaf (fun _ => .str _) (by cases d <;> exact hc) ?_) (d1.trans d2)
      show (39 :: (s.cps.toList ++ [39])).length ≤ 11
      rw [List.length_cons, List.length_append]
      have : s.cps.toList.length = s.length := rfl
      show s.cps.toList.length + 1 + 1 ≤ 11
      omega
    walk_at "rc"
    walk_at "rs"
    walk_at "rc"
    refine rd_iteD (fun h2 => rd_iteT (lv_str (S := S) S1 strQ)) fun h2 => ?_
    walk_at "rc"
    refine rd_iteD (fun hd0 => lv_str (S := S) S1 strQ) fun hd0 => ?_
    cases d with
    | zero => exact absurd rfl hd0
    | succ d =>
    walk_at "rc"
    refine ⟨p, 5, rfl, by decide, S1, fun nn H2 n0 n1 S2 o2 i2 => ?_⟩
    have d2 : Dr p H1 H2 := ⟨S2, o2, i2.2⟩
    have d02 := d1.trans d2
    walk_at "rc"
    refine ⟨nn, rfl, by omega, by omega, ?_⟩
    refine lc_R (K := K) (S := S) (P := fun i x => x = V.int (i : Nat)) (tr_dr S2 hp) (fun b hb => d02.st' (hs b hb)) walk_range0 rng_Y (by omega) (fun _ _ => True.intro) (fun i dt => PV dt d ∧ (W dt).length ≤ BW d) (hg_name fun v => rfl) (fun L i σ2 Hc hi p2 hL nL dc hs2 up N hN => ?_) fun L us Hc ds dc hL nL hus hds hlen hR => ?_
    · obtain ⟨v, rfl, rfl⟩ := p2
      walk_at "rc"
      rw [show ((d + 1 : Nat) : Int) - 1 = (d : Int) by omega]
      refine ⟨p, L :: S, rfl, dc.st, List.mem_cons_of_mem _ hp, hs2, by omega, fun v dt H4 hk d4 => ?_⟩
      exact hN v dt H4 d4 hk.1 hk.2
    · walk_at "rc"
      refine rd_tupL (SqL.of hus) fun a ha => ?_
      have hds2 : DpAll K (hid S (upd Hc a (.tup us))) us ds := dpAll_ex (fun b o z => by
        obtain ⟨z1, z2⟩ := hid_some z
        rw [hid_at (fun y => z1 (List.mem_cons_of_mem _ y)), upd_ne (ne_of_none z2 ha)]
        exact z2) hds
      have na : a ∉ S := fun y => by
        obtain ⟨o, ho⟩ := dc.st' (d02.st' (hs a y))
        rw [ha] at ho; cases ho
      refine q (.ref a) (.tuple ds) _ ⟨.tup (Evl.st_of (by rw [hid_at na]; exact upd_same)) hds2, ?_, ?_⟩ ((d02.trans dc).ex (Evl.Ex.new ha))
      · have : ∀ ds : List PyData, (∀ x ∈ ds, PV x d) → PVL ds d := by
          intro ds
          induction ds with
          | nil => exact fun _ => True.intro
          | cons x xs ih => exact fun h => ⟨h x List.mem_cons_self, ih fun y hy => h y (List.mem_cons_of_mem _ hy)⟩
        refine this ds fun x hx => ?_
        obtain ⟨i, hi⟩ := List.mem_iff_getElem?.mp hx
        exact (hR i x hi).1
      · have hb : ∀ x ∈ ds, (W x).length ≤ BW d := fun x hx => by
          obtain ⟨i, hi⟩ := List.mem_iff_getElem?.mp hx
          exact (hR i x hi).2
        have h1 := WL_le hb
        have l4 : ds.length ≤ 4 := by omega
        have h2 : ds.length * (BW d + 1) ≤ 4 * (BW d + 1) := Nat.mul_le_mul_right _ l4
        show (40 :: (WL ds ++ [41])).length ≤ 4 * (BW d + 1) + 2
        rw [List.length_cons, List.length_append]
        show (WL ds).length + 1 + 1 ≤ _
        omega
theorem lv_all : ∀ d : Nat, FnOk P w K mg base CX0 (d + 2) T.a_value T.d_value ["state", "deep"] (spLV (K := K) d)
  | 0 => lv_step T 0 (by
    refine T.f_value.ok sc_value (fun vs H Q E h => ?_) (fun cdv A outer s H vs Q E hr h => ?_)
    · exact h.2.elim
    · exact h.2.elim)
  | d + 1 => lv_step T (d + 1) (lv_all d)
end
section
theorem FnOk.exd {CX : CXT} {k : Nat} {f : Addr} {fd : FuncData} {ps : List Str} {sp : Nat → Sp} {n : Nat} (F : ∀ d, d ≤ n → FnOk P w K mg base CX k f fd ps (sp d)) : FnOk P w K mg base CX k f fd ps (fun vs H Q E => ∃ d, d ≤ n ∧ sp d vs H Q E) :=
  ⟨fun vs H Q E ⟨d, h, q⟩ => (F d h).len vs H Q E q, fun A outer s H args us vs Q E hr he hb hv ⟨d, h, q⟩ => (F d h).run A outer s H args us vs Q E hr he hb hv q⟩
variable (T : Txt K mg)
theorem ok_value : FnOk P w K mg base CX0 7 T.a_value T.d_value ["state", "deep"] (fun vs H Q E => ∃ d, d ≤ 5 ∧ spLV (K := K) d vs H Q E) := FnOk.exd fun d hd => (lv_all T d).mono (by omega)
def wS : Wn → Str
  | .val => Str.ofString "value"
  | .itm => Str.ofString "item"
  | .mor => Str.ofString "more"
  | .fin => Str.ofString "end"
theorem wS_inj {w : Wn} : (wS w = Str.ofString "end" ↔ w = .fin) ∧ (wS w = Str.ofString "more" ↔ w = .mor) := by
  cases w <;> decide +kernel
theorem rd_inTs {K : PySem.W.Frag} {a : Addr} {x : Str} {ys : List Str} {b : Bool} {H : Hp} {Q : VK} (h : H a = some (.tup (ys.map V.str))) (hb : inV (.str x) (ys.map V.str) = b) (q : Q (.bl b) H) (hx : x.length ≠ 1) : oIn K (.str x) (.ref a) H Q := by
  refine .inr ⟨a, ys.map V.str, rfl, .inr (Evl.st_of h), rfl, ?_, ?_⟩
  · rw [List.all_eq_true]
    intro v hv
    obtain ⟨x, _, rfl⟩ := List.mem_map.mp hv
    rfl
  · rw [if_neg (by decide), hb]
    exact q
theorem rd_niTs {K : PySem.W.Frag} {a : Addr} {x : Str} {ys : List Str} {b : Bool} {H : Hp} {Q : VK} (h : H a = some (.tup (ys.map V.str))) (hb : inV (.str x) (ys.map V.str) = b) (q : Q (.bl (!b)) H) : oNotIn K (.str x) (.ref a) H Q := by
  refine .inr ⟨a, ys.map V.str, rfl, .inr (Evl.st_of h), rfl, ?_, ?_⟩
  · rw [List.all_eq_true]
    intro v hv
    obtain ⟨x, _, rfl⟩ := List.mem_map.mp hv
    rfl
  · rw [if_pos rfl, hb]
    exact q
theorem cut1_list {z : Str} {e : Nat} (h : e ≤ z.length) : (cutS z (some (e : Int)) (some ((e : Int) + 1))).cps.toList = (z.cps.toList.drop e).take 1 := by
  have hl : z.cps.toList.length = z.length := rfl
  show (List.toArray (List.take (HT.sIx z.length z.length (some (((e + 1 : Nat)) : Int)) - HT.sIx z.length 0 (some (e : Int))) (List.drop (HT.sIx z.length 0 (some (e : Int))) z.cps.toList))).toList = _
  rw [HT.sIx_nat, HT.sIx_nat, List.toList_toArray, Nat.min_eq_left h]
  rcases Nat.lt_or_ge e z.length with h2 | h2
  · rw [Nat.min_eq_left (by omega), show e + 1 - e = 1 by omega]
  · rw [List.drop_eq_nil_of_le (by omega), List.take_nil, List.take_nil]
theorem q_eq {z : Str} {e : Nat} (h : e ≤ z.length) : cutS z (some (e : Int)) (some ((e : Int) + 1)) = Str.ofString "'" ↔ z.cps.toList[e]? = some 39 := by
  have h0 := cut1_list h
  have l1 : (Str.ofString "'").cps.toList = [39] := by decide +kernel
  constructor
  · intro y
    rw [y, l1] at h0
    cases hd : z.cps.toList.drop e with
    | nil => rw [hd] at h0; exact nomatch h0
    | cons c t =>
      rw [hd] at h0
      have : 39 = c := by simpa using h0
      rw [(dr_cons hd).1, ← this]
  · intro y
    rw [dr_at y] at h0
    exact str_of (h0.trans l1.symm)
def dueD : Option Nat → PyData
  | none => .tuple [.str "read", .int 0]
  | some q => .tuple [.str "bad", .int (q : Int)]
def spDue : Sp := fun vs H Q _ => ∃ (z : Str), vs = [.str z] ∧ z.length ≤ 90000 ∧ ∀ (r : Option Nat) (a : Addr) H', Run z.cps.toList 0 .val 0 r → Dp K H' (.ref a) (dueD r) → Ex H H' → Q (.ref a) H'
theorem ok_due : FnOk P w K mg base CX0 1 T.a_due T.d_due ["text"] (spDue (K := K)) := by
  refine T.f_due.ok sc_due (fun vs H Q E h => ?_) (fun cdv A outer s H vs Q E hr h => ?_)
  · obtain ⟨_, rfl, _⟩ := h; rfl
  · obtain ⟨z, rfl, lz, q⟩ := h
    have sz : 1000000 ≤ sizeLine := by decide
    refine ⟨_, (pss_cons (ps_set (i := 1) sc_due.nd rfl (by first | exact Or.inl rfl | exact Or.inr rfl) pe_str)
  (pss_cons (ps_set (i := 2) sc_due.nd rfl (by first | exact Or.inl rfl | exact Or.inr rfl) pe_int)
  (pss_cons (ps_set (i := 3) sc_due.nd rfl (by first | exact Or.inl rfl | exact Or.inr rfl) pe_str)
  (pss_cons (ps_set (i := 4) sc_due.nd rfl (by first | exact Or.inl rfl | exact Or.inr rfl) pe_int)
  (pss_cons (ps_while PassesOwn.never (pt_cmpR op_ltP (pv 4) (pe_callB (kLen K) (by rfl) T.nb_len (by decide +kernel) (pa_cons (pv 0) pa_nil)) (by first | rfl | exact nomark _))
    (pss_cons (ps_set (i := 5) sc_due.nd rfl (by first | exact Or.inl rfl | exact Or.inr rfl) (pe_ix (kIx K) (pv 0) (pv 4) (fun _ _ => rfl)))
  (pss_cons (ps_if (pt_cmpR (kEq K rfl hr.units) (pv 3) pe_str (by first | rfl | exact nomark _))
    (pss_one (ps_ret (pe_tup (pa_cons pe_str (pa_cons (pv 4) pa_nil)))))
    pss_nil)
  (pss_cons (ps_if (PW.pt (pw_or (PW.pt (pw_and (pt_cmpR (kEq K rfl hr.units) (pv 3) pe_str (by first | rfl | exact nomark _)) (pw_and1 (pt_cmpR (kNotIn K) (pv 5) pe_str (by first | rfl | exact nomark _))))) (pw_or1 (PW.pt (pw_and (pt_cmpR (kIn K) (pv 3) (pe_tup (pa_cons pe_str (pa_cons pe_str pa_nil))) (by first | rfl | exact nomark _)) (pw_and1 (pt_cmpR (kNotIn K) (pv 5) pe_str (by first | rfl | exact nomark _))))))))
    (pss_one (ps_ret (pe_tup (pa_cons pe_str (pa_cons (pv 4) pa_nil)))))
    pss_nil)
  (pss_cons (ps_if (PW.pt (pw_or (PW.pt (pw_and (pt_cmpR (kEq K rfl hr.units) (pv 5) pe_str (by first | rfl | exact nomark _)) (pw_and1 (pt_cmpR (kNotIn K) (pv 3) (pe_tup (pa_cons pe_str (pa_cons pe_str pa_nil))) (by first | rfl | exact nomark _))))) (pw_or1 (PW.pt (pw_and (pt_cmpR (kEq K rfl hr.units) (pv 5) pe_str (by first | rfl | exact nomark _)) (pw_and1 (pt_cmpR (kEq K rfl hr.units) (pv 2) pe_int (by first | rfl | exact nomark _))))))))
    (pss_one (ps_ret (pe_tup (pa_cons pe_str (pa_cons (pv 4) pa_nil)))))
    pss_nil)
  (pss_cons (ps_set (i := 6) sc_due.nd rfl (by first | exact Or.inl rfl | exact Or.inr rfl) (pe_op (kAdd K) (pv 4) pe_int))
  (pss_cons (ps_if (pt_cmpR (kEq K rfl hr.units) (pv 5) pe_str (by first | rfl | exact nomark _))
    (pss_cons (ps_while PassesOwn.never (PW.pt (pw_and (pt_cmpR op_ltP (pv 6) (pe_callB (kLen K) (by rfl) T.nb_len (by decide +kernel) (pa_cons (pv 0) pa_nil)) (by first | rfl | exact nomark _)) (pw_and1 (pt_cmpR (kIn K) (pe_ix (kIx K) (pv 0) (pv 6) (fun _ _ => rfl)) (pv 1) (by first | rfl | exact nomark _)))))
    (pss_one (ps_set (i := 6) sc_due.nd rfl (by first | exact Or.inl rfl | exact Or.inr rfl) (pe_op (kAdd K) (pv 6) pe_int))))
  (pss_cons (ps_if (pt_cmpR (kNe K rfl hr.units) (pe_slice (kSl K) (pv 0) (po_some (pv 6)) (po_some (pe_op (kAdd K) (pv 6) pe_int))) pe_str (by first | rfl | exact nomark _))
    (pss_one (ps_ret (pe_tup (pa_cons pe_str (pa_cons (pv 6) pa_nil)))))
    pss_nil)
  (pss_one (ps_set (i := 6) sc_due.nd rfl (by first | exact Or.inl rfl | exact Or.inr rfl) (pe_op (kAdd K) (pv 6) pe_int)))))
    (pss_one (ps_if (pt_cmpR (kIn K) (pv 5) pe_str (by first | rfl | exact nomark _))
    (pss_one (ps_while PassesOwn.never (PW.pt (pw_and (pt_cmpR op_ltP (pv 6) (pe_callB (kLen K) (by rfl) T.nb_len (by decide +kernel) (pa_cons (pv 0) pa_nil)) (by first | rfl | exact nomark _)) (pw_and (pt_cmpR (kIn K) (pe_ix (kIx K) (pv 0) (pv 6) (fun _ _ => rfl)) pe_str (by first | rfl | exact nomark _)) (pw_and1 (pt_cmpR op_ltP (pe_op op_subP (pv 6) (pv 4)) pe_int (by first | rfl | exact nomark _))))))
    (pss_one (ps_set (i := 6) sc_due.nd rfl (by first | exact Or.inl rfl | exact Or.inr rfl) (pe_op (kAdd K) (pv 6) pe_int)))))
    pss_nil)))
  (pss_cons (ps_if (pt_cmpR (kEq K rfl hr.units) (pv 5) pe_str (by first | rfl | exact nomark _))
    (pss_cons (ps_set (i := 2) sc_due.nd rfl (by first | exact Or.inl rfl | exact Or.inr rfl) (pe_op (kAdd K) (pv 2) pe_int))
  (pss_one (ps_set (i := 3) sc_due.nd rfl (by first | exact Or.inl rfl | exact Or.inr rfl) pe_str)))
    (pss_one (ps_if (pt_cmpR (kEq K rfl hr.units) (pv 5) pe_str (by first | rfl | exact nomark _))
    (pss_one (ps_set (i := 3) sc_due.nd rfl (by first | exact Or.inl rfl | exact Or.inr rfl) pe_str))
    (pss_cons (ps_set (i := 2) sc_due.nd rfl (by first | exact Or.inl rfl | exact Or.inr rfl) (pe_op op_subP (pv 2) (pe_callTy call_intP (by rfl) T.nb_int (by decide +kernel) (pa_cons (pe_cmpR (kEq K rfl hr.units) (pv 5) pe_str (by first | rfl | exact nomark _)) pa_nil))))
  (pss_one (ps_set (i := 3) sc_due.nd rfl (by first | exact Or.inl rfl | exact Or.inr rfl) (pe_ifExp (pt_cmpR op_gtP (pv 2) pe_int (by first | rfl | exact nomark _)) pe_str pe_str)))))))
  (pss_one (ps_set (i := 4) sc_due.nd rfl (by first | exact Or.inl rfl | exact Or.inr rfl) (pv 6)))))))))))
  (pss_one (ps_ret (pe_ifExp (pt_cmpR (kEq K rfl hr.units) (pv 3) pe_str (by first | rfl | exact nomark _)) (pe_tup (pa_cons pe_str (pa_cons pe_int pa_nil))) (pe_tup (pa_cons pe_str (pa_cons (pe_callB (kLen K) (by rfl) T.nb_len (by decide +kernel) (pa_cons (pv 0) pa_nil)) pa_nil))))))))))), ?_⟩
    walk_at "rc"
    walk_at "rs"
    refine rd_wh (fun mm σ H' => ∃ (d : Nat) (wn : Wn) (p : Nat) (k5 k6 : Option V), σ = [some (.str z), some (.str (Str.ofString "abcdefghijklmnopqrstuvwxyzABCDEFGHIJKLMNOPQRSTUVWXYZ0123456789<>=:_@#")), some (.int (d : Int)), some (.str (wS wn)), some (.int (p : Int)), k5, k6] ∧ Ex H H' ∧ p ≤ z.length ∧ (wn = .mor ∨ wn = .itm → 0 < d) ∧ (∀ r, Run z.cps.toList d wn p r → Run z.cps.toList 0 .val 0 r) ∧ mm = z.length - p)
      _ ⟨0, .val, 0, _, _, rfl, Evl.Ex.refl H, Nat.zero_le _, fun h => (h.elim (fun h => nomatch h) fun h => nomatch h), fun r h => h, rfl⟩ ?_
    rintro mm σ H1 ⟨d, wn, p, k5, k6, rfl, e1, pl, hw, hrun, rfl⟩
    have hzl : z.cps.toList.length = z.length := rfl
    walk_at "rc"
    refine rd_lenS (by omega) ?_
    walk_at "rc"
    refine rd_iteD (fun hlt => ?_) fun hge => ?_
    · have plt : p < z.length := by omega
      refine ⟨_, fun σ2 H2 z => z, ?_⟩
      obtain ⟨c, hc⟩ : ∃ c, z.cps.toList[p]? = some c := ⟨_, List.getElem?_eq_getElem (by omega)⟩
      walk_at "rc"
      refine rd_ixS (by omega) (atI_nat hc) ?_
      have bad : ∀ (qn : Nat) H', Ex H H' → Run z.cps.toList 0 .val 0 (some qn) → (([V.str (Str.ofString "bad"), V.int (qn : Int)].length ≤ sizeLine) ∧ ∀ a, H' a = none → Q (.ref a) (upd H' a (.tup [V.str (Str.ofString "bad"), V.int (qn : Int)]))) := fun qn H' e hr =>
        ⟨by show 2 ≤ sizeLine; omega, fun a ha => q (some qn) a _ hr (.tup (Evl.st_of upd_same) (.cons (.str _) (.cons (.int _) .nil))) (e.trans (Evl.Ex.new ha))⟩
      walk_at "rc"
      refine rd_cut (fun σ H' => σ = [some (.str z), some (.str (Str.ofString "abcdefghijklmnopqrstuvwxyzABCDEFGHIJKLMNOPQRSTUVWXYZ0123456789<>=:_@#")), some (.int (d : Int)), some (.str (wS wn)), some (.int (p : Int)), some (.str ⟨#[c]⟩), k6] ∧ Ex H H' ∧ wn ≠ .fin) (fun N hN => ?_) ?_
      · walk_at "rc"
        refine rd_iteD (fun h => ?_) fun h => ?_
        · have hf := wS_inj.1.mp h
          subst hf
          walk_at "rc"
          exact bad p H1 e1 (hrun _ (.fin (stp_more hc)))
        · walk_at "rc"
          exact hN _ _ ⟨rfl, e1, fun y => h (wS_inj.1.mpr y)⟩
      rintro σ H2 ⟨rfl, e2, nf⟩
      refine rd_cut (fun σ H' => σ = [some (.str z), some (.str (Str.ofString "abcdefghijklmnopqrstuvwxyzABCDEFGHIJKLMNOPQRSTUVWXYZ0123456789<>=:_@#")), some (.int (d : Int)), some (.str (wS wn)), some (.int (p : Int)), some (.str ⟨#[c]⟩), k6] ∧ Ex H H' ∧ ¬ ((wn = .mor ∧ ¬ (c = 32 ∨ c = 41)) ∨ (wn ≠ .mor ∧ c ∉ Sg))) (fun N hN => ?_) ?_
      · have l1 : (Str.ofString " )").cps.toList = [32, 41] := by decide +kernel
        have l2 : (Str.ofString "TF'(0123456789)").cps.toList = Sg := by decide +kernel
        have hb2 : ((wn = .mor ∧ ¬ (c = 32 ∨ c = 41)) ∨ (wn ≠ .mor ∧ c ∉ Sg)) → Run z.cps.toList d wn p (some p) := fun h => .fin (by unfold stp; rw [hc]; simp only [if_neg nf, if_pos h])
        walk_at "rc"
        refine rd_iteD (fun h => ?_) fun h => ?_
        · have hm := wS_inj.2.mp h
          walk_at "rc"
          rw [l1]
          refine rd_iteN (fun h2 => ?_) fun h2 => ?_
          · refine rd_iteT ?_
            walk_at "rc"
            exact bad p H2 e2 (hrun _ (hb2 (.inl ⟨hm, fun y => h2 (by rcases y with rfl | rfl <;> simp)⟩)))
          · walk_at "rc"
            refine ⟨by show 2 ≤ sizeLine; omega, fun tp htp => ?_⟩
            subst hm
            refine rd_inTs (ys := [Str.ofString "value", Str.ofString "item"]) (b := false) upd_same (by decide +kernel) ?_ (by decide +kernel)
            walk_at "rc"
            refine hN _ _ ⟨rfl, e2.trans (Evl.Ex.new htp), ?_⟩
            rintro (⟨_, y⟩ | ⟨y, _⟩)
            · refine y ?_
              simpa using h2
            · exact y rfl
        · have hm : wn ≠ .mor := fun y => h (wS_inj.2.mpr y)
          walk_at "rc"
          refine ⟨by show 2 ≤ sizeLine; omega, fun tp htp => ?_⟩
          refine rd_inTs (ys := [Str.ofString "value", Str.ofString "item"]) (b := true) upd_same (by cases wn <;> first | (exact absurd rfl hm) | (exact absurd rfl nf) | decide +kernel) ?_ (by cases wn <;> decide +kernel)
          walk_at "rc"
          rw [l2]
          refine rd_iteN (fun h2 => ?_) fun h2 => ?_
          · walk_at "rc"
            exact bad p _ (e2.trans (Evl.Ex.new htp)) (hrun _ (hb2 (.inr ⟨hm, h2⟩)))
          · walk_at "rc"
            refine hN _ _ ⟨rfl, e2.trans (Evl.Ex.new htp), ?_⟩
            rintro (⟨y, _⟩ | ⟨_, y⟩)
            · exact hm y
            · exact y h2
      rintro σ H3 ⟨rfl, e3, nb2⟩
      have SS : ∀ {x : Option V}, [some (V.str z), some (V.str (Str.ofString "abcdefghijklmnopqrstuvwxyzABCDEFGHIJKLMNOPQRSTUVWXYZ0123456789<>=:_@#")), some (V.int (d : Int)), some (V.str (wS wn)), some (V.int (p : Int)), some (V.str ⟨#[c]⟩), x] = [some (.str z), some (.str (Str.ofString "abcdefghijklmnopqrstuvwxyzABCDEFGHIJKLMNOPQRSTUVWXYZ0123456789<>=:_@#")), some (.int (d : Int)), some (.str (wS wn)), some (.int (p : Int)), some (.str ⟨#[c]⟩), x] := rfl
      refine rd_cut (fun σ H' => σ = [some (.str z), some (.str (Str.ofString "abcdefghijklmnopqrstuvwxyzABCDEFGHIJKLMNOPQRSTUVWXYZ0123456789<>=:_@#")), some (.int (d : Int)), some (.str (wS wn)), some (.int (p : Int)), some (.str ⟨#[c]⟩), k6] ∧ Ex H H' ∧ ¬ ((c = 41 ∧ wn = .val) ∨ (c = 40 ∧ d = 8))) (fun N hN => ?_) ?_
      · have hb3 : ((c = 41 ∧ wn = .val) ∨ (c = 40 ∧ d = 8)) → Run z.cps.toList d wn p (some p) := fun h => .fin (by unfold stp; rw [hc]; simp only [if_neg nf, if_neg nb2, if_pos h])
        walk_at "rc"
        refine rd_iteD (fun h => ?_) fun h => ?_
        · have h41 : c = 41 := (oneS (by decide +kernel)).mp h
          subst h41
          walk_at "rc"
          refine ⟨by show 2 ≤ sizeLine; omega, fun tp htp => ?_⟩
          have e4 := e3.trans (Evl.Ex.new (o := .tup [V.str (Str.ofString "item"), V.str (Str.ofString "more")]) htp)
          have nx : wn ≠ .val → ¬ ((41 = 41 ∧ wn = .val) ∨ (41 = 40 ∧ d = 8)) := fun y h => h.elim (fun h => y h.2) fun h => absurd h.1 (by decide)
          have n40 : (⟨#[41]⟩ : Str) ≠ Str.ofString "(" := fun y => absurd ((oneS (k := 40) (by decide +kernel)).mp y) (by decide)
          cases wn with
          | fin => exact absurd rfl nf
          | val =>
            refine rd_niTs (ys := [Str.ofString "item", Str.ofString "more"]) (b := false) upd_same (by decide +kernel) ?_
            walk_at "rc"
            exact bad p _ e4 (hrun _ (hb3 (.inl ⟨rfl, rfl⟩)))
          | itm =>
            refine rd_niTs (ys := [Str.ofString "item", Str.ofString "more"]) (b := true) upd_same (by decide +kernel) ?_
            walk_at "rc"
            refine rd_iteD (fun y => absurd y n40) fun _ => ?_
            walk_at "rc"
            exact hN _ _ ⟨rfl, e4, nx (fun y => nomatch y)⟩
          | mor =>
            refine rd_niTs (ys := [Str.ofString "item", Str.ofString "more"]) (b := true) upd_same (by decide +kernel) ?_
            walk_at "rc"
            refine rd_iteD (fun y => absurd y n40) fun _ => ?_
            walk_at "rc"
            exact hN _ _ ⟨rfl, e4, nx (fun y => nomatch y)⟩
        · have n41 : c ≠ 41 := fun y => h ((oneS (by decide +kernel)).mpr y)
          walk_at "rc"
          refine rd_iteD (fun h => ?_) fun h => ?_
          · have h40 : c = 40 := (oneS (by decide +kernel)).mp h
            walk_at "rc"
            refine rd_iteD (fun h8 => ?_) fun h8 => ?_
            · walk_at "rc"
              exact bad p _ e3 (hrun _ (hb3 (.inr ⟨h40, by omega⟩)))
            · walk_at "rc"
              exact hN _ _ ⟨rfl, e3, fun y => y.elim (fun y => n41 y.1) fun y => h8 (by omega)⟩
          · have n40 : c ≠ 40 := fun y => h ((oneS (by decide +kernel)).mpr y)
            walk_at "rc"
            exact hN _ _ ⟨rfl, e3, fun y => y.elim (fun y => n41 y.1) fun y => n40 y.1⟩
      rintro σ H4 ⟨rfl, e4, nb3⟩
      have wvi : c ≠ 32 → c ≠ 41 → wn = .val ∨ wn = .itm := fun h1 h2 => by
        cases wn with
        | val => exact .inl rfl
        | itm => exact .inr rfl
        | mor => exact absurd (.inl ⟨rfl, fun y => y.elim h1 h2⟩) nb2
        | fin => exact absurd rfl nf
      walk_at "rc"
      refine rd_cut (fun σ H' => ∃ e : Nat, σ = [some (.str z), some (.str (Str.ofString "abcdefghijklmnopqrstuvwxyzABCDEFGHIJKLMNOPQRSTUVWXYZ0123456789<>=:_@#")), some (.int (d : Int)), some (.str (wS wn)), some (.int (p : Int)), some (.str ⟨#[c]⟩), some (.int (e : Int))] ∧ Ex H H' ∧ p < e ∧ e ≤ z.length ∧ (c = 39 → z.cps.toList[p + 1 + sp Lt (z.cps.toList.drop (p + 1))]? = some 39 ∧ e = p + 1 + sp Lt (z.cps.toList.drop (p + 1)) + 1) ∧ (49 ≤ c ∧ c ≤ 57 → e = p + 1 + min 8 (sp Dg (z.cps.toList.drop (p + 1)))) ∧ (c ≠ 39 → ¬ (49 ≤ c ∧ c ≤ 57) → e = p + 1)) (fun N hN => ?_) ?_
      · have slL := sp_le (ks := Lt) (z.cps.toList.drop (p + 1))
        have slD := sp_le (ks := Dg) (z.cps.toList.drop (p + 1))
        rw [List.length_drop] at slL slD
        walk_at "rc"
        refine rd_iteD (fun h => ?_) fun h => ?_
        · have h39 : c = 39 := (oneS (by decide +kernel)).mp h
          obtain ⟨n, hn⟩ : ∃ n, sp Lt (z.cps.toList.drop (p + 1)) = n := ⟨_, rfl⟩
          walk_at "rs"
          refine rd_wh (fun mm σ H' => ∃ i : Nat, σ = [some (.str z), some (.str (Str.ofString "abcdefghijklmnopqrstuvwxyzABCDEFGHIJKLMNOPQRSTUVWXYZ0123456789<>=:_@#")), some (.int (d : Int)), some (.str (wS wn)), some (.int (p : Int)), some (.str ⟨#[c]⟩), some (.int ((p + 1 + i : Nat) : Int))] ∧ H' = H4 ∧ i ≤ n ∧ mm = n - i)
            _ ⟨0, rfl, rfl, Nat.zero_le _, rfl⟩ ?_
          rintro mm σ H5 ⟨i, rfl, rfl, hi, rfl⟩
          walk_at "rc"
          refine rd_lenS (by omega) ?_
          walk_at "rc"
          refine rd_iteD (fun hl5 => ?_) fun hl5 => ?_
          · obtain ⟨x, hx⟩ : ∃ x, z.cps.toList[p + 1 + i]? = some x := ⟨_, List.getElem?_eq_getElem (by omega)⟩
            have hxd : (z.cps.toList.drop (p + 1))[i]? = some x := by rw [List.getElem?_drop]; exact hx
            walk_at "rc"
            refine rd_ixS (by omega) (atI_nat hx) ?_
            walk_at "rc"
            rcases Nat.lt_or_ge i n with hi2 | hi2
            · have hxl : x ∈ Lt := by
                obtain ⟨y, hy, hk⟩ := sp_at (ks := Lt) (z := z.cps.toList.drop (p + 1)) (i := i) (by omega)
                rw [hxd] at hy
                cases hy
                exact hk
              have hxl : x ∈ (Str.ofString "abcdefghijklmnopqrstuvwxyzABCDEFGHIJKLMNOPQRSTUVWXYZ0123456789<>=:_@#").cps.toList := hxl
              rw [decide_eq_true hxl]
              refine rd_iteT ?_
              refine ⟨_, fun σ2 H2 z => z, ?_⟩
              walk_at "rc"
              exact ⟨n - (i + 1), by omega, i + 1, rfl, rfl, hi2, rfl⟩
            · have hxl : x ∉ (Str.ofString "abcdefghijklmnopqrstuvwxyzABCDEFGHIJKLMNOPQRSTUVWXYZ0123456789<>=:_@#").cps.toList := by
                have e : i = sp Lt (z.cps.toList.drop (p + 1)) := by omega
                rw [e] at hxd
                exact sp_stop (ks := Lt) hxd
              rw [decide_eq_false hxl]
              have hin : i = n := by omega
              subst hin
              refine rd_iteF ?_
              walk_at "rs"
              walk_at "rc"
              refine rd_slS (z := z) (by omega) ?_
              walk_at "rc"
              refine rd_iteN (fun hq => ?_) fun hq => ?_
              · walk_at "rc"
                refine bad _ H5 e4 (hrun _ (.fin ?_))
                rw [← hn]
                exact stp_txtB (by rw [hc, h39]) (wvi (by omega) (by omega)) (fun y => hq ((q_eq (by omega)).mpr (by rw [← hn]; exact y)))
              · have hq39 := (q_eq (by omega)).mp hq
                have le := (List.getElem?_eq_some_iff.mp hq39).1
                walk_at "rc"
                refine hN _ _ ⟨p + 1 + i + 1, rfl, e4, by omega, by omega, fun _ => ⟨by rw [hn]; exact hq39, by rw [hn]⟩, fun y => by omega, fun y => absurd h39 y⟩
          · refine rd_iteF ?_
            have hns : ¬ i < n := fun y => by
              obtain ⟨x, hx, _⟩ := sp_at (ks := Lt) (z := z.cps.toList.drop (p + 1)) (i := i) (by omega)
              rw [List.getElem?_drop] at hx
              have := (List.getElem?_eq_some_iff.mp hx).1
              omega
            have hin : i = n := by omega
            subst hin
            walk_at "rs"
            walk_at "rc"
            refine rd_slS (z := z) (by omega) ?_
            walk_at "rc"
            refine rd_iteN (fun hq => ?_) fun hq => ?_
            · walk_at "rc"
              refine bad _ H5 e4 (hrun _ (.fin ?_))
              rw [← hn]
              exact stp_txtB (by rw [hc, h39]) (wvi (by omega) (by omega)) (fun y => hq ((q_eq (by omega)).mpr (by rw [← hn]; exact y)))
            · have hq39 := (q_eq (by omega)).mp hq
              have le := (List.getElem?_eq_some_iff.mp hq39).1
              walk_at "rc"
              refine hN _ _ ⟨p + 1 + i + 1, rfl, e4, by omega, by omega, fun _ => ⟨by rw [hn]; exact hq39, by rw [hn]⟩, fun y => by omega, fun y => absurd h39 y⟩
        · have n39 : c ≠ 39 := fun y => h ((oneS (by decide +kernel)).mpr y)
          have l9 : (Str.ofString "123456789").cps.toList = [49, 50, 51, 52, 53, 54, 55, 56, 57] := by decide +kernel
          walk_at "rc"
          rw [l9]
          refine rd_iteD (fun hm => ?_) fun hm => ?_
          · have hdg : 49 ≤ c ∧ c ≤ 57 := by
              simp only [List.mem_cons, List.not_mem_nil, or_false] at hm
              omega
            obtain ⟨n, hn⟩ : ∃ n, min 8 (sp Dg (z.cps.toList.drop (p + 1))) = n := ⟨_, rfl⟩
            have n8 : n ≤ 8 := by omega
            have nD : n ≤ sp Dg (z.cps.toList.drop (p + 1)) := by omega
            refine rd_wh (fun mm σ H' => ∃ i : Nat, σ = [some (.str z), some (.str (Str.ofString "abcdefghijklmnopqrstuvwxyzABCDEFGHIJKLMNOPQRSTUVWXYZ0123456789<>=:_@#")), some (.int (d : Int)), some (.str (wS wn)), some (.int (p : Int)), some (.str ⟨#[c]⟩), some (.int ((p + 1 + i : Nat) : Int))] ∧ H' = H4 ∧ i ≤ n ∧ mm = n - i)
              _ ⟨0, rfl, rfl, Nat.zero_le _, rfl⟩ ?_
            rintro mm σ H5 ⟨i, rfl, rfl, hi, rfl⟩
            walk_at "rc"
            refine rd_lenS (by omega) ?_
            walk_at "rc"
            refine rd_iteD (fun hl5 => ?_) fun hl5 => ?_
            · obtain ⟨x, hx⟩ : ∃ x, z.cps.toList[p + 1 + i]? = some x := ⟨_, List.getElem?_eq_getElem (by omega)⟩
              have hxd : (z.cps.toList.drop (p + 1))[i]? = some x := by rw [List.getElem?_drop]; exact hx
              walk_at "rc"
              refine rd_ixS (by omega) (atI_nat hx) ?_
              walk_at "rc"
              rcases Nat.lt_or_ge i (sp Dg (z.cps.toList.drop (p + 1))) with hi2 | hi2
              · have hxl : x ∈ Dg := by
                  obtain ⟨y, hy, hk⟩ := sp_at (ks := Dg) (z := z.cps.toList.drop (p + 1)) (i := i) hi2
                  rw [hxd] at hy
                  cases hy
                  exact hk
                have hxl : x ∈ (Str.ofString "0123456789").cps.toList := hxl
                rw [decide_eq_true hxl]
                refine rd_iteT ?_
                walk_at "rc"
                refine rd_iteD (fun h9 => ?_) fun h9 => ?_
                · refine ⟨_, fun σ2 H2 z => z, ?_⟩
                  walk_at "rc"
                  exact ⟨n - (i + 1), by omega, i + 1, rfl, rfl, by omega, rfl⟩
                · have hin : i = n := by omega
                  subst hin
                  exact hN _ _ ⟨p + 1 + i, rfl, e4, by omega, by omega, fun y => absurd y n39, fun _ => by rw [hn], fun _ y => absurd hdg y⟩
              · have hxl : x ∉ (Str.ofString "0123456789").cps.toList := by
                  have nn : i = sp Dg (z.cps.toList.drop (p + 1)) := by omega
                  rw [nn] at hxd
                  exact sp_stop (ks := Dg) hxd
                rw [decide_eq_false hxl]
                refine rd_iteF ?_
                have hin : i = n := by omega
                subst hin
                refine rd_iteF ?_
                exact hN _ _ ⟨p + 1 + i, rfl, e4, by omega, by omega, fun y => absurd y n39, fun _ => by rw [hn], fun _ y => absurd hdg y⟩
            · refine rd_iteF ?_
              have hns : ¬ i < n := fun y => by
                obtain ⟨x, hx, _⟩ := sp_at (ks := Dg) (z := z.cps.toList.drop (p + 1)) (i := i) (by omega)
                rw [List.getElem?_drop] at hx
                have := (List.getElem?_eq_some_iff.mp hx).1
                omega
              have hin : i = n := by omega
              subst hin
              exact hN _ _ ⟨p + 1 + i, rfl, e4, by omega, by omega, fun y => absurd y n39, fun _ => by rw [hn], fun _ y => absurd hdg y⟩
          · walk_at "rc"
            refine hN _ _ ⟨p + 1, rfl, e4, by omega, by omega, fun y => absurd y n39, fun y => absurd ?_ hm, fun _ _ => rfl⟩
            simp only [List.mem_cons, List.not_mem_nil, or_false]
            omega
      rintro σ H5 ⟨e, rfl, e5, pe, el, f39, fdg, fel⟩
      have step : ∀ (d' : Nat) (w' : Wn), stp z.cps.toList d wn p = .inl (d', w', e) → (w' = .mor ∨ w' = .itm → 0 < d') → ∀ (s2 : Option V) (s3 : Option V), s2 = some (.int (d' : Int)) → s3 = some (.str (wS w')) → ∃ m', m' < z.length - p ∧ ∃ (d : Nat) (wn : Wn) (p : Nat) (k5 k6 : Option V), [some (.str z), some (.str (Str.ofString "abcdefghijklmnopqrstuvwxyzABCDEFGHIJKLMNOPQRSTUVWXYZ0123456789<>=:_@#")), s2, s3, some (.int (e : Int)), some (.str ⟨#[c]⟩), some (.int (e : Int))] = [some (.str z), some (.str (Str.ofString "abcdefghijklmnopqrstuvwxyzABCDEFGHIJKLMNOPQRSTUVWXYZ0123456789<>=:_@#")), some (.int (d : Int)), some (.str (wS wn)), some (.int (p : Int)), k5, k6] ∧ Ex H H5 ∧ p ≤ z.length ∧ (wn = .mor ∨ wn = .itm → 0 < d) ∧ (∀ r, Run z.cps.toList d wn p r → Run z.cps.toList 0 .val 0 r) ∧ m' = z.length - p := by
        intro d' w' hst hd s2 s3 h2 h3
        rw [h2, h3]
        exact ⟨z.length - e, by omega, d', w', e, _, _, rfl, e5, el, hd, fun r hr => hrun r (.go hst hr), rfl⟩
      have c2 : ∀ k : Nat, c = k → k ≠ 39 → ¬ (49 ≤ k ∧ k ≤ 57) → e = p + 1 := fun k h h1 h2 => fel (by rw [h]; exact h1) (by rw [h]; exact h2)
      walk_at "rc"
      walk_at "rs"
      walk_at "rc"
      refine rd_iteD (fun h => ?_) fun h => ?_
      · have h40 : c = 40 := (oneS (by decide +kernel)).mp h
        have he := c2 40 h40 (by decide) (by decide)
        walk_at "rc"
        refine step (d + 1) .itm ?_ (fun _ => Nat.succ_pos d) _ _ rfl rfl
        rw [he]
        exact stp_open (by rw [hc, h40]) (wvi (by omega) (by omega)) (fun y => nb3 (.inr ⟨h40, y⟩))
      have n40 : c ≠ 40 := fun y => h ((oneS (by decide +kernel)).mpr y)
      walk_at "rc"
      refine rd_iteD (fun h => ?_) fun h => ?_
      · have h32 : c = 32 := (oneS (by decide +kernel)).mp h
        have he := c2 32 h32 (by decide) (by decide)
        have hm : wn = .mor := by
          by_cases y : wn = .mor
          · exact y
          · exact absurd (.inr ⟨y, by rw [h32]; decide⟩) nb2
        walk_at "rc"
        refine step d .val ?_ (fun y => y.elim (fun y => nomatch y) fun y => nomatch y) _ _ rfl rfl
        rw [he, hm]
        exact stp_sp (by rw [hc, h32])
      have n32 : c ≠ 32 := fun y => h ((oneS (by decide +kernel)).mpr y)
      obtain ⟨d', hd'⟩ : ∃ d', d' = if c = 41 then d - 1 else d := ⟨_, rfl⟩
      have hst : stp z.cps.toList d wn p = .inl (d', aft d', e) := by
        by_cases h41 : c = 41
        · rw [hd', if_pos h41, c2 41 h41 (by decide) (by decide)]
          refine stp_close (by rw [hc, h41]) ?_
          cases wn with
          | mor => exact .inl rfl
          | itm => exact .inr rfl
          | val => exact absurd (.inl ⟨h41, rfl⟩) nb3
          | fin => exact absurd rfl nf
        · rw [hd', if_neg h41]
          have hv := wvi n32 h41
          by_cases h39 : c = 39
          · obtain ⟨f1, f2⟩ := f39 h39
            rw [f2]
            exact stp_txt (by rw [hc, h39]) hv f1
          · by_cases hdg : 49 ≤ c ∧ c ≤ 57
            · rw [fdg hdg]
              exact stp_num hc hv hdg
            · rw [fel h39 hdg]
              refine stp_one hc hv ?_
              have hs : c ∈ Sg := by
                by_cases y : c ∈ Sg
                · exact y
                · exact absurd (.inr ⟨by rcases hv with h | h <;> rw [h] <;> decide, y⟩) nb2
              unfold Sg at hs
              simp only [List.mem_cons, List.not_mem_nil, or_false] at hs
              omega
      have hd0 : c = 41 → 0 < d := fun h41 => hw (by
        cases wn with
        | mor => exact .inl rfl
        | itm => exact .inr rfl
        | val => exact absurd (.inl ⟨h41, rfl⟩) nb3
        | fin => exact absurd rfl nf)
      have eb : decide ((⟨#[c]⟩ : Str) = Str.ofString ")") = decide (c = 41) := by
        rw [decide_eq_decide]
        exact oneS (by decide +kernel)
      have ed : (d : Int) - (if decide (c = 41) = true then 1 else 0) = (d' : Int) := by
        rw [hd']
        by_cases h41 : c = 41
        · have := hd0 h41
          rw [if_pos (decide_eq_true h41), if_pos h41]; omega
        · rw [if_neg (by rw [decide_eq_false h41]; decide), if_neg h41]; omega
      have hda : (aft d' = .mor ∨ aft d' = .itm → 0 < d') := fun y => by
        unfold aft at y
        by_cases h0 : 0 < d'
        · exact h0
        · rw [if_neg h0] at y
          exact y.elim (fun y => nomatch y) fun y => nomatch y
      walk_at "rc"
      rw [eb]
      refine .inr ⟨_, rfl, ?_⟩
      walk_at "rc"
      rw [ed]
      refine rd_ife ?_
      walk_at "rc"
      refine rd_iteD (fun h => ?_) fun h => ?_
      · walk_at "rc"
        refine step d' (aft d') hst hda _ _ rfl ?_
        unfold aft
        rw [if_pos (by omega)]; rfl
      · walk_at "rc"
        refine step d' (aft d') hst hda _ _ rfl ?_
        unfold aft
        rw [if_neg (by omega)]; rfl
    · have hpz : z.cps.toList[p]? = none := List.getElem?_eq_none (by omega)
      walk_at "rc"
      refine rd_ife ?_
      walk_at "rc"
      refine rd_iteD (fun h => ?_) fun h => ?_
      · have hf := wS_inj.1.mp h
        subst hf
        walk_at "rc"
        exact ⟨by show 2 ≤ sizeLine; omega, fun a ha => q none a _ (hrun _ (.fin (stp_read hpz))) (.tup (Evl.st_of upd_same) (.cons (.str _) (.cons (.int _) .nil))) (e1.trans (Evl.Ex.new ha))⟩
      · have nf : wn ≠ .fin := fun y => h (wS_inj.1.mpr y)
        walk_at "rc"
        refine rd_lenS (by omega) ?_
        walk_at "rc"
        exact ⟨by show 2 ≤ sizeLine; omega, fun a ha => q (some z.length) a _ (hrun _ (.fin (stp_end hpz nf))) (.tup (Evl.st_of upd_same) (.cons (.str _) (.cons (.int _) .nil))) (e1.trans (Evl.Ex.new ha))⟩
end
section
variable (T : Txt K mg)
theorem mulOk1 {ls : Str} (h1 : ls.length = 1) {k : Nat} (hk : k ≤ 100) : MulOk ls (k : Int) := by
  refine ⟨?_, fun h h2 => ?_, fun h h2 => ?_⟩
  · rw [decide_eq_false (by omega), decide_eq_false (by omega)]; rfl
  · rw [h1]
    have hk1 : 1 ≤ k := by omega
    have : (100 : Int) ≤ (2 ^ 63 - 1) / (k : Int) := by
      rw [Int.le_ediv_iff_mul_le (by omega)]
      have : (100 : Int) * (k : Int) ≤ 100 * 100 := by omega
      omega
    omega
  · rw [h1, Nat.one_mul, Int.toNat_natCast]
    have : k ≤ sizeLine := Nat.le_trans hk (by decide)
    show decide (k > sizeLine) = false
    exact decide_eq_false (by omega)
theorem cutS_len (z : Str) (lo hi : Option Int) : (cutS z lo hi).length ≤ z.length := by
  show (cutS z lo hi).cps.toList.length ≤ z.cps.toList.length
  show (List.toArray (List.take (HT.sIx z.length z.length hi - HT.sIx z.length 0 lo) (List.drop (HT.sIx z.length 0 lo) z.cps.toList))).toList.length ≤ _
  rw [List.toList_toArray, List.length_take, List.length_drop]
  omega
def spSpoilt : Sp := fun vs H Q _ => ∃ (p : Addr) (z y : Str), vs = [.ref p, .str z, .str y] ∧ StAt H p ∧ z.length ≤ 20000 ∧ y.length ≤ 20000 ∧ ∀ (s : Str) H', s.length ≤ 90000 → Dr p H H' → Q (.str s) H'
theorem ok_spoilt : FnOk P w K mg base CX0 2 T.a_spoilt T.d_spoilt ["state", "text", "other"] spSpoilt := by
  refine T.f_spoilt.ok sc_spoilt (fun vs H Q E h => ?_) (fun cdv A outer s H vs Q E hr h => ?_)
  · obtain ⟨_, _, _, rfl, _⟩ := h; rfl
  · obtain ⟨p, z, y, rfl, hS, lz, ly, q⟩ := h
    have sz : 1000000 ≤ sizeLine := by decide
    refine ⟨_, (pss_cons (ps_set (i := 3) sc_spoilt.nd rfl (by first | exact Or.inl rfl | exact Or.inr rfl) (pe_callE (ok_next T) (hr.mono (by decide)) T.o_next (pa_cons (pv 0) (pa_cons (pe_op (kAdd K) (pe_callB (kLen K) (by rfl) T.nb_len (by decide +kernel) (pa_cons (pv 1) pa_nil)) pe_int) pa_nil))))
  (pss_cons (ps_set (i := 4) sc_spoilt.nd rfl (by first | exact Or.inl rfl | exact Or.inr rfl) (pe_ix (kIx K) pe_str (pe_callE (ok_next T) (hr.mono (by decide)) T.o_next (pa_cons (pv 0) (pa_cons pe_int pa_nil))) (fun _ _ => rfl)))
  (pss_cons (ps_set (i := 5) sc_spoilt.nd rfl (by first | exact Or.inl rfl | exact Or.inr rfl) (pe_callE (ok_next T) (hr.mono (by decide)) T.o_next (pa_cons (pv 0) (pa_cons pe_int pa_nil))))
  (pss_cons (ps_if (pt_cmpR (kEq K rfl hr.units) (pv 5) pe_int (by first | rfl | exact nomark _))
    (pss_one (ps_ret (pe_op (kAdd K) (pe_op (kAdd K) (pe_slice (kSl K) (pv 1) po_none (po_some (pv 3))) (pv 4)) (pe_slice (kSl K) (pv 1) (po_some (pv 3)) po_none))))
    pss_nil)
  (pss_cons (ps_if (pt_cmpR (kEq K rfl hr.units) (pv 5) pe_int (by first | rfl | exact nomark _))
    (pss_one (ps_ret (pe_op (kAdd K) (pe_slice (kSl K) (pv 1) po_none (po_some (pv 3))) (pe_slice (kSl K) (pv 1) (po_some (pe_op (kAdd K) (pv 3) pe_int)) po_none))))
    pss_nil)
  (pss_cons (ps_if (pt_cmpR (kEq K rfl hr.units) (pv 5) pe_int (by first | rfl | exact nomark _))
    (pss_one (ps_ret (pe_op (kAdd K) (pe_op (kAdd K) (pe_slice (kSl K) (pv 1) po_none (po_some (pv 3))) (pv 4)) (pe_slice (kSl K) (pv 1) (po_some (pe_op (kAdd K) (pv 3) pe_int)) po_none))))
    pss_nil)
  (pss_cons (ps_if (pt_cmpR (kEq K rfl hr.units) (pv 5) pe_int (by first | rfl | exact nomark _))
    (pss_one (ps_ret (pe_slice (kSl K) (pv 1) po_none (po_some (pv 3)))))
    pss_nil)
  (pss_cons (ps_if (pt_cmpR (kEq K rfl hr.units) (pv 5) pe_int (by first | rfl | exact nomark _))
    (pss_one (ps_ret (pe_op (kAdd K) (pe_op (kAdd K) (pv 1) (pe_ix (kIx K) (pe_lst (pa_cons pe_str (pa_cons pe_str pa_nil))) (pe_callE (ok_next T) (hr.mono (by decide)) T.o_next (pa_cons (pv 0) (pa_cons pe_int pa_nil))) (fun _ _ => rfl))) (pv 2))))
    pss_nil)
  (pss_cons (ps_set (i := 6) sc_spoilt.nd rfl (by first | exact Or.inl rfl | exact Or.inr rfl) (pe_op (kAdd K) pe_int (pe_callE (ok_next T) (hr.mono (by decide)) T.o_next (pa_cons (pv 0) (pa_cons pe_int pa_nil)))))
  (pss_one (ps_ret (pe_op (kAdd K) (pe_op (kAdd K) (pe_op op_mulPP pe_str (pv 6)) (pv 1)) (pe_op op_mulPP pe_str (pv 6)))))))))))))), ?_⟩
    walk_at "rc"
    refine rd_lenS (by omega) ?_
    walk_at "rc"
    refine ⟨p, _, rfl, by omega, hS, fun pl H1 p0 p1 S1 o1 i1 => ?_⟩
    have d1 : Dr p H H1 := ⟨S1, o1, i1.2⟩
    walk_at "rc"
    refine ⟨p, 18, rfl, by decide, S1, fun r H2 q0 q1 S2 o2 i2 => ?_⟩
    have d2 := d1.trans ⟨S2, o2, i2.2⟩
    have l18 : (Str.ofString "TF'() 019a-.,!+[b/").length = 18 := by decide +kernel
    obtain ⟨c, hc, _⟩ := at_str (z := Str.ofString "TF'() 019a-.,!+[b/") q0 (by rw [l18]; exact q1)
    refine rd_ixS (by rw [l18]; omega) hc ?_
    walk_at "rc"
    refine ⟨p, 6, rfl, by decide, S2, fun kd H3 k0 k1 S3 o3 i3 => ?_⟩
    have d3 := d2.trans ⟨S3, o3, i3.2⟩
    have l1 : (⟨#[c]⟩ : Str).length = 1 := rfl
    walk_at "rc"
    walk_at "rs"
    walk_at "rc"
    refine rd_iteD (fun h => ?_) fun h => ?_
    · walk_at "rc"
      refine rd_slS (z := z) (by omega) ?_
      have a1 := cutS_len z none (some pl)
      walk_at "rc"
      refine rd_addS (by omega) ?_
      walk_at "rc"
      refine rd_slS (z := z) (by omega) ?_
      have a2 := cutS_len z (some pl) none
      refine rd_addS (by rw [str_len']; omega) ?_
      exact q _ H3 (by rw [str_len', str_len']; omega) d3
    walk_at "rc"
    walk_at "rs"
    walk_at "rc"
    refine rd_iteD (fun h => ?_) fun h => ?_
    · walk_at "rc"
      refine rd_slS (z := z) (by omega) ?_
      have a1 := cutS_len z none (some pl)
      walk_at "rc"
      refine rd_slS (z := z) (by omega) ?_
      have a2 := cutS_len z (some (pl + 1)) none
      refine rd_addS (by omega) ?_
      exact q _ H3 (by rw [str_len']; omega) d3
    walk_at "rc"
    walk_at "rs"
    walk_at "rc"
    refine rd_iteD (fun h => ?_) fun h => ?_
    · walk_at "rc"
      refine rd_slS (z := z) (by omega) ?_
      have a1 := cutS_len z none (some pl)
      walk_at "rc"
      refine rd_addS (by omega) ?_
      walk_at "rc"
      refine rd_slS (z := z) (by omega) ?_
      have a2 := cutS_len z (some (pl + 1)) none
      refine rd_addS (by rw [str_len']; omega) ?_
      exact q _ H3 (by rw [str_len', str_len']; omega) d3
    walk_at "rc"
    walk_at "rs"
    walk_at "rc"
    refine rd_iteD (fun h => ?_) fun h => ?_
    · walk_at "rc"
      refine rd_slS (z := z) (by omega) ?_
      have a1 := cutS_len z none (some pl)
      exact q _ H3 (by omega) d3
    walk_at "rc"
    walk_at "rs"
    walk_at "rc"
    refine rd_iteD (fun h => ?_) fun h => ?_
    · walk_at "rc"
      refine ⟨by show 2 ≤ sizeLine; omega, fun L hL => ?_⟩
      have eL := Evl.Ex.new (o := .lst [.str (Str.ofString " "), .str (Str.ofString "")]) hL
      have d4 := d3.ex eL
      have nLp : L ≠ p := fun z => by
        obtain ⟨o, ho⟩ := S3.some
        rw [z, ho] at hL; cases hL
      have hL1 : upd H3 L (.lst [.str (Str.ofString " "), .str (Str.ofString "")]) L = some (.lst [.str (Str.ofString " "), .str (Str.ofString "")]) := upd_same
      generalize upd H3 L (.lst [.str (Str.ofString " "), .str (Str.ofString "")]) = H4 at eL d4 hL1
      walk_at "rc"
      refine ⟨p, 2, rfl, by decide, d4.st, fun r5 H5 r50 r51 S5 o5 i5 => ?_⟩
      have d5 := d4.trans ⟨S5, o5, i5.2⟩
      have hL5 := o5 L _ nLp hL1
      obtain ⟨n5, rfl⟩ := Int.eq_ofNat_of_zero_le r50
      have n5c : n5 = 0 ∨ n5 = 1 := by omega
      rcases n5c with rfl | rfl
      · refine rd_ixL (SqL.of hL5) (atI_nat (j := 0) rfl) ?_
        have hx : (Str.ofString " ").length ≤ 1 := by decide +kernel
        refine rd_addS (by omega) ?_
        walk_at "rc"
        refine rd_addS (by rw [str_len']; omega) ?_
        exact q _ H5 (by rw [str_len', str_len']; omega) d5
      · refine rd_ixL (SqL.of hL5) (atI_nat (j := 1) rfl) ?_
        have hx : (Str.ofString "").length ≤ 1 := by decide +kernel
        refine rd_addS (by omega) ?_
        walk_at "rc"
        refine rd_addS (by rw [str_len']; omega) ?_
        exact q _ H5 (by rw [str_len', str_len']; omega) d5
    walk_at "rc"
    refine ⟨p, 4, rfl, by decide, S3, fun mn H4 m0 m1 S4 o4 i4 => ?_⟩
    have d4 := d3.trans ⟨S4, o4, i4.2⟩
    walk_at "rc"
    obtain ⟨k, rfl⟩ := Int.eq_ofNat_of_zero_le m0
    have ek : (6 : Int) + (k : Int) = ((6 + k : Nat) : Int) := by omega
    rw [ek]
    have lo : ∀ j, j < 4 → (Txt.mul (Str.ofString "(") ((6 + j : Nat) : Int)).length ≤ 9 := by decide +kernel
    have lc : ∀ j, j < 4 → (Txt.mul (Str.ofString ")") ((6 + j : Nat) : Int)).length ≤ 9 := by decide +kernel
    have h1 := lo k (by omega)
    have h2 := lc k (by omega)
    refine rd_mulT (mulOk1 (by decide +kernel) (by omega)) ?_
    walk_at "rc"
    refine rd_addS (by omega) ?_
    walk_at "rc"
    refine rd_mulT (mulOk1 (by decide +kernel) (by omega)) ?_
    refine rd_addS (by rw [str_len']; omega) ?_
    exact q _ H4 (by rw [str_len', str_len']; omega) d4
end
section
theorem joinS_len (sep : Str) : ∀ ss : List Str, (Str.join sep ss).length ≤ (ss.map fun s => s.length + sep.length).sum
  | [] => by unfold Str.join; exact Nat.zero_le _
  | [x] => by
    unfold Str.join
    simp
  | x :: y :: r => by
    have ih := joinS_len sep (y :: r)
    unfold Str.join
    rw [TL.len_tl, TL.tl_append, TL.tl_append, List.length_append, List.length_append, ← TL.len_tl, ← TL.len_tl, ← TL.len_tl]
    rw [List.map_cons, List.sum_cons]
    omega
theorem tupleS_len (ss : List Str) : (tupleText ss).length ≤ (ss.map fun s => s.length + 2).sum + 3 := by
  have j := joinS_len (Str.ofString ", ") ss
  have e2 : (Str.ofString ", ").length = 2 := by decide +kernel
  rw [e2] at j
  unfold tupleText
  rw [TL.len_tl, TL.tl_append, TL.tl_append, List.length_append, List.length_append, ← TL.len_tl, ← TL.len_tl, ← TL.len_tl]
  have e1 : (Str.ofString "(").length = 1 := by decide +kernel
  have e3 : (Str.ofString (if (ss.length == 1) = true then ",)" else ")")).length ≤ 2 := by
    cases (ss.length == 1) <;> decide +kernel
  omega
/-- what may be shown of a value -/
structure Osh (d : PyData) (n : Nat) : Prop where
  sh : d.showable = true
  nd : d.hasDict = false
  dp : d.depth ≤ n
  ln : d.shown.length ≤ 12 * (W d).length
mutual
theorem osh_V : ∀ (x : PyData) {n : Nat}, PV x n → Osh x n
  | .bool b, n, _ => ⟨rfl, rfl, Nat.zero_le _, by cases b <;> decide +kernel⟩
  | .int i, n, h => by
    obtain ⟨k, rfl, hk⟩ := PV_int h
    have lg : Nat.log2 k < 1920 := by
      rcases Nat.eq_zero_or_pos k with rfl | h0
      · decide
      · exact (Nat.log2_lt (by omega)).mpr (Nat.lt_of_lt_of_le hk (by decide +kernel))
    refine ⟨decide_eq_true lg, rfl, Nat.zero_le _, ?_⟩
    show (Str.ofString (toString (k : Int))).length ≤ 12 * (wI (k : Int)).length
    show (wI (k : Int)).length ≤ _
    omega
  | .str s, n, h => by
    have o := Okd.str (z := s) (PV_str h)
    refine ⟨o.sh, o.nd, Nat.zero_le _, ?_⟩
    have := o.ln
    show _ ≤ 12 * (39 :: (s.cps.toList ++ [39])).length
    rw [List.length_cons, List.length_append]
    have e : s.cps.toList.length = s.length := rfl
    rw [e]
    show _ ≤ 12 * (s.length + 1 + 1)
    omega
  | .tuple ds, 0, h => h.elim
  | .tuple ds, n + 1, h => by
    obtain ⟨a, b, c, d⟩ := osh_L ds (n := n) h
    refine ⟨a, b, Nat.succ_le_succ c, ?_⟩
    have t := tupleS_len (PyData.shownAll ds)
    show (tupleText (PyData.shownAll ds)).length ≤ 12 * (40 :: (WL ds ++ [41])).length
    have e : 12 * (WR ds).length ≤ 12 * (WL ds).length + 12 := by
      cases ds with
      | nil => exact Nat.zero_le _
      | cons x xs =>
        rw [WL_cons]
        show 12 * (32 :: (W x ++ WR xs)).length ≤ _
        rw [List.length_cons]
        omega
    rw [List.length_cons, List.length_append]
    show _ ≤ 12 * ((WL ds).length + 1 + 1)
    omega
  | .none, n, h => by cases n <;> exact h.elim
  | .list _, n, h => by cases n <;> exact h.elim
  | .dict _, n, h => by cases n <;> exact h.elim
theorem osh_L : ∀ (xs : List PyData) {n : Nat}, PVL xs n → PyData.showableAll xs = true ∧ PyData.hasDictAll xs = false ∧ PyData.depthAll xs ≤ n ∧ ((PyData.shownAll xs).map fun s => s.length + 2).sum ≤ 12 * (WR xs).length
  | [], n, _ => ⟨rfl, rfl, Nat.zero_le _, Nat.zero_le _⟩
  | x :: xs, n, h => by
    have hx := osh_V x h.1
    obtain ⟨a, b, c, d⟩ := osh_L xs h.2
    refine ⟨?_, ?_, ?_, ?_⟩
    · show (x.showable && PyData.showableAll xs) = true
      rw [hx.sh, a]; rfl
    · show (x.hasDict || PyData.hasDictAll xs) = false
      rw [hx.nd, b]; rfl
    · show max x.depth (PyData.depthAll xs) ≤ n
      exact Nat.max_le.mpr ⟨hx.dp, c⟩
    · show ((x.shown :: PyData.shownAll xs).map fun s => s.length + 2).sum ≤ _
      rw [List.map_cons, List.sum_cons]
      have := hx.ln
      show _ ≤ 12 * (32 :: (W x ++ WR xs)).length
      rw [List.length_cons, List.length_append]
      omega
end
theorem call_repr_st {X : Cx} : CallR X (.builtin "repr") (fun xs H Q => ∃ b : Str, xs = [.str b] ∧ (reprText b).length ≤ sizeLine ∧ Q (.str (reprText b)) H) := by
  intro pins s σ H xs us Q I r h
  obtain ⟨b, rfl, hl, q⟩ := h
  obtain ⟨u, rfl, ru⟩ := vals1 r
  obtain ⟨t, rfl⟩ := (show ∃ t, u = Value.str b t from ru)
  exact PySem.P.repr_of_str ⟨.str _, H, I.tok _, ⟨_, rfl⟩, q⟩ hl
def cReprV (K : PySem.W.Frag) : List V → Hp → VK → Prop := fun xs H Q => cReprD K xs H Q ∨ ∃ b : Str, xs = [.str b] ∧ (reprText b).length ≤ sizeLine ∧ Q (.str (reprText b)) H
theorem kReprV {X : Cx} (K : PySem.W.Frag) (hg : X.A.guards = some []) (hu : X.A.units + 64 < cLine) (hK : X.K = K := by rfl) : CallR X (.builtin "repr") (cReprV K) := hK ▸ CallR.or (call_reprD hg hu) call_repr_st
theorem rd_reprV {K : PySem.W.Frag} {v : V} {d : PyData} {n : Nat} {H : Hp} {Q : VK} (hv : Dp K H v d) (hp : PV d n) (hn : n ≤ 60) (hw : (W d).length ≤ 90000) (q : Q (.str d.shown) H) : cReprV K [v] H Q := by
  have sz : 2000000 ≤ sizeLine := by decide
  have o := osh_V d hp
  cases d with
  | bool b =>
    cases Dp.bl_iff hv
    refine .inl (.inl (.inr ⟨b, rfl, ?_⟩))
    have e : (PyData.bool b).shown = if b = true then Str.ofString "True" else Str.ofString "False" := by cases b <;> decide +kernel
    rw [← e]; exact q
  | int i =>
    cases Dp.int_iff hv
    exact .inl (.inl (.inl ⟨i, rfl, of_decide_eq_true o.sh, q⟩))
  | str s =>
    cases Dp.str_iff hv
    have := o.ln
    exact .inr ⟨s, rfl, (by show (PyData.str s).shown.length ≤ _; omega), q⟩
  | tuple ds =>
    obtain ⟨a, vs, rfl, hs, hds⟩ := Dp.tupv hv
    have := o.ln
    exact .inl (.inr ⟨a, _, rfl, hv, o.sh, o.nd, Nat.le_trans o.dp hn, by omega, q⟩)
  | none => cases n <;> exact hp.elim
  | list _ => cases n <;> exact hp.elim
  | dict _ => cases n <;> exact hp.elim
end
section
theorem PV_mono : ∀ (n : Nat) {x : PyData} {m : Nat}, PV x n → n ≤ m → PV x m
  | 0, .bool _, m, h, _ => by cases m <;> exact h
  | 0, .int _, m, h, _ => by cases m <;> exact h
  | 0, .str _, m, h, _ => by cases m <;> exact h
  | n + 1, .bool _, m, h, _ => by cases m <;> exact h
  | n + 1, .int _, m, h, _ => by cases m <;> exact h
  | n + 1, .str _, m, h, _ => by cases m <;> exact h
  | 0, .tuple _, _, h, _ => h.elim
  | n + 1, .tuple ds, m, h, hm => by
    obtain ⟨k, rfl⟩ : ∃ k, m = k + 1 := ⟨m - 1, by omega⟩
    have key : ∀ ds : List PyData, PVL ds n → PVL ds k := by
      intro ds
      induction ds with
      | nil => exact fun _ => True.intro
      | cons x xs ih => exact fun h => ⟨PV_mono n h.1 (by omega), ih h.2⟩
    exact key ds h
  | 0, .none, _, h, _ => h.elim
  | 0, .list _, _, h, _ => h.elim
  | 0, .dict _, _, h, _ => h.elim
  | n + 1, .none, _, h, _ => h.elim
  | n + 1, .list _, _, h, _ => h.elim
  | n + 1, .dict _, _, h, _ => h.elim
theorem dpAll_at {K : PySem.W.Frag} {H : Hp} : ∀ {vs : List V} {ds : List PyData} {i : Nat} {v : V}, DpAll K H vs ds → vs[i]? = some v → ∃ d, ds[i]? = some d ∧ Dp K H v d
  | _, _, _, _, .nil, h => by simp at h
  | _, _, 0, v, .cons a b, h => by
    rw [List.getElem?_cons_zero] at h
    cases h
    exact ⟨_, rfl, a⟩
  | _, _, i + 1, v, .cons a b, h => by
    obtain ⟨d, h1, h2⟩ := dpAll_at b (i := i) (by simpa using h)
    exact ⟨d, by simpa using h1, h2⟩
theorem dpAll_len {K : PySem.W.Frag} {H : Hp} : ∀ {vs : List V} {ds : List PyData}, DpAll K H vs ds → vs.length = ds.length
  | _, _, .nil => rfl
  | _, _, .cons _ b => by rw [List.length_cons, List.length_cons, dpAll_len b]
structure Rw (K : PySem.W.Frag) (H0 : Hp) (p l : Addr) (vs : List V) (ds : List PyData) (H : Hp) : Prop where
  o : Dr p H0 H
  hl : H l = some (.lst vs)
  n : l ≠ p
  d : DpAll K (hid [p, l] H) vs ds
  b : ∀ x ∈ ds, PV x 8 ∧ (W x).length ≤ 13400
theorem Rw.ex {K : PySem.W.Frag} {H0 : Hp} {p l : Addr} {vs : List V} {ds : List PyData} {H H' : Hp} (h : Rw K H0 p l vs ds H) (e : Ex H H') : Rw K H0 p l vs ds H' := ⟨h.o.ex e, e _ _ h.hl, h.n, dpAll_ex (Ex.hid e) h.d, h.b⟩
theorem Dr.hid2 {p l : Addr} {H H' : Hp} (d : Dr p H H') : Ex (hid [p, l] H) (hid [p, l] H') := fun b o z => by
  obtain ⟨z1, z2⟩ := hid_some z
  rw [hid_at z1]
  exact d.old b o (fun e => z1 (by rw [e]; exact List.mem_cons_self)) z2
theorem Rw.dr {K : PySem.W.Frag} {H0 : Hp} {p l : Addr} {vs : List V} {ds : List PyData} {H H' : Hp} (h : Rw K H0 p l vs ds H) (d : Dr p H H') : Rw K H0 p l vs ds H' := ⟨h.o.trans d, d.old _ _ h.n h.hl, h.n, dpAll_ex d.hid2 h.d, h.b⟩
theorem Rw.at' {K : PySem.W.Frag} {H0 : Hp} {p l : Addr} {vs : List V} {ds : List PyData} {H : Hp} (h : Rw K H0 p l vs ds H) {i : Nat} {v : V} (hv : vs[i]? = some v) : ∃ x, ds[i]? = some x ∧ Dp K H v x ∧ PV x 8 ∧ (W x).length ≤ 13400 := by
  obtain ⟨x, h1, h2⟩ := dpAll_at h.d hv
  exact ⟨x, h1, h2.ex hid_ex, h.b x (List.mem_of_getElem? h1)⟩
theorem Rw.st' {K : PySem.W.Frag} {H0 : Hp} {p l : Addr} {vs : List V} {ds : List PyData} {H : Hp} (h : Rw K H0 p l vs ds H) : ∀ b ∈ [p, l], ∃ o, H b = some o := fun b hb => by
  rcases List.mem_cons.mp hb with e | e
  · rw [e]; exact h.o.st.some
  · rw [List.mem_singleton.mp e]; exact ⟨_, h.hl⟩
theorem BW5 : BW 5 = 13310 := by decide +kernel
theorem BW_mono {a b : Nat} (h : a ≤ b) : BW a ≤ BW b := by
  induction h with
  | refl => exact Nat.le_refl _
  | step _ ih => show _ ≤ 4 * (BW _ + 1) + 2; omega
theorem run_W {x : PyData} (h : PV x 8) : Run (W x) 0 .val 0 none := by
  refine cons_V x (z := W x) (d := 0) (p := 0) (t := []) h (by decide) (by rw [List.append_nil]; rfl) (fun c hc => nomatch hc) (.fin ?_)
  exact stp_read (List.getElem?_eq_none (by omega))
theorem W_inj {x y : PyData} (hx : PV x 8) (hy : PV y 8) (e : W x = W y) : x = y :=
  (inj_V x y (s := []) (t := []) hx hy (by rw [e]) (fun c hc => nomatch hc) (fun c hc => nomatch hc)).1
variable (T : Txt K mg)
abbrev lvLaw := 27

def spLaw (K : PySem.W.Frag) : Sp := fun vs H Q _ => ∃ (a : Addr) (ns : List Int), vs = [.ref a] ∧ SqL K H a (ns.map V.int) ∧ ns.length ≤ 63 ∧ ∀ H', Q (.bl true) H'
theorem ok_law : FnG P w K mg base CX0 lvLaw T.a_law T.d_law ["script"] (spLaw K) := by
  refine T.f_law.okG sc_law (fun vs H Q E h => ?_) (fun cdv A outer s H vs Q E hg hr h => ?_)
  · obtain ⟨_, _, rfl, _⟩ := h; rfl
  · obtain ⟨a, ns, rfl, hs, hn, q⟩ := h
    have sz : 2000000 ≤ sizeLine := by decide
    refine ⟨_, (pss_cons (ps_set (i := 1) sc_law.nd rfl (by first | exact Or.inl rfl | exact Or.inr rfl) (pe_callE (ok_state T) (hr.mono (by decide)) T.o_state (pa_cons (pv 0) (pa_cons pe_int (pa_cons pe_int pa_nil)))))
  (pss_cons (ps_set (i := 2) sc_law.nd rfl (by first | exact Or.inl rfl | exact Or.inr rfl) (pe_lst pa_nil))
  (pss_cons (ps_for PassesOwn.never rfl (pi_range1 (by rfl) T.nb_range (pa_cons pe_int pa_nil)) (pg_name (i := 3) sc_law.nd rfl (by first | exact Or.inl rfl | exact Or.inr rfl))
    (pss_cons (ps_set (i := 4) sc_law.nd rfl (by first | exact Or.inl rfl | exact Or.inr rfl) (pe_callE (ok_value T) (hr.mono (by decide)) T.o_value (pa_cons (pv 1) (pa_cons (pe_op (kAdd K) pe_int (pe_callE (ok_next T) (hr.mono (by decide)) T.o_next (pa_cons (pv 1) (pa_cons pe_int pa_nil)))) pa_nil))))
  (pss_cons (ps_for PassesOwn.never rfl (pi_range1 (by rfl) T.nb_range (pa_cons (pe_callE (ok_next T) (hr.mono (by decide)) T.o_next (pa_cons (pv 1) (pa_cons pe_int pa_nil))) pa_nil)) (pg_name (i := 5) sc_law.nd rfl (by first | exact Or.inl rfl | exact Or.inr rfl))
    (pss_one (ps_set (i := 4) sc_law.nd rfl (by first | exact Or.inl rfl | exact Or.inr rfl) (pe_tup (pa_cons (pv 4) pa_nil)))))
  (pss_one (ps_expr (kBm K rfl (pe_bm PySem.F.plainAttrs_list PySem.F.slot_list_append PySem.F.type_list_append mt_append (pv 2) (pa_cons (pv 4) pa_nil))))))))
  (pss_cons (ps_setLc (i := 6) (own := [("value", 4)]) (g := gName 4) (tt := tYes) (by rfl) sc_law.nd rfl rfl (sw_true rfl rfl rfl (by decide +kernel)) (kAny K rfl (pv 2)) (blkOk_by (own := [("value", 4)]) (N := ["script", "state", "rows", "k", "value", "turn", "texts", "told", "spoilt", "due"]) (sc := defScope s_law) (by decide +kernel)) (fun _ _ _ _ _ => (pg_name (i := 4) sc_law.nd rfl (by first | exact Or.inl rfl | exact Or.inr rfl))) (fun _ _ _ _ _ => pts_nil) (fun _ _ _ _ _ => (pe_callE (ok_written T) (hr.mono (by decide)) T.o_written (pa_cons (pv 4) pa_nil))))
  (pss_cons (ps_for PassesOwn.never rfl (pi_range1 (by rfl) T.nb_range (pa_cons pe_int pa_nil)) (pg_name (i := 3) sc_law.nd rfl (by first | exact Or.inl rfl | exact Or.inr rfl))
    (pss_cons (ps_if (pt_cmpR (kNe K rfl hr.units) (pe_callE (ok_write_value T) (hr.mono (by decide)) T.o_write_value (pa_cons (pe_ix (kIx K) (pv 2) (pv 3) (fun _ _ => rfl)) pa_nil)) (pe_ix (kIx K) (pv 6) (pv 3) (fun _ _ => rfl)) (by first | rfl | exact nomark _))
    (pss_one (ps_ret pe_bl))
    pss_nil)
  (pss_cons (ps_set (i := 7) sc_law.nd rfl (by first | exact Or.inl rfl | exact Or.inr rfl) (pe_callE (ok_read T) (hr.mono (by decide)) T.o_read (pa_cons (pe_ix (kIx K) (pv 6) (pv 3) (fun _ _ => rfl)) pa_nil)))
  (pss_cons (ps_if (PW.pt (pw_or (pt_cmpR (kNe K rfl hr.units) (pe_ix (kIx K) (pv 7) pe_int (fun _ _ => rfl)) pe_str (by first | rfl | exact nomark _)) (pw_or1 (pt_cmpR (kNe K rfl hr.units) (pe_callB (kReprV K hg hr.units) (by rfl) T.nb_repr (by decide +kernel) (pa_cons (pe_ix (kIx K) (pv 7) pe_int (fun _ _ => rfl)) pa_nil)) (pe_callB (kReprV K hg hr.units) (by rfl) T.nb_repr (by decide +kernel) (pa_cons (pe_ix (kIx K) (pv 2) (pv 3) (fun _ _ => rfl)) pa_nil)) (by first | rfl | exact nomark _)))))
    (pss_one (ps_ret pe_bl))
    pss_nil)
  (pss_one (ps_for PassesOwn.never rfl (pi_range1 (by rfl) T.nb_range (pa_cons pe_int pa_nil)) (pg_name (i := 5) sc_law.nd rfl (by first | exact Or.inl rfl | exact Or.inr rfl))
    (pss_cons (ps_set (i := 8) sc_law.nd rfl (by first | exact Or.inl rfl | exact Or.inr rfl) (pe_callE (ok_spoilt T) (hr.mono (by decide)) T.o_spoilt (pa_cons (pv 1) (pa_cons (pe_ix (kIx K) (pv 6) (pv 3) (fun _ _ => rfl)) (pa_cons (pe_ix (kIx K) (pv 6) (pe_op op_modP (pe_op (kAdd K) (pv 3) pe_int) pe_int) (fun _ _ => rfl)) pa_nil)))))
  (pss_cons (ps_set (i := 9) sc_law.nd rfl (by first | exact Or.inl rfl | exact Or.inr rfl) (pe_callE (ok_due T) (hr.mono (by decide)) T.o_due (pa_cons (pv 8) pa_nil)))
  (pss_cons (ps_set (i := 7) sc_law.nd rfl (by first | exact Or.inl rfl | exact Or.inr rfl) (pe_callE (ok_read T) (hr.mono (by decide)) T.o_read (pa_cons (pv 8) pa_nil)))
  (pss_cons (ps_if (PW.pt (pw_or (pt_cmpR (kNe K rfl hr.units) (pe_ix (kIx K) (pv 7) pe_int (fun _ _ => rfl)) (pe_ix (kIx K) (pv 9) pe_int (fun _ _ => rfl)) (by first | rfl | exact nomark _)) (pw_or1 (PW.pt (pw_and (pt_cmpR (kEq K rfl hr.units) (pe_ix (kIx K) (pv 9) pe_int (fun _ _ => rfl)) pe_str (by first | rfl | exact nomark _)) (pw_and1 (pt_cmpR (kNe K rfl hr.units) (pv 7) (pv 9) (by first | rfl | exact nomark _))))))))
    (pss_one (ps_ret pe_bl))
    pss_nil)
  (pss_one (ps_if (PW.pt (pw_and (pt_cmpR (kEq K rfl hr.units) (pe_ix (kIx K) (pv 9) pe_int (fun _ _ => rfl)) pe_str (by first | rfl | exact nomark _)) (pw_and1 (pt_cmpR (kNe K rfl hr.units) (pe_callE (ok_write_value T) (hr.mono (by decide)) T.o_write_value (pa_cons (pe_ix (kIx K) (pv 7) pe_int (fun _ _ => rfl)) pa_nil)) (pv 8) (by first | rfl | exact nomark _)))))
    (pss_one (ps_ret pe_bl))
    pss_nil))))))))))))
  (pss_one (ps_ret (pe_cmpR (kEq K rfl hr.units) (pe_callE (ok_read T) (hr.mono (by decide)) T.o_read (pa_cons pe_str pa_nil)) (pe_tup (pa_cons pe_str (pa_cons pe_int pa_nil))) (by first | rfl | exact nomark _))))))))), ?_⟩
    walk_at "rc"
    refine ⟨a, ns, 0, 10, rfl, hs, by decide, by decide, by decide, by decide, fun p H1 hp e1 S1 => ?_⟩
    walk_at "rc"
    refine ⟨Nat.zero_le _, fun l hl => ?_⟩
    have nlp : l ≠ p := fun z => by
      obtain ⟨o, ho⟩ := S1.some
      rw [z, ho] at hl; cases hl
    have R2 : Rw K H1 p l [] [] (upd H1 l (.lst [])) := ⟨(Dr.refl S1).ex (Evl.Ex.new hl), upd_same, nlp, .nil, fun x h => nomatch h⟩
    generalize upd H1 l (.lst []) = H2 at R2
    clear hp e1
    walk_at "rc"
    walk_at "rs"
    walk_at "rc"
    refine ⟨3, rfl, by decide, by decide, ?_⟩
    refine fo_range (n := 3) (fun i σ H' => ∃ (vs : List V) (ds : List PyData) (k3 k4 k5 : Option V), σ = [some (.ref a), some (.ref p), some (.ref l), k3, k4, k5, none, none, none, none] ∧ Rw K H1 p l vs ds H' ∧ vs.length = i)
      ⟨[], [], _, _, _, rfl, R2, rfl⟩ ?_ ?_
    · rintro i σ H3 hi ⟨vs, ds, k3, k4, k5, rfl, R3, hlen⟩
      walk_at "rc"
      refine ⟨p, 5, rfl, by decide, R3.o.st, fun r H4 r0 r1 S4 o4 i4 => ?_⟩
      have R4 := R3.dr ⟨S4, o4, i4.2⟩
      obtain ⟨r, rfl⟩ := Int.eq_ofNat_of_zero_le r0
      walk_at "rc"
      rw [show (1 : Int) + (r : Int) = ((1 + r : Nat) : Int) by omega]
      refine ⟨1 + r, by omega, p, [p, l], rfl, R4.o.st, List.mem_cons_self, R4.st', by omega, fun v dt H5 hk d5 => ?_⟩
      have R5 := R4.dr d5
      obtain ⟨hv5, hp5, hw5⟩ := hk
      have hp5 := PV_mono (1 + r) hp5 (show 1 + r ≤ 5 by omega)
      have hw5 : (W dt).length ≤ 13310 := Nat.le_trans hw5 (BW5 ▸ BW_mono (by omega))
      walk_at "rc"
      walk_at "rs"
      walk_at "rc"
      refine ⟨p, 4, rfl, by decide, R5.o.st, fun t H6 t0 t1 S6 o6 i6 => ?_⟩
      have d6 : Dr p H5 H6 := ⟨S6, o6, i6.2⟩
      have R6 := R5.dr d6
      obtain ⟨t, rfl⟩ := Int.eq_ofNat_of_zero_le t0
      walk_at "rc"
      refine ⟨_, rfl, by omega, by omega, ?_⟩
      rw [Int.toNat_natCast]
      refine fo_range (fun j σ H' => ∃ (v : V) (dt : PyData) (k5 : Option V), σ = [some (.ref a), some (.ref p), some (.ref l), some (.int (i : Int)), some v, k5, none, none, none, none] ∧ Rw K H1 p l vs ds H' ∧ Dp K (hid [p, l] H') v dt ∧ PV dt (5 + j) ∧ (W dt).length ≤ 13310 + 2 * j)
        ⟨v, dt, _, rfl, R6, hv5.ex d6.hid2, hp5, hw5⟩ ?_ ?_
      · rintro j σ H7 hj ⟨v, dt, k5, rfl, R7, hv7, hp7, hw7⟩
        walk_at "rc"
        refine ⟨by show 1 ≤ sizeLine; omega, fun tp htp => ?_⟩
        have e8 := Evl.Ex.new (o := .tup [v]) htp
        have ntp : tp ∉ [p, l] := fun z => by
          obtain ⟨o, ho⟩ := R7.st' tp z
          rw [htp] at ho; cases ho
        refine ⟨.ref tp, .tuple [dt], _, rfl, R7.ex e8, .tup (Evl.st_of (by rw [hid_at ntp]; exact upd_same)) (.cons (hv7.ex (Ex.hid e8)) .nil), ⟨hp7, True.intro⟩, ?_⟩
        show (40 :: (W dt ++ [41])).length ≤ _
        rw [List.length_cons, List.length_append]
        show (W dt).length + 1 + 1 ≤ _
        omega
      · rintro σ H7 ⟨v, dt, k5, rfl, R7, hv7, hp7, hw7⟩
        walk_at "rc"
        refine ⟨.inl ⟨rfl, _, SqL.of R7.hl⟩, ?_⟩
        walk_at "rc"
        refine ⟨l, _, _, rfl, rfl, R7.hl, by omega, ?_⟩
        refine ⟨vs ++ [v], ds ++ [dt], _, _, _, rfl, ⟨Dr.put S1 R7.o hl, upd_same, R7.n, ?_, fun x hx => ?_⟩, by rw [List.length_append, hlen]; rfl⟩
        · refine dpAll_ex (fun b o z => ?_) (dpAll_app hv7 R7.d)
          obtain ⟨z1, z2⟩ := hid_some z
          rw [hid_at z1, upd_ne (fun e => z1 (by rw [e]; exact List.mem_cons_of_mem _ List.mem_cons_self))]
          exact z2
        · rcases List.mem_append.mp hx with z | z
          · exact R7.b x z
          · rw [List.mem_singleton.mp z]
            exact ⟨PV_mono _ hp7 (by omega), by omega⟩
    · rintro σ H3 ⟨vs, ds, k3, k4, k5, rfl, R3, hlen⟩
      have hdl := dpAll_len R3.d
      walk_at "rc"
      refine rd_anyL' ?_
      walk_at "rc"
      refine ⟨l, rfl, ⟨_, SqL.of R3.hl⟩, ?_⟩
      refine lc_x (j := 4) walk_list (fun Hc e => SqL.of (e _ _ R3.hl)) (by omega) (fun v => rfl) (fun i => .str (WS (ds.getD i .none))) (fun i x Hc H' hi ec y => ?_) fun t H4 e4 ht ht4 => ?_
      · obtain ⟨rfl, hx⟩ := y
        obtain ⟨dd, hdd, hdx, hpx, hwx⟩ := R3.at' hx
        refine ⟨rfl, fun N hN => ?_⟩
        walk_at "rc"
        refine ⟨x, dd, rfl, hdx.ex ec, hpx, by omega, fun H2 e2 => ?_⟩
        have := hN H2 e2
        rw [List.getD_eq_getElem?_getD, hdd] at this
        exact this
      have ht4 : H4 t = some (.lst ((List.range 3).map fun i => V.str (WS (ds.getD i .none)))) := by rw [ht4, hlen]
      have ntp : t ≠ p := fun z => by
        obtain ⟨o, ho⟩ := R3.o.st.some
        rw [z, ho] at ht; cases ht
      have R4 := R3.ex e4
      clear R3 ht e4
      walk_at "rc"
      walk_at "rs"
      walk_at "rc"
      refine ⟨3, rfl, by decide, by decide, ?_⟩
      refine fo_range (n := 3) (fun k σ H' => ∃ (k3 k4 k5 k7 k8 k9 : Option V), σ = [some (.ref a), some (.ref p), some (.ref l), k3, k4, k5, some (.ref t), k7, k8, k9] ∧ Rw K H1 p l vs ds H' ∧ H' t = some (.lst ((List.range 3).map fun i => V.str (WS (ds.getD i .none)))))
        ⟨_, _, _, _, _, _, rfl, R4, ht4⟩ ?_ ?_
      · rintro k σ H5 hk ⟨k3, k4, k5, k7, k8, k9, rfl, R5, ht5⟩
        obtain ⟨v, hv⟩ : ∃ v, vs[k]? = some v := ⟨_, List.getElem?_eq_getElem (by omega)⟩
        obtain ⟨x, hx, hdx, hpx, hwx⟩ := R5.at' hv
        have tat : ∀ j y, j < 3 → ds[j]? = some y → ((List.range 3).map fun i => V.str (WS (ds.getD i .none)))[j]? = some (V.str (WS y)) := fun j y hj hy => by
          rw [List.getElem?_map, List.getElem?_range hj]
          show some (V.str (WS (ds.getD j .none))) = _
          rw [List.getD_eq_getElem?_getD, hy]; rfl
        have lx : (WS x).length ≤ 13400 := by rw [WS_len]; exact hwx
        walk_at "rc"
        walk_at "rs"
        walk_at "rc"
        refine rd_ixL (SqL.of R5.hl) (atI_nat (j := k) hv) ?_
        walk_at "rc"
        refine ⟨v, x, rfl, hdx, hpx, by omega, fun H6 e6 => ?_⟩
        have R6 := R5.ex e6
        have ht6 := e6 _ _ ht5
        walk_at "rc"
        refine rd_ixL (SqL.of ht6) (atI_nat (j := k) (tat k x hk hx)) ?_
        walk_at "rc"
        refine rd_iteN (fun z => absurd rfl z) fun _ => ?_
        walk_at "rc"
        refine rd_ixL (SqL.of ht6) (atI_nat (j := k) (tat k x hk hx)) ?_
        walk_at "rc"
        refine ⟨WS x, rfl, by omega, fun dt ta H7 hdt hpt hzt hrt e7 => ?_, fun qq ta H7 hdt hrt e7 => ?_⟩
        case refine_2 =>
          rw [WS_list] at hrt
          exact absurd ((run_W hpx).det hrt) (fun z => nomatch z)
        rw [WS_list] at hzt
        have edt := W_inj hpx hpt hzt
        subst edt
        have R7 := R6.ex e7
        have ht7 := e7 _ _ ht6
        have hdx7 := (hdx.ex e6).ex e7
        walk_at "rc"
        walk_at "rs"
        walk_at "rc"
        refine rd_ixDT (Evl.Ex.refl H7) hdt (i := 0) (d := .str "read") rfl fun v0 hv0 => ?_
        cases Dp.str_iff hv0
        walk_at "rc"
        refine rd_iteN (fun z => absurd rfl z) fun _ => ?_
        walk_at "rc"
        refine rd_ixDT (Evl.Ex.refl H7) hdt (i := 1) (d := x) rfl fun v1 hv1 => ?_
        walk_at "rc"
        refine rd_reprV hv1 hpx (by decide) (by omega) ?_
        walk_at "rc"
        refine rd_ixL (SqL.of R7.hl) (atI_nat (j := k) hv) ?_
        walk_at "rc"
        refine rd_reprV hdx7 hpx (by decide) (by omega) ?_
        walk_at "rc"
        refine rd_iteN (fun z => absurd rfl z) fun _ => ?_
        walk_at "rc"
        refine ⟨8, rfl, by decide, by decide, ?_⟩
        refine fo_range (n := 8) (fun _ σ H' => ∃ (k4 k5 k7 k8 k9 : Option V), σ = [some (.ref a), some (.ref p), some (.ref l), some (.int (k : Int)), k4, k5, some (.ref t), k7, k8, k9] ∧ Rw K H1 p l vs ds H' ∧ H' t = some (.lst ((List.range 3).map fun i => V.str (WS (ds.getD i .none)))))
          ⟨_, _, _, _, _, rfl, R7, ht7⟩ ?_ ?_
        · rintro j σ H8 _ ⟨k4, k5, k7, k8, k9, rfl, R8, ht8⟩
          obtain ⟨y, hy⟩ : ∃ y, ds[(k + 1) % 3]? = some y := ⟨_, List.getElem?_eq_getElem (by omega)⟩
          have hby := R8.b y (List.mem_of_getElem? hy)
          have ly : (WS y).length ≤ 13400 := by rw [WS_len]; exact hby.2
          have em : ((k : Int) + 1).fmod 3 = (((k + 1) % 3 : Nat) : Int) := by
            have : k = 0 ∨ k = 1 ∨ k = 2 := by omega
            rcases this with rfl | rfl | rfl <;> rfl
          walk_at "rc"
          refine rd_ixL (SqL.of ht8) (atI_nat (j := k) (tat k x hk hx)) ?_
          walk_at "rc"
          refine rd_modI (by decide) ?_
          rw [em]
          refine rd_ixL (SqL.of ht8) (atI_nat (j := (k + 1) % 3) (tat _ y (by omega) hy)) ?_
          walk_at "rc"
          refine ⟨p, WS x, WS y, rfl, R8.o.st, by omega, by omega, fun z H9 lz d9 => ?_⟩
          have R9 := R8.dr d9
          have ht9 := d9.old _ _ ntp ht8
          walk_at "rc"
          refine ⟨z, rfl, lz, fun r da H10 hr10 hd10 e10 => ?_⟩
          have R10 := R9.ex e10
          have ht10 := e10 _ _ ht9
          walk_at "rc"
          refine ⟨z, rfl, by omega, fun dt ta H11 hdt hpt hzt hrt e11 => ?_, fun qq ta H11 hdt hrt e11 => ?_⟩
          · have er := hr10.det hrt
            subst er
            have R11 := R10.ex e11
            have ht11 := e11 _ _ ht10
            have hd11 : Dp K H11 (.ref da) (.tuple [.str "read", .int 0]) := hd10.ex e11
            walk_at "rc"
            walk_at "rs"
            walk_at "rc"
            refine rd_ixDT (Evl.Ex.refl H11) hdt (i := 0) (d := .str "read") rfl fun v0 hv0 => ?_
            cases Dp.str_iff hv0
            walk_at "rc"
            refine rd_ixDT (Evl.Ex.refl H11) hd11 (i := 0) (d := .str "read") rfl fun v0 hv0 => ?_
            cases Dp.str_iff hv0
            walk_at "rc"
            refine rd_iteN (fun z => absurd rfl z) fun _ => ?_
            walk_at "rc"
            refine rd_ixDT (Evl.Ex.refl H11) hd11 (i := 0) (d := .str "read") rfl fun v0 hv0 => ?_
            cases Dp.str_iff hv0
            walk_at "rc"
            refine rd_iteD (fun z => absurd z (by decide +kernel)) fun _ => ?_
            walk_at "rc"
            refine rd_ixDT (Evl.Ex.refl H11) hd11 (i := 0) (d := .str "read") rfl fun v0 hv0 => ?_
            cases Dp.str_iff hv0
            walk_at "rc"
            refine rd_iteD (fun _ => ?_) fun z => absurd rfl z
            walk_at "rc"
            refine rd_ixDT (Evl.Ex.refl H11) hdt (i := 1) (d := dt) rfl fun v1 hv1 => ?_
            walk_at "rc"
            have hzl : (W dt).length ≤ 90000 := by rw [← hzt]; exact lz
            refine ⟨v1, dt, rfl, hv1, hpt, hzl, fun H12 e12 => ?_⟩
            have ez : WS dt = z := str_of (by rw [WS_list, hzt])
            rw [ez]
            walk_at "rc"
            refine rd_iteN (fun z => absurd rfl z) fun _ => ?_
            walk_at "rc"
            exact ⟨_, _, _, _, _, rfl, R11.ex e12, e12 _ _ ht11⟩
          · have er := hr10.det hrt
            subst er
            have R11 := R10.ex e11
            have ht11 := e11 _ _ ht10
            have hd11 : Dp K H11 (.ref da) (.tuple [.str "bad", .int (qq : Int)]) := hd10.ex e11
            walk_at "rc"
            walk_at "rs"
            walk_at "rc"
            refine rd_ixDT (Evl.Ex.refl H11) hdt (i := 0) (d := .str "bad") rfl fun v0 hv0 => ?_
            cases Dp.str_iff hv0
            walk_at "rc"
            refine rd_ixDT (Evl.Ex.refl H11) hd11 (i := 0) (d := .str "bad") rfl fun v0 hv0 => ?_
            cases Dp.str_iff hv0
            walk_at "rc"
            refine rd_iteN (fun z => absurd rfl z) fun _ => ?_
            walk_at "rc"
            refine rd_ixDT (Evl.Ex.refl H11) hd11 (i := 0) (d := .str "bad") rfl fun v0 hv0 => ?_
            cases Dp.str_iff hv0
            walk_at "rc"
            refine rd_iteD (fun _ => ?_) fun z => absurd rfl z
            walk_at "rc"
            have ly0 : Ly (.tuple [.str "bad", .int (qq : Int)]) 1 := Ly.tuple fun d hd => by
              rcases List.mem_cons.mp hd with e | e
              · rw [e]; exact Ly.str (by unfold okS; decide +kernel)
              · rw [List.mem_singleton.mp e]; exact Ly.int
            refine rd_neD (Evl.Ex.refl H11) (Evl.Ex.refl H11) hdt hd11 (ly0.lay (by decide)) ?_
            walk_at "rc"
            refine rd_ixDT (Evl.Ex.refl H11) hd11 (i := 0) (d := .str "bad") rfl fun v0 hv0 => ?_
            cases Dp.str_iff hv0
            walk_at "rc"
            refine rd_iteD (fun z => absurd z (by decide +kernel)) fun _ => ?_
            walk_at "rc"
            exact ⟨_, _, _, _, _, rfl, R11, ht11⟩
        · rintro σ H8 ⟨k4, k5, k7, k8, k9, rfl, R8, ht8⟩
          exact ⟨_, _, _, _, _, _, rfl, R8, ht8⟩
      · rintro σ H5 ⟨k3, k4, k5, k7, k8, k9, rfl, R5, ht5⟩
        walk_at "rc"
        have r0 : Run (Str.ofString "").cps.toList 0 .val 0 (some 0) := .fin (stp_end rfl (by decide))
        refine ⟨Str.ofString "", rfl, by decide +kernel, fun dt ta H7 hdt hpt hzt hrt e7 => absurd (r0.det hrt) (fun z => nomatch z), fun qq ta H7 hdt hrt e7 => ?_⟩
        have eq0 := r0.det hrt
        cases eq0
        walk_at "rc"
        refine ⟨by show 2 ≤ sizeLine; omega, fun tp htp => ?_⟩
        have ly0 : Ly (.tuple [.str "bad", .int ((0 : Nat) : Int)]) 1 := Ly.tuple fun d hd => by
          rcases List.mem_cons.mp hd with e | e
          · rw [e]; exact Ly.str (by unfold okS; decide +kernel)
          · rw [List.mem_singleton.mp e]; exact Ly.int
        refine rd_eqD (Evl.Ex.new htp) (Evl.Ex.refl _) hdt (.tup (Evl.st_of upd_same) (.cons (.str _) (.cons (.int _) .nil))) (ly0.lay (by decide)) ?_
        exact q _
end
end
theorem all_mk {l : PySem.W.OpenLaw} {w : World} {K : PySem.W.Frag} {h : Heap} {mg : Str → Option Value} {fa : Addr} (X : K.In h) (G : h.Ns mainGlobals mg) (hfa : mg "law" = some (.ref fa))
    {a_write_value : Addr} {od_write_value an_write_value : Option Addr} {sl_write_value : Array (Option Value)} {oc_write_value kV_write_value dc_write_value pm_write_value cd_write_value ct_write_value : Value}
    {a_read_value : Addr} {od_read_value an_read_value : Option Addr} {sl_read_value : Array (Option Value)} {oc_read_value kV_read_value dc_read_value pm_read_value cd_read_value ct_read_value : Value}
    {a_cell : Addr} {od_cell an_cell : Option Addr} {sl_cell : Array (Option Value)} {oc_cell kV_cell dc_cell pm_cell cd_cell ct_cell : Value}
    {a_numbers : Addr} {od_numbers an_numbers : Option Addr} {sl_numbers : Array (Option Value)} {oc_numbers kV_numbers dc_numbers pm_numbers cd_numbers ct_numbers : Value}
    {a_state : Addr} {od_state an_state : Option Addr} {sl_state : Array (Option Value)} {oc_state kV_state dc_state pm_state cd_state ct_state : Value}
    {a_next : Addr} {od_next an_next : Option Addr} {sl_next : Array (Option Value)} {oc_next kV_next dc_next pm_next cd_next ct_next : Value}
    {a_value : Addr} {od_value an_value : Option Addr} {sl_value : Array (Option Value)} {oc_value kV_value dc_value pm_value cd_value ct_value : Value}
    {a_written : Addr} {od_written an_written : Option Addr} {sl_written : Array (Option Value)} {oc_written kV_written dc_written pm_written cd_written ct_written : Value}
    {a_read : Addr} {od_read an_read : Option Addr} {sl_read : Array (Option Value)} {oc_read kV_read dc_read pm_read cd_read ct_read : Value}
    {a_due : Addr} {od_due an_due : Option Addr} {sl_due : Array (Option Value)} {oc_due kV_due dc_due pm_due cd_due ct_due : Value}
    {a_spoilt : Addr} {od_spoilt an_spoilt : Option Addr} {sl_spoilt : Array (Option Value)} {oc_spoilt kV_spoilt dc_spoilt pm_spoilt cd_spoilt ct_spoilt : Value}
    {a_law : Addr} {od_law an_law : Option Addr} {sl_law : Array (Option Value)} {oc_law kV_law dc_law pm_law cd_law ct_law : Value}
    {C_AnytextError C_PatternError C_ProgramError C_RecordError C_BadLine C_BadRecord : Addr}
    {a_init T_init : Addr} {od_init an_init : Option Addr} {sl_init : Array (Option Value)} {oc_init kV_init dc_init pm_init cd_init ct_init : Value} {dd_init : Option Addr} {nn_init : Nat} {sm_init : Array (Option Value)} {oc2_init : Value}
    {nm_BadRecord q_BadRecord : Str} {N_BadRecord : Addr} {bs_BadRecord : List Value} {sn_BadRecord : List Str} {sb_BadRecord : List Value} {ab_BadRecord : Bool} {col_BadRecord : Option Bool} {dd_BadRecord : Option Addr} {m0_BadRecord m1_BadRecord m2_BadRecord m3_BadRecord m5_BadRecord : Option Value}
    {C_ValueReader : Addr}
    {a_ValueReader_init : Addr} {od_ValueReader_init an_ValueReader_init : Option Addr} {sl_ValueReader_init : Array (Option Value)} {oc_ValueReader_init kV_ValueReader_init dc_ValueReader_init pm_ValueReader_init cd_ValueReader_init ct_ValueReader_init : Value}
    {a_ValueReader_faces : Addr} {od_ValueReader_faces an_ValueReader_faces : Option Addr} {sl_ValueReader_faces : Array (Option Value)} {oc_ValueReader_faces kV_ValueReader_faces dc_ValueReader_faces pm_ValueReader_faces cd_ValueReader_faces ct_ValueReader_faces : Value}
    {a_ValueReader_take : Addr} {od_ValueReader_take an_ValueReader_take : Option Addr} {sl_ValueReader_take : Array (Option Value)} {oc_ValueReader_take kV_ValueReader_take dc_ValueReader_take pm_ValueReader_take cd_ValueReader_take ct_ValueReader_take : Value}
    {a_ValueReader_whole : Addr} {od_ValueReader_whole an_ValueReader_whole : Option Addr} {sl_ValueReader_whole : Array (Option Value)} {oc_ValueReader_whole kV_ValueReader_whole dc_ValueReader_whole pm_ValueReader_whole cd_ValueReader_whole ct_ValueReader_whole : Value}
    {a_ValueReader_value : Addr} {od_ValueReader_value an_ValueReader_value : Option Addr} {sl_ValueReader_value : Array (Option Value)} {oc_ValueReader_value kV_ValueReader_value dc_ValueReader_value pm_ValueReader_value cd_ValueReader_value ct_ValueReader_value : Value}
    {a_ValueReader_items_behind : Addr} {od_ValueReader_items_behind an_ValueReader_items_behind : Option Addr} {sl_ValueReader_items_behind : Array (Option Value)} {oc_ValueReader_items_behind kV_ValueReader_items_behind dc_ValueReader_items_behind pm_ValueReader_items_behind cd_ValueReader_items_behind ct_ValueReader_items_behind : Value}
    {a_ValueReader_text_behind : Addr} {od_ValueReader_text_behind an_ValueReader_text_behind : Option Addr} {sl_ValueReader_text_behind : Array (Option Value)} {oc_ValueReader_text_behind kV_ValueReader_text_behind dc_ValueReader_text_behind pm_ValueReader_text_behind cd_ValueReader_text_behind ct_ValueReader_text_behind : Value}
    {a_ValueReader_number_from : Addr} {od_ValueReader_number_from an_ValueReader_number_from : Option Addr} {sl_ValueReader_number_from : Array (Option Value)} {oc_ValueReader_number_from kV_ValueReader_number_from dc_ValueReader_number_from pm_ValueReader_number_from cd_ValueReader_number_from ct_ValueReader_number_from : Value}
    {t_LETTERS : Tok}
    {t_DIGITS : Tok}
    {t_MOST_DIGITS : Tok}
    {t_MOST_DEEP : Tok}
    {t_QUOTE : Tok}
    (n_write_value : PySem.W.nsIn K mainGlobals "write_value" = some (some (.ref a_write_value)))
    (l_write_value : K.lookup a_write_value = some ⟨oc_write_value, od_write_value, .func (PySem.W.fnOf "write_value" "write_value" (defArgs s_write_value) (defBody s_write_value) (defScope s_write_value) .none kV_write_value dc_write_value pm_write_value an_write_value cd_write_value ct_write_value), sl_write_value⟩)
    (c_write_value : PySem.W.codeIn K cd_write_value "write_value" = true)
    (k_write_value : PySem.W.keepIn K (.ref a_write_value) = true)
    (n_read_value : PySem.W.nsIn K mainGlobals "read_value" = some (some (.ref a_read_value)))
    (l_read_value : K.lookup a_read_value = some ⟨oc_read_value, od_read_value, .func (PySem.W.fnOf "read_value" "read_value" (defArgs s_read_value) (defBody s_read_value) (defScope s_read_value) .none kV_read_value dc_read_value pm_read_value an_read_value cd_read_value ct_read_value), sl_read_value⟩)
    (c_read_value : PySem.W.codeIn K cd_read_value "read_value" = true)
    (k_read_value : PySem.W.keepIn K (.ref a_read_value) = true)
    (n_cell : PySem.W.nsIn K mainGlobals "_law_cell" = some (some (.ref a_cell)))
    (l_cell : K.lookup a_cell = some ⟨oc_cell, od_cell, .func (PySem.W.fnOf "_law_cell" "_law_cell" (defArgs s_cell) (defBody s_cell) (defScope s_cell) .none kV_cell dc_cell pm_cell an_cell cd_cell ct_cell), sl_cell⟩)
    (c_cell : PySem.W.codeIn K cd_cell "_law_cell" = true)
    (k_cell : PySem.W.keepIn K (.ref a_cell) = true)
    (n_numbers : PySem.W.nsIn K mainGlobals "_law_numbers" = some (some (.ref a_numbers)))
    (l_numbers : K.lookup a_numbers = some ⟨oc_numbers, od_numbers, .func (PySem.W.fnOf "_law_numbers" "_law_numbers" (defArgs s_numbers) (defBody s_numbers) (defScope s_numbers) .none kV_numbers dc_numbers pm_numbers an_numbers cd_numbers ct_numbers), sl_numbers⟩)
    (c_numbers : PySem.W.codeIn K cd_numbers "_law_numbers" = true)
    (k_numbers : PySem.W.keepIn K (.ref a_numbers) = true)
    (n_state : PySem.W.nsIn K mainGlobals "_law_state" = some (some (.ref a_state)))
    (l_state : K.lookup a_state = some ⟨oc_state, od_state, .func (PySem.W.fnOf "_law_state" "_law_state" (defArgs s_state) (defBody s_state) (defScope s_state) .none kV_state dc_state pm_state an_state cd_state ct_state), sl_state⟩)
    (c_state : PySem.W.codeIn K cd_state "_law_state" = true)
    (k_state : PySem.W.keepIn K (.ref a_state) = true)
    (n_next : PySem.W.nsIn K mainGlobals "_law_next" = some (some (.ref a_next)))
    (l_next : K.lookup a_next = some ⟨oc_next, od_next, .func (PySem.W.fnOf "_law_next" "_law_next" (defArgs s_next) (defBody s_next) (defScope s_next) .none kV_next dc_next pm_next an_next cd_next ct_next), sl_next⟩)
    (c_next : PySem.W.codeIn K cd_next "_law_next" = true)
    (k_next : PySem.W.keepIn K (.ref a_next) = true)
    (n_value : PySem.W.nsIn K mainGlobals "_law_value" = some (some (.ref a_value)))
    (l_value : K.lookup a_value = some ⟨oc_value, od_value, .func (PySem.W.fnOf "_law_value" "_law_value" (defArgs s_value) (defBody s_value) (defScope s_value) .none kV_value dc_value pm_value an_value cd_value ct_value), sl_value⟩)
    (c_value : PySem.W.codeIn K cd_value "_law_value" = true)
    (k_value : PySem.W.keepIn K (.ref a_value) = true)
    (n_written : PySem.W.nsIn K mainGlobals "_law_written" = some (some (.ref a_written)))
    (l_written : K.lookup a_written = some ⟨oc_written, od_written, .func (PySem.W.fnOf "_law_written" "_law_written" (defArgs s_written) (defBody s_written) (defScope s_written) .none kV_written dc_written pm_written an_written cd_written ct_written), sl_written⟩)
    (c_written : PySem.W.codeIn K cd_written "_law_written" = true)
    (k_written : PySem.W.keepIn K (.ref a_written) = true)
    (n_read : PySem.W.nsIn K mainGlobals "_law_read" = some (some (.ref a_read)))
    (l_read : K.lookup a_read = some ⟨oc_read, od_read, .func (PySem.W.fnOf "_law_read" "_law_read" (defArgs s_read) (defBody s_read) (defScope s_read) .none kV_read dc_read pm_read an_read cd_read ct_read), sl_read⟩)
    (c_read : PySem.W.codeIn K cd_read "_law_read" = true)
    (k_read : PySem.W.keepIn K (.ref a_read) = true)
    (n_due : PySem.W.nsIn K mainGlobals "_law_due" = some (some (.ref a_due)))
    (l_due : K.lookup a_due = some ⟨oc_due, od_due, .func (PySem.W.fnOf "_law_due" "_law_due" (defArgs s_due) (defBody s_due) (defScope s_due) .none kV_due dc_due pm_due an_due cd_due ct_due), sl_due⟩)
    (c_due : PySem.W.codeIn K cd_due "_law_due" = true)
    (k_due : PySem.W.keepIn K (.ref a_due) = true)
    (n_spoilt : PySem.W.nsIn K mainGlobals "_law_spoilt" = some (some (.ref a_spoilt)))
    (l_spoilt : K.lookup a_spoilt = some ⟨oc_spoilt, od_spoilt, .func (PySem.W.fnOf "_law_spoilt" "_law_spoilt" (defArgs s_spoilt) (defBody s_spoilt) (defScope s_spoilt) .none kV_spoilt dc_spoilt pm_spoilt an_spoilt cd_spoilt ct_spoilt), sl_spoilt⟩)
    (c_spoilt : PySem.W.codeIn K cd_spoilt "_law_spoilt" = true)
    (k_spoilt : PySem.W.keepIn K (.ref a_spoilt) = true)
    (n_law : PySem.W.nsIn K mainGlobals "law" = some (some (.ref a_law)))
    (l_law : K.lookup a_law = some ⟨oc_law, od_law, .func (PySem.W.fnOf "law" "law" (defArgs s_law) (defBody s_law) (defScope s_law) .none kV_law dc_law pm_law an_law cd_law ct_law), sl_law⟩)
    (c_law : PySem.W.codeIn K cd_law "law" = true)
    (k_law : PySem.W.keepIn K (.ref a_law) = true)
    (n_AnytextError : PySem.W.nsIn K mainGlobals "AnytextError" = some (some (.ref C_AnytextError)))
    (n_PatternError : PySem.W.nsIn K mainGlobals "PatternError" = some (some (.ref C_PatternError)))
    (n_ProgramError : PySem.W.nsIn K mainGlobals "ProgramError" = some (some (.ref C_ProgramError)))
    (n_RecordError : PySem.W.nsIn K mainGlobals "RecordError" = some (some (.ref C_RecordError)))
    (n_BadLine : PySem.W.nsIn K mainGlobals "BadLine" = some (some (.ref C_BadLine)))
    (n_BadRecord : PySem.W.nsIn K mainGlobals "BadRecord" = some (some (.ref C_BadRecord)))
    (ini_BadRecord : PySem.W.findIn K (.ref C_BadRecord) "__init__" = some (some (.ref a_init)))
    (l_init : K.lookup a_init = some ⟨oc_init, od_init, .func (PySem.W.fnOf "__init__" "AnytextError.__init__" (defArgs s_init) (defBody s_init) (defScope s_init) (.ref T_init) kV_init dc_init pm_init an_init cd_init ct_init), sl_init⟩)
    (c_init : PySem.W.codeIn K cd_init "AnytextError.__init__" = true)
    (k_init : PySem.W.keepIn K (.ref a_init) = true)
    (ti_init : PySem.W.typeIn K (.ref a_init) = some (.type "function"))
    (lt_init : K.lookup T_init = some ⟨oc2_init, dd_init, .seq #[.none] nn_init, sm_init⟩)
    (i_BadLine : PySem.W.isClsIn K C_BadLine = true)
    (t_BadLine : PySem.W.typeIn K (.ref C_BadLine) = some (.type "type"))
    (e_BadLine : PySem.W.subIn K (.ref C_BadLine) (.type "BaseException") = some true)
    (h_BadLine : PySem.W.hasDictIn K C_BadLine = true)
    (i_BadRecord : PySem.W.isClsIn K C_BadRecord = true)
    (t_BadRecord : PySem.W.typeIn K (.ref C_BadRecord) = some (.type "type"))
    (e_BadRecord : PySem.W.subIn K (.ref C_BadRecord) (.type "BaseException") = some true)
    (h_BadRecord : PySem.W.hasDictIn K C_BadRecord = true)
    (i_PatternError : PySem.W.isClsIn K C_PatternError = true)
    (t_PatternError : PySem.W.typeIn K (.ref C_PatternError) = some (.type "type"))
    (e_PatternError : PySem.W.subIn K (.ref C_PatternError) (.type "BaseException") = some true)
    (h_PatternError : PySem.W.hasDictIn K C_PatternError = true)
    (i_ProgramError : PySem.W.isClsIn K C_ProgramError = true)
    (t_ProgramError : PySem.W.typeIn K (.ref C_ProgramError) = some (.type "type"))
    (e_ProgramError : PySem.W.subIn K (.ref C_ProgramError) (.type "BaseException") = some true)
    (h_ProgramError : PySem.W.hasDictIn K C_ProgramError = true)
    (i_RecordError : PySem.W.isClsIn K C_RecordError = true)
    (t_RecordError : PySem.W.typeIn K (.ref C_RecordError) = some (.type "type"))
    (e_RecordError : PySem.W.subIn K (.ref C_RecordError) (.type "BaseException") = some true)
    (h_RecordError : PySem.W.hasDictIn K C_RecordError = true)
    (l_BadRecord : K.lookup C_BadRecord = some (excClassObj nm_BadRecord q_BadRecord C_BadRecord N_BadRecord bs_BadRecord [.ref C_RecordError, .ref C_AnytextError, .type "ValueError", .type "Exception", .type "BaseException", .type "object"] true sn_BadRecord sb_BadRecord ab_BadRecord col_BadRecord dd_BadRecord m0_BadRecord m1_BadRecord m2_BadRecord m3_BadRecord m5_BadRecord "ValueError.__new__"))
    (sa_BadRecord : PySem.W.findIn K (.ref C_BadRecord) "__setattr__" = some (some (.builtin "object.__setattr__")))
    (ga_BadRecord : PySem.W.findIn K (.ref C_BadRecord) "__getattribute__" = some (some (.builtin "BaseException.__getattribute__")))
    (gg_BadRecord : PySem.W.findIn K (.ref C_BadRecord) "__getattr__" = some none)
    (nw_BadRecord : PySem.W.findIn K (.ref C_BadRecord) "what" = some none)
    (cc_BadRecord : PySem.W.findIn K (.ref C_BadRecord) "__class__" = some (some (.builtin "object.__class__")))
    (mo_BadRecord : PySem.W.mroIn K C_BadRecord (.type "object") = some true)
    (se_BadRecord : PySem.W.subIn K (.ref C_BadRecord) (.ref C_BadRecord) = some true)
    (kC_BadRecord : PySem.W.keepIn K (.ref C_BadRecord) = true)
    (s_BadRecord_BadLine : PySem.W.subIn K (.ref C_BadRecord) (.ref C_BadLine) = some false)
    (s_BadRecord_PatternError : PySem.W.subIn K (.ref C_BadRecord) (.ref C_PatternError) = some false)
    (s_BadRecord_ProgramError : PySem.W.subIn K (.ref C_BadRecord) (.ref C_ProgramError) = some false)
    (s_BadRecord_RecordError : PySem.W.subIn K (.ref C_BadRecord) (.ref C_RecordError) = some true)
    (sp_B : PySem.W.specialIn K (.builtin "object.__class__") "__get__" = some (some (.builtin "getset_descriptor.__get__")))
    (tk_B : PySem.W.takesIn K (.builtin "object.__class__") = some true)
    (n_ValueReader : PySem.W.nsIn K mainGlobals "ValueReader" = some (some (.ref C_ValueReader)))
    (pg_ValueReader : PySem.W.plainGet K C_ValueReader Str.empty = true)
    (hd_ValueReader : PySem.W.hasDictIn K C_ValueReader = true)
    (po_ValueReader : PySem.W.plainOver K C_ValueReader = true)
    (sa_ValueReader : PySem.W.findIn K (.ref C_ValueReader) "__setattr__" = some (some (.builtin "object.__setattr__")))
    (mk_ValueReader : PySem.W.makesIn K C_ValueReader = true)
    (kc_ValueReader : PySem.W.keepIn K (.ref C_ValueReader) = true)
    (na_ValueReader_text : PySem.W.findIn K (.ref C_ValueReader) "text" = some none)
    (na_ValueReader_place : PySem.W.findIn K (.ref C_ValueReader) "place" = some none)
    (i_ValueReader_init : PySem.W.findIn K (.ref C_ValueReader) "__init__" = some (some (.ref a_ValueReader_init)))
    (q_ValueReader_init : PySem.W.isFn K (.ref a_ValueReader_init) = true)
    (l_ValueReader_init : K.lookup a_ValueReader_init = some ⟨oc_ValueReader_init, od_ValueReader_init, .func (PySem.W.fnOf "__init__" "ValueReader.__init__" (defArgs s_ValueReader_init) (defBody s_ValueReader_init) (defScope s_ValueReader_init) .none kV_ValueReader_init dc_ValueReader_init pm_ValueReader_init an_ValueReader_init cd_ValueReader_init ct_ValueReader_init), sl_ValueReader_init⟩)
    (c_ValueReader_init : PySem.W.codeIn K cd_ValueReader_init "ValueReader.__init__" = true)
    (k_ValueReader_init : PySem.W.keepIn K (.ref a_ValueReader_init) = true)
    (i_ValueReader_faces : PySem.W.findIn K (.ref C_ValueReader) "faces" = some (some (.ref a_ValueReader_faces)))
    (q_ValueReader_faces : PySem.W.isFn K (.ref a_ValueReader_faces) = true)
    (l_ValueReader_faces : K.lookup a_ValueReader_faces = some ⟨oc_ValueReader_faces, od_ValueReader_faces, .func (PySem.W.fnOf "faces" "ValueReader.faces" (defArgs s_ValueReader_faces) (defBody s_ValueReader_faces) (defScope s_ValueReader_faces) .none kV_ValueReader_faces dc_ValueReader_faces pm_ValueReader_faces an_ValueReader_faces cd_ValueReader_faces ct_ValueReader_faces), sl_ValueReader_faces⟩)
    (c_ValueReader_faces : PySem.W.codeIn K cd_ValueReader_faces "ValueReader.faces" = true)
    (k_ValueReader_faces : PySem.W.keepIn K (.ref a_ValueReader_faces) = true)
    (i_ValueReader_take : PySem.W.findIn K (.ref C_ValueReader) "take" = some (some (.ref a_ValueReader_take)))
    (q_ValueReader_take : PySem.W.isFn K (.ref a_ValueReader_take) = true)
    (l_ValueReader_take : K.lookup a_ValueReader_take = some ⟨oc_ValueReader_take, od_ValueReader_take, .func (PySem.W.fnOf "take" "ValueReader.take" (defArgs s_ValueReader_take) (defBody s_ValueReader_take) (defScope s_ValueReader_take) .none kV_ValueReader_take dc_ValueReader_take pm_ValueReader_take an_ValueReader_take cd_ValueReader_take ct_ValueReader_take), sl_ValueReader_take⟩)
    (c_ValueReader_take : PySem.W.codeIn K cd_ValueReader_take "ValueReader.take" = true)
    (k_ValueReader_take : PySem.W.keepIn K (.ref a_ValueReader_take) = true)
    (i_ValueReader_whole : PySem.W.findIn K (.ref C_ValueReader) "whole" = some (some (.ref a_ValueReader_whole)))
    (q_ValueReader_whole : PySem.W.isFn K (.ref a_ValueReader_whole) = true)
    (l_ValueReader_whole : K.lookup a_ValueReader_whole = some ⟨oc_ValueReader_whole, od_ValueReader_whole, .func (PySem.W.fnOf "whole" "ValueReader.whole" (defArgs s_ValueReader_whole) (defBody s_ValueReader_whole) (defScope s_ValueReader_whole) .none kV_ValueReader_whole dc_ValueReader_whole pm_ValueReader_whole an_ValueReader_whole cd_ValueReader_whole ct_ValueReader_whole), sl_ValueReader_whole⟩)
    (c_ValueReader_whole : PySem.W.codeIn K cd_ValueReader_whole "ValueReader.whole" = true)
    (k_ValueReader_whole : PySem.W.keepIn K (.ref a_ValueReader_whole) = true)
    (i_ValueReader_value : PySem.W.findIn K (.ref C_ValueReader) "value" = some (some (.ref a_ValueReader_value)))
    (q_ValueReader_value : PySem.W.isFn K (.ref a_ValueReader_value) = true)
    (l_ValueReader_value : K.lookup a_ValueReader_value = some ⟨oc_ValueReader_value, od_ValueReader_value, .func (PySem.W.fnOf "value" "ValueReader.value" (defArgs s_ValueReader_value) (defBody s_ValueReader_value) (defScope s_ValueReader_value) .none kV_ValueReader_value dc_ValueReader_value pm_ValueReader_value an_ValueReader_value cd_ValueReader_value ct_ValueReader_value), sl_ValueReader_value⟩)
    (c_ValueReader_value : PySem.W.codeIn K cd_ValueReader_value "ValueReader.value" = true)
    (k_ValueReader_value : PySem.W.keepIn K (.ref a_ValueReader_value) = true)
    (i_ValueReader_items_behind : PySem.W.findIn K (.ref C_ValueReader) "items_behind" = some (some (.ref a_ValueReader_items_behind)))
    (q_ValueReader_items_behind : PySem.W.isFn K (.ref a_ValueReader_items_behind) = true)
    (l_ValueReader_items_behind : K.lookup a_ValueReader_items_behind = some ⟨oc_ValueReader_items_behind, od_ValueReader_items_behind, .func (PySem.W.fnOf "items_behind" "ValueReader.items_behind" (defArgs s_ValueReader_items_behind) (defBody s_ValueReader_items_behind) (defScope s_ValueReader_items_behind) .none kV_ValueReader_items_behind dc_ValueReader_items_behind pm_ValueReader_items_behind an_ValueReader_items_behind cd_ValueReader_items_behind ct_ValueReader_items_behind), sl_ValueReader_items_behind⟩)
    (c_ValueReader_items_behind : PySem.W.codeIn K cd_ValueReader_items_behind "ValueReader.items_behind" = true)
    (k_ValueReader_items_behind : PySem.W.keepIn K (.ref a_ValueReader_items_behind) = true)
    (i_ValueReader_text_behind : PySem.W.findIn K (.ref C_ValueReader) "text_behind" = some (some (.ref a_ValueReader_text_behind)))
    (q_ValueReader_text_behind : PySem.W.isFn K (.ref a_ValueReader_text_behind) = true)
    (l_ValueReader_text_behind : K.lookup a_ValueReader_text_behind = some ⟨oc_ValueReader_text_behind, od_ValueReader_text_behind, .func (PySem.W.fnOf "text_behind" "ValueReader.text_behind" (defArgs s_ValueReader_text_behind) (defBody s_ValueReader_text_behind) (defScope s_ValueReader_text_behind) .none kV_ValueReader_text_behind dc_ValueReader_text_behind pm_ValueReader_text_behind an_ValueReader_text_behind cd_ValueReader_text_behind ct_ValueReader_text_behind), sl_ValueReader_text_behind⟩)
    (c_ValueReader_text_behind : PySem.W.codeIn K cd_ValueReader_text_behind "ValueReader.text_behind" = true)
    (k_ValueReader_text_behind : PySem.W.keepIn K (.ref a_ValueReader_text_behind) = true)
    (i_ValueReader_number_from : PySem.W.findIn K (.ref C_ValueReader) "number_from" = some (some (.ref a_ValueReader_number_from)))
    (q_ValueReader_number_from : PySem.W.isFn K (.ref a_ValueReader_number_from) = true)
    (l_ValueReader_number_from : K.lookup a_ValueReader_number_from = some ⟨oc_ValueReader_number_from, od_ValueReader_number_from, .func (PySem.W.fnOf "number_from" "ValueReader.number_from" (defArgs s_ValueReader_number_from) (defBody s_ValueReader_number_from) (defScope s_ValueReader_number_from) .none kV_ValueReader_number_from dc_ValueReader_number_from pm_ValueReader_number_from an_ValueReader_number_from cd_ValueReader_number_from ct_ValueReader_number_from), sl_ValueReader_number_from⟩)
    (c_ValueReader_number_from : PySem.W.codeIn K cd_ValueReader_number_from "ValueReader.number_from" = true)
    (k_ValueReader_number_from : PySem.W.keepIn K (.ref a_ValueReader_number_from) = true)
    (z_abs : PySem.W.nsIn K mainGlobals "abs" = some none)
    (z_bool : PySem.W.nsIn K mainGlobals "bool" = some none)
    (z_int : PySem.W.nsIn K mainGlobals "int" = some none)
    (z_isinstance : PySem.W.nsIn K mainGlobals "isinstance" = some none)
    (z_len : PySem.W.nsIn K mainGlobals "len" = some none)
    (z_range : PySem.W.nsIn K mainGlobals "range" = some none)
    (z_repr : PySem.W.nsIn K mainGlobals "repr" = some none)
    (z_str : PySem.W.nsIn K mainGlobals "str" = some none)
    (z_tuple : PySem.W.nsIn K mainGlobals "tuple" = some none)
    (k_LETTERS : PySem.W.nsIn K mainGlobals "LETTERS" = some (some (.str "abcdefghijklmnopqrstuvwxyzABCDEFGHIJKLMNOPQRSTUVWXYZ0123456789<>=:_@#" t_LETTERS)))
    (k_DIGITS : PySem.W.nsIn K mainGlobals "DIGITS" = some (some (.str "0123456789" t_DIGITS)))
    (k_MOST_DIGITS : PySem.W.nsIn K mainGlobals "MOST_DIGITS" = some (some (.int 9 t_MOST_DIGITS)))
    (k_MOST_DEEP : PySem.W.nsIn K mainGlobals "MOST_DEEP" = some (some (.int 8 t_MOST_DEEP)))
    (k_QUOTE : PySem.W.nsIn K mainGlobals "QUOTE" = some (some (.str "'" t_QUOTE)))
    : ∃ fd : FuncData, (∀ (s : Shared) (v : Value), BindsTo s fd ⟨[v], []⟩ [("script", v)]) ∧ ∀ base : Heap, K.In base → base.Ns mainGlobals mg → FnG l.prog w K mg base CX0 lvLaw fa fd ["script"] (spLaw K) := by
  have e := hfa.symm.trans (PySem.W.mg_of X G n_law)
  cases e
  have f_write_value := fun_mk (st := s_write_value) l_write_value c_write_value k_write_value
  have b_write_value := f_write_value.binds (ps := ["value"]) fun _ _ _ _ _ _ us hl => match us, hl with | [_], _ => rfl
  have f_read_value := fun_mk (st := s_read_value) l_read_value c_read_value k_read_value
  have b_read_value := f_read_value.binds (ps := ["text"]) fun _ _ _ _ _ _ us hl => match us, hl with | [_], _ => rfl
  have f_cell := fun_mk (st := s_cell) l_cell c_cell k_cell
  have b_cell := f_cell.binds (ps := ["script", "k"]) fun _ _ _ _ _ _ us hl => match us, hl with | [_, _], _ => rfl
  have f_numbers := fun_mk (st := s_numbers) l_numbers c_numbers k_numbers
  have b_numbers := f_numbers.binds (ps := ["cell", "many"]) fun _ _ _ _ _ _ us hl => match us, hl with | [_, _], _ => rfl
  have f_state := fun_mk (st := s_state) l_state c_state k_state
  have b_state := f_state.binds (ps := ["script", "start", "many"]) fun _ _ _ _ _ _ us hl => match us, hl with | [_, _, _], _ => rfl
  have f_next := fun_mk (st := s_next) l_next c_next k_next
  have b_next := f_next.binds (ps := ["state", "many"]) fun _ _ _ _ _ _ us hl => match us, hl with | [_, _], _ => rfl
  have f_value := fun_mk (st := s_value) l_value c_value k_value
  have b_value := f_value.binds (ps := ["state", "deep"]) fun _ _ _ _ _ _ us hl => match us, hl with | [_, _], _ => rfl
  have f_written := fun_mk (st := s_written) l_written c_written k_written
  have b_written := f_written.binds (ps := ["value"]) fun _ _ _ _ _ _ us hl => match us, hl with | [_], _ => rfl
  have f_read := fun_mk (st := s_read) l_read c_read k_read
  have b_read := f_read.binds (ps := ["text"]) fun _ _ _ _ _ _ us hl => match us, hl with | [_], _ => rfl
  have f_due := fun_mk (st := s_due) l_due c_due k_due
  have b_due := f_due.binds (ps := ["text"]) fun _ _ _ _ _ _ us hl => match us, hl with | [_], _ => rfl
  have f_spoilt := fun_mk (st := s_spoilt) l_spoilt c_spoilt k_spoilt
  have b_spoilt := f_spoilt.binds (ps := ["state", "text", "other"]) fun _ _ _ _ _ _ us hl => match us, hl with | [_, _, _], _ => rfl
  have f_law := fun_mk (st := s_law) l_law c_law k_law
  have b_law := f_law.binds (ps := ["script"]) fun _ _ _ _ _ _ us hl => match us, hl with | [_], _ => rfl
  have f_ValueReader_init := fun_mk (st := s_ValueReader_init) l_ValueReader_init c_ValueReader_init k_ValueReader_init
  have b_ValueReader_init := f_ValueReader_init.binds (ps := ["self", "text", "place"]) fun _ _ _ _ _ _ us hl => match us, hl with | [_, _, _], _ => rfl
  have f_ValueReader_faces := fun_mk (st := s_ValueReader_faces) l_ValueReader_faces c_ValueReader_faces k_ValueReader_faces
  have b_ValueReader_faces := f_ValueReader_faces.binds (ps := ["self", "signs"]) fun _ _ _ _ _ _ us hl => match us, hl with | [_, _], _ => rfl
  have f_ValueReader_take := fun_mk (st := s_ValueReader_take) l_ValueReader_take c_ValueReader_take k_ValueReader_take
  have b_ValueReader_take := f_ValueReader_take.binds (ps := ["self", "signs"]) fun _ _ _ _ _ _ us hl => match us, hl with | [_, _], _ => rfl
  have f_ValueReader_whole := fun_mk (st := s_ValueReader_whole) l_ValueReader_whole c_ValueReader_whole k_ValueReader_whole
  have b_ValueReader_whole := f_ValueReader_whole.binds (ps := ["self"]) fun _ _ _ _ _ _ us hl => match us, hl with | [_], _ => rfl
  have f_ValueReader_value := fun_mk (st := s_ValueReader_value) l_ValueReader_value c_ValueReader_value k_ValueReader_value
  have b_ValueReader_value := f_ValueReader_value.binds (ps := ["self", "deep"]) fun _ _ _ _ _ _ us hl => match us, hl with | [_, _], _ => rfl
  have f_ValueReader_items_behind := fun_mk (st := s_ValueReader_items_behind) l_ValueReader_items_behind c_ValueReader_items_behind k_ValueReader_items_behind
  have b_ValueReader_items_behind := f_ValueReader_items_behind.binds (ps := ["self", "deep"]) fun _ _ _ _ _ _ us hl => match us, hl with | [_, _], _ => rfl
  have f_ValueReader_text_behind := fun_mk (st := s_ValueReader_text_behind) l_ValueReader_text_behind c_ValueReader_text_behind k_ValueReader_text_behind
  have b_ValueReader_text_behind := f_ValueReader_text_behind.binds (ps := ["self"]) fun _ _ _ _ _ _ us hl => match us, hl with | [_], _ => rfl
  have f_ValueReader_number_from := fun_mk (st := s_ValueReader_number_from) l_ValueReader_number_from c_ValueReader_number_from k_ValueReader_number_from
  have b_ValueReader_number_from := f_ValueReader_number_from.binds (ps := ["self", "start"]) fun _ _ _ _ _ _ us hl => match us, hl with | [_, _], _ => rfl
  have fI : FunD K "__init__" "AnytextError.__init__" (defArgs s_init) (defBody s_init) (defScope s_init) [.non] [] a_init _ := ⟨⟨oc_init, od_init, .ref T_init, kV_init, dc_init, pm_init, an_init, cd_init, ct_init, sl_init, rfl, l_init, c_init, .inr ⟨(fun z => nomatch z), T_init, _, [.none], nn_init, rfl, lt_init, rfl, .cons rfl .nil⟩, .inl rfl⟩, k_init⟩
  have bI0 := fI.binds1 (ps := ["self", "what"]) 2 1 (fun z => nomatch z) rfl fun T kV doc pm an cdv ct us its hu hi => match us, hu, its, hi with | [_, _], _, [_], _ => ⟨_, rfl, rfl⟩
  have bI : Binds K (PySem.W.fnOf "__init__" "AnytextError.__init__" (defArgs s_init) (defBody s_init) (defScope s_init) (.ref T_init) kV_init dc_init pm_init an_init cd_init ct_init) ["self", "what"] [] := by
    obtain ⟨ds, hv, hb⟩ := bI0
    cases hv
    exact hb
  let T : Txt K mg := {
    C_ValueReader := C_ValueReader, g_ValueReader := PySem.W.mg_of X G n_ValueReader, cl_ValueReader := ⟨pg_ValueReader, hd_ValueReader, po_ValueReader, sa_ValueReader⟩,
    na_ValueReader_text := na_ValueReader_text,
    na_ValueReader_place := na_ValueReader_place,
    a_ValueReader_init := a_ValueReader_init, d_ValueReader_init := _, f_ValueReader_init := f_ValueReader_init, b_ValueReader_init := b_ValueReader_init,
    mk_ValueReader := ⟨mk_ValueReader, i_ValueReader_init, q_ValueReader_init, kc_ValueReader⟩,
    a_ValueReader_faces := a_ValueReader_faces, d_ValueReader_faces := _, f_ValueReader_faces := f_ValueReader_faces, b_ValueReader_faces := b_ValueReader_faces,
    m_ValueReader_faces := ⟨i_ValueReader_faces, q_ValueReader_faces, k_ValueReader_faces⟩,
    a_ValueReader_take := a_ValueReader_take, d_ValueReader_take := _, f_ValueReader_take := f_ValueReader_take, b_ValueReader_take := b_ValueReader_take,
    m_ValueReader_take := ⟨i_ValueReader_take, q_ValueReader_take, k_ValueReader_take⟩,
    a_ValueReader_whole := a_ValueReader_whole, d_ValueReader_whole := _, f_ValueReader_whole := f_ValueReader_whole, b_ValueReader_whole := b_ValueReader_whole,
    m_ValueReader_whole := ⟨i_ValueReader_whole, q_ValueReader_whole, k_ValueReader_whole⟩,
    a_ValueReader_value := a_ValueReader_value, d_ValueReader_value := _, f_ValueReader_value := f_ValueReader_value, b_ValueReader_value := b_ValueReader_value,
    m_ValueReader_value := ⟨i_ValueReader_value, q_ValueReader_value, k_ValueReader_value⟩,
    a_ValueReader_items_behind := a_ValueReader_items_behind, d_ValueReader_items_behind := _, f_ValueReader_items_behind := f_ValueReader_items_behind, b_ValueReader_items_behind := b_ValueReader_items_behind,
    m_ValueReader_items_behind := ⟨i_ValueReader_items_behind, q_ValueReader_items_behind, k_ValueReader_items_behind⟩,
    a_ValueReader_text_behind := a_ValueReader_text_behind, d_ValueReader_text_behind := _, f_ValueReader_text_behind := f_ValueReader_text_behind, b_ValueReader_text_behind := b_ValueReader_text_behind,
    m_ValueReader_text_behind := ⟨i_ValueReader_text_behind, q_ValueReader_text_behind, k_ValueReader_text_behind⟩,
    a_ValueReader_number_from := a_ValueReader_number_from, d_ValueReader_number_from := _, f_ValueReader_number_from := f_ValueReader_number_from, b_ValueReader_number_from := b_ValueReader_number_from,
    m_ValueReader_number_from := ⟨i_ValueReader_number_from, q_ValueReader_number_from, k_ValueReader_number_from⟩,
    a_write_value := a_write_value, d_write_value := _, f_write_value := f_write_value, o_write_value := ⟨PySem.W.mg_of X G n_write_value, k_write_value, b_write_value⟩,
    a_read_value := a_read_value, d_read_value := _, f_read_value := f_read_value, o_read_value := ⟨PySem.W.mg_of X G n_read_value, k_read_value, b_read_value⟩,
    a_cell := a_cell, d_cell := _, f_cell := f_cell, o_cell := ⟨PySem.W.mg_of X G n_cell, k_cell, b_cell⟩,
    a_numbers := a_numbers, d_numbers := _, f_numbers := f_numbers, o_numbers := ⟨PySem.W.mg_of X G n_numbers, k_numbers, b_numbers⟩,
    a_state := a_state, d_state := _, f_state := f_state, o_state := ⟨PySem.W.mg_of X G n_state, k_state, b_state⟩,
    a_next := a_next, d_next := _, f_next := f_next, o_next := ⟨PySem.W.mg_of X G n_next, k_next, b_next⟩,
    a_value := a_value, d_value := _, f_value := f_value, o_value := ⟨PySem.W.mg_of X G n_value, k_value, b_value⟩,
    a_written := a_written, d_written := _, f_written := f_written, o_written := ⟨PySem.W.mg_of X G n_written, k_written, b_written⟩,
    a_read := a_read, d_read := _, f_read := f_read, o_read := ⟨PySem.W.mg_of X G n_read, k_read, b_read⟩,
    a_due := a_due, d_due := _, f_due := f_due, o_due := ⟨PySem.W.mg_of X G n_due, k_due, b_due⟩,
    a_spoilt := a_spoilt, d_spoilt := _, f_spoilt := f_spoilt, o_spoilt := ⟨PySem.W.mg_of X G n_spoilt, k_spoilt, b_spoilt⟩,
    a_law := _, d_law := _, f_law := f_law, o_law := ⟨PySem.W.mg_of X G n_law, k_law, b_law⟩,
    a_init := a_init, d_init := _, T_init := T_init, f_init := fI, tI := ti_init, bI := bI,
    C_AnytextError := C_AnytextError,
    C_PatternError := C_PatternError,
    C_ProgramError := C_ProgramError,
    C_RecordError := C_RecordError,
    C_BadLine := C_BadLine,
    C_BadRecord := C_BadRecord,
    g_BadLine := PySem.W.mg_of X G n_BadLine,
    g_BadRecord := PySem.W.mg_of X G n_BadRecord,
    g_PatternError := PySem.W.mg_of X G n_PatternError,
    g_ProgramError := PySem.W.mg_of X G n_ProgramError,
    g_RecordError := PySem.W.mg_of X G n_RecordError,
    i_BadLine := i_BadLine, t_BadLine := t_BadLine, e_BadLine := e_BadLine, h_BadLine := h_BadLine,
    i_BadRecord := i_BadRecord, t_BadRecord := t_BadRecord, e_BadRecord := e_BadRecord, h_BadRecord := h_BadRecord,
    i_PatternError := i_PatternError, t_PatternError := t_PatternError, e_PatternError := e_PatternError, h_PatternError := h_PatternError,
    i_ProgramError := i_ProgramError, t_ProgramError := t_ProgramError, e_ProgramError := e_ProgramError, h_ProgramError := h_ProgramError,
    i_RecordError := i_RecordError, t_RecordError := t_RecordError, e_RecordError := e_RecordError, h_RecordError := h_RecordError,
    x_BadRecord := ⟨⟨⟨nm_BadRecord, q_BadRecord, N_BadRecord, bs_BadRecord, _, sn_BadRecord, sb_BadRecord, ab_BadRecord, col_BadRecord, dd_BadRecord, m0_BadRecord, m1_BadRecord, m2_BadRecord, m3_BadRecord, m5_BadRecord, l_BadRecord, by rfl⟩, sa_BadRecord, e_BadRecord, t_BadRecord, kC_BadRecord⟩, ⟨ga_BadRecord, gg_BadRecord, e_BadRecord, h_BadRecord⟩, nw_BadRecord, ini_BadRecord, i_BadRecord, cc_BadRecord, mo_BadRecord, se_BadRecord⟩,
    s_BadRecord_BadLine := s_BadRecord_BadLine,
    s_BadRecord_BadRecord := se_BadRecord,
    s_BadRecord_PatternError := s_BadRecord_PatternError,
    s_BadRecord_ProgramError := s_BadRecord_ProgramError,
    s_BadRecord_RecordError := s_BadRecord_RecordError,
    clsB := ⟨sp_B, tk_B⟩,
    nb_abs := PySem.W.mg_none_of X G z_abs,
    nb_bool := PySem.W.mg_none_of X G z_bool,
    nb_int := PySem.W.mg_none_of X G z_int,
    nb_isinstance := PySem.W.mg_none_of X G z_isinstance,
    nb_len := PySem.W.mg_none_of X G z_len,
    nb_range := PySem.W.mg_none_of X G z_range,
    nb_repr := PySem.W.mg_none_of X G z_repr,
    nb_str := PySem.W.mg_none_of X G z_str,
    nb_tuple := PySem.W.mg_none_of X G z_tuple,
    t_LETTERS := t_LETTERS, c_LETTERS := PySem.W.mg_of X G k_LETTERS,
    t_DIGITS := t_DIGITS, c_DIGITS := PySem.W.mg_of X G k_DIGITS,
    t_MOST_DIGITS := t_MOST_DIGITS, c_MOST_DIGITS := PySem.W.mg_of X G k_MOST_DIGITS,
    t_MOST_DEEP := t_MOST_DEEP, c_MOST_DEEP := PySem.W.mg_of X G k_MOST_DEEP,
    t_QUOTE := t_QUOTE, c_QUOTE := PySem.W.mg_of X G k_QUOTE }
  exact ⟨T.d_law, fun s v => .of_eq rfl, fun base _ _ => ok_law T⟩
end AT
open PySem PySem.W PyProof.Rows
set_option maxRecDepth 100000 in
set_option maxHeartbeats 0 in
theorem PySem.Challenge.cw_anytext_k48_values_written_holds : PySem.Challenge.rw_anytext_k48_values_written.Holds := by
  w_on; o_law; k_head; (case hw => w_witness2)
  k_fill
  refine AT.walk_ofG (l := PySem.Challenge.rw_anytext_k48_values_written) (n := 63) (k := AT.lvLaw) (x := "script") (sp := AT.spLaw) rfl (by decide) rfl ⟨rfl, by decide, by decide⟩ (fun w h Y => PySem.W.kIn_of Y) ?F (fun _ _ a ns hl _ hS => ⟨a, ns, rfl, hS, hl, fun _ => rfl⟩)
  case F =>
    intro w mg fa h KX G hmg
    refine' AT.all_mk KX G hmg ?n_write_value ?l_write_value ?c_write_value ?k_write_value ?n_read_value ?l_read_value ?c_read_value ?k_read_value ?n_cell ?l_cell ?c_cell ?k_cell ?n_numbers ?l_numbers ?c_numbers ?k_numbers ?n_state ?l_state ?c_state ?k_state ?n_next ?l_next ?c_next ?k_next ?n_value ?l_value ?c_value ?k_value ?n_written ?l_written ?c_written ?k_written ?n_read ?l_read ?c_read ?k_read ?n_due ?l_due ?c_due ?k_due ?n_spoilt ?l_spoilt ?c_spoilt ?k_spoilt ?n_law ?l_law ?c_law ?k_law ?n_AnytextError ?n_PatternError ?n_ProgramError ?n_RecordError ?n_BadLine ?n_BadRecord ?ini_BadRecord ?l_init ?c_init ?k_init ?ti_init ?lt_init ?i_BadLine ?t_BadLine ?e_BadLine ?h_BadLine ?i_BadRecord ?t_BadRecord ?e_BadRecord ?h_BadRecord ?i_PatternError ?t_PatternError ?e_PatternError ?h_PatternError ?i_ProgramError ?t_ProgramError ?e_ProgramError ?h_ProgramError ?i_RecordError ?t_RecordError ?e_RecordError ?h_RecordError ?l_BadRecord ?sa_BadRecord ?ga_BadRecord ?gg_BadRecord ?nw_BadRecord ?cc_BadRecord ?mo_BadRecord ?se_BadRecord ?kC_BadRecord ?s_BadRecord_BadLine ?s_BadRecord_PatternError ?s_BadRecord_ProgramError ?s_BadRecord_RecordError ?sp_B ?tk_B ?n_ValueReader ?pg_ValueReader ?hd_ValueReader ?po_ValueReader ?sa_ValueReader ?mk_ValueReader ?kc_ValueReader ?na_ValueReader_text ?na_ValueReader_place ?i_ValueReader_init ?q_ValueReader_init ?l_ValueReader_init ?c_ValueReader_init ?k_ValueReader_init ?i_ValueReader_faces ?q_ValueReader_faces ?l_ValueReader_faces ?c_ValueReader_faces ?k_ValueReader_faces ?i_ValueReader_take ?q_ValueReader_take ?l_ValueReader_take ?c_ValueReader_take ?k_ValueReader_take ?i_ValueReader_whole ?q_ValueReader_whole ?l_ValueReader_whole ?c_ValueReader_whole ?k_ValueReader_whole ?i_ValueReader_value ?q_ValueReader_value ?l_ValueReader_value ?c_ValueReader_value ?k_ValueReader_value ?i_ValueReader_items_behind ?q_ValueReader_items_behind ?l_ValueReader_items_behind ?c_ValueReader_items_behind ?k_ValueReader_items_behind ?i_ValueReader_text_behind ?q_ValueReader_text_behind ?l_ValueReader_text_behind ?c_ValueReader_text_behind ?k_ValueReader_text_behind ?i_ValueReader_number_from ?q_ValueReader_number_from ?l_ValueReader_number_from ?c_ValueReader_number_from ?k_ValueReader_number_from ?z_abs ?z_bool ?z_int ?z_isinstance ?z_len ?z_range ?z_repr ?z_str ?z_tuple ?k_LETTERS ?k_DIGITS ?k_MOST_DIGITS ?k_MOST_DEEP ?k_QUOTE
    (case n_write_value => k_is); (case l_write_value => k_is); (case c_write_value => k_is); (case k_write_value => k_is); (case n_read_value => k_is); (case l_read_value => k_is)
    (case c_read_value => k_is); (case k_read_value => k_is); (case n_cell => k_is); (case l_cell => k_is); (case c_cell => k_is); (case k_cell => k_is)
    (case n_numbers => k_is); (case l_numbers => k_is); (case c_numbers => k_is); (case k_numbers => k_is); (case n_state => k_is); (case l_state => k_is)
    (case c_state => k_is); (case k_state => k_is); (case n_next => k_is); (case l_next => k_is); (case c_next => k_is); (case k_next => k_is)
    (case n_value => k_is); (case l_value => k_is); (case c_value => k_is); (case k_value => k_is); (case n_written => k_is); (case l_written => k_is)
    (case c_written => k_is); (case k_written => k_is); (case n_read => k_is); (case l_read => k_is); (case c_read => k_is); (case k_read => k_is)
    (case n_due => k_is); (case l_due => k_is); (case c_due => k_is); (case k_due => k_is); (case n_spoilt => k_is); (case l_spoilt => k_is)
    (case c_spoilt => k_is); (case k_spoilt => k_is); (case n_law => k_is); (case l_law => k_is); (case c_law => k_is); (case k_law => k_is)
    (case n_AnytextError => k_is); (case n_PatternError => k_is); (case n_ProgramError => k_is); (case n_RecordError => k_is); (case n_BadLine => k_is); (case n_BadRecord => k_is)
    (case ini_BadRecord => k_is); (case l_init => k_is); (case c_init => k_is); (case k_init => k_is); (case ti_init => k_is); (case lt_init => k_is)
    (case i_BadLine => k_is); (case t_BadLine => k_is); (case e_BadLine => k_is); (case h_BadLine => k_is); (case i_BadRecord => k_is); (case t_BadRecord => k_is)
    (case e_BadRecord => k_is); (case h_BadRecord => k_is); (case i_PatternError => k_is); (case t_PatternError => k_is); (case e_PatternError => k_is); (case h_PatternError => k_is)
    (case i_ProgramError => k_is); (case t_ProgramError => k_is); (case e_ProgramError => k_is); (case h_ProgramError => k_is); (case i_RecordError => k_is); (case t_RecordError => k_is)
    (case e_RecordError => k_is); (case h_RecordError => k_is); (case l_BadRecord => k_is); (case sa_BadRecord => k_is); (case ga_BadRecord => k_is); (case gg_BadRecord => k_is)
    (case nw_BadRecord => k_is); (case cc_BadRecord => k_is); (case mo_BadRecord => k_is); (case se_BadRecord => k_is); (case kC_BadRecord => k_is); (case s_BadRecord_BadLine => k_is)
    (case s_BadRecord_PatternError => k_is); (case s_BadRecord_ProgramError => k_is); (case s_BadRecord_RecordError => k_is); (case sp_B => k_is); (case tk_B => k_is); (case n_ValueReader => k_is)
    (case pg_ValueReader => k_is); (case hd_ValueReader => k_is); (case po_ValueReader => k_is); (case sa_ValueReader => k_is); (case mk_ValueReader => k_is); (case kc_ValueReader => k_is)
    (case na_ValueReader_text => k_is); (case na_ValueReader_place => k_is); (case i_ValueReader_init => k_is); (case q_ValueReader_init => k_is); (case l_ValueReader_init => k_is); (case c_ValueReader_init => k_is)
    (case k_ValueReader_init => k_is); (case i_ValueReader_faces => k_is); (case q_ValueReader_faces => k_is); (case l_ValueReader_faces => k_is); (case c_ValueReader_faces => k_is); (case k_ValueReader_faces => k_is)
    (case i_ValueReader_take => k_is); (case q_ValueReader_take => k_is); (case l_ValueReader_take => k_is); (case c_ValueReader_take => k_is); (case k_ValueReader_take => k_is); (case i_ValueReader_whole => k_is)
    (case q_ValueReader_whole => k_is); (case l_ValueReader_whole => k_is); (case c_ValueReader_whole => k_is); (case k_ValueReader_whole => k_is); (case i_ValueReader_value => k_is); (case q_ValueReader_value => k_is)
    (case l_ValueReader_value => k_is); (case c_ValueReader_value => k_is); (case k_ValueReader_value => k_is); (case i_ValueReader_items_behind => k_is); (case q_ValueReader_items_behind => k_is); (case l_ValueReader_items_behind => k_is)
    (case c_ValueReader_items_behind => k_is); (case k_ValueReader_items_behind => k_is); (case i_ValueReader_text_behind => k_is); (case q_ValueReader_text_behind => k_is); (case l_ValueReader_text_behind => k_is); (case c_ValueReader_text_behind => k_is)
    (case k_ValueReader_text_behind => k_is); (case i_ValueReader_number_from => k_is); (case q_ValueReader_number_from => k_is); (case l_ValueReader_number_from => k_is); (case c_ValueReader_number_from => k_is); (case k_ValueReader_number_from => k_is)
    (case z_abs => k_is); (case z_bool => k_is); (case z_int => k_is); (case z_isinstance => k_is); (case z_len => k_is); (case z_range => k_is)
    (case z_repr => k_is); (case z_str => k_is); (case z_tuple => k_is); (case k_LETTERS => k_is); (case k_DIGITS => k_is); (case k_MOST_DIGITS => k_is)
    (case k_MOST_DEEP => k_is); (case k_QUOTE => k_is)

