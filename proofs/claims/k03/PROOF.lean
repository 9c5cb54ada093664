import PyProof.Rows.All
import Wide.All
import OpenK.AllK
import Wide.FinOn
import HandS.ForMost
import HandS.ForExc
import HandS.Walk
import HandS.Evl
import HandS.ExcInit
import HandS.ExcField
import HandS.ExcIs
import HandS.IsInst
import HandS.RaiseMore
import HandS.TupAny
import HandS.TryOnly
import HandS.Defaults
import HandS.Steps
import KE.KExcIs
import HandS.TupMul
import PyProof.ReprRoads
import HandS.Replace
import KE.DataMinMax
import KE.DataCmp
import PyProof.StrBlock2
import HandS.Ends
import HandS.Style
import KE.KDictDisplayH
import PyProof.Draws
import PyProof.EnumMake
import PyProof.WalksMore
import HandS.Zip0
import HandS.DictComp
import HandS.TupLe
import HandS.Nested
import HandS.NestedK
import HandS.EndTab
import HandS.HeadWalk
import KE.KNestM
import HandS.Rev
import HandS.MapObj
import PyProof.StrWalks
import PyProof.JoinWalk
import HandS.Strs
import HandS.Conv
import PyProof.ListIndex
import HandS.SetKeys
import HandS.SetBool
import HandS.SortInts
import KE.KDictKeyed
import HandS.SetFor
import HandS.Flow
import HandS.WordsDict
import KE.KRevSl
import HandS.TryMany
import HandS.Iter
import HandS.TupLen
import KE.KDictList
import HandS.WrittenGet
import PyProof.AutoSeq1
import PySem.Challenge.RW_anytext_k03_printed_patterns
set_option Elab.async false
set_option linter.all false
set_option maxRecDepth 100000
set_option maxHeartbeats 4000000
/-! own words: readings step by step, operators by several kinds of values -/
namespace AT
open PySem PySem.Spec PyProof.Rows L2
abbrev Ex := Evl.Ex
section
variable {X : Cx} {f : Value → Value → Sem Value} {r r' : R2}
theorem OpR.or (h : OpR X f r) (h' : OpR X f r') : OpR X f (fun x y H Q => r x y H Q ∨ r' x y H Q) := by
  intro pins s σ H x y v u Q I rx ry q
  rcases q with q | q
  · exact h pins s σ H x y v u Q I rx ry q
  · exact h' pins s σ H x y v u Q I rx ry q
theorem CallR.or {f : Value} {r r' : List V → Hp → VK → Prop} (h : CallR X f r) (h' : CallR X f r') : CallR X f (fun x H Q => r x H Q ∨ r' x H Q) := by
  intro pins s σ H x us Q I rx q
  rcases q with q | q
  · exact h pins s σ H x us Q I rx q
  · exact h' pins s σ H x us Q I rx q
end
/-! ### operators -/
/-- + of ints, of texts, of lists -/
def oAdd (K : PySem.W.Frag) : R2 := fun x y H Q => (rI0 (fun i j => .int (i + j)) x y H Q) ∨ (∃ i j : Str, x = .str i ∧ y = .str j ∧ i.length + j.length ≤ sizeLine ∧ Q (.str (i ++ j)) H) ∨ rCat x y H Q ∨ rCatT K x y H Q
theorem op_addP {X : Cx} : OpR X (binaryOp .Add) (oAdd X.K) := OpR.or op_add (OpR.or op_add_str (OpR.or op_cat op_catT))
def oSub : R2 := rI0 fun i j => .int (i - j)
theorem op_subP {X : Cx} : OpR X (binaryOp .Sub) oSub := op_sub
def oMul : R2 := rI CMul fun i j => .int (i * j)
theorem op_mulP {X : Cx} : OpR X (binaryOp .Mult) oMul := op_mul
def oMod : R2 := rI (fun _ j => j ≠ 0) fun i j => .int (i.fmod j)
theorem op_modP {X : Cx} : OpR X (binaryOp .Mod) oMod := op_modN
def oDiv : R2 := rI CDivN fun i j => .int (i.fdiv j)
theorem op_divP {X : Cx} : OpR X (binaryOp .FloorDiv) oDiv := op_fdivN
def oPow : R2 := rI CPow fun i j => .int (i ^ j.toNat)
theorem op_powP {X : Cx} : OpR X (binaryOp .Pow) oPow := op_pow
def oLt : R2 := rI0 fun i j => .bl (decide (i < j))
def oLe : R2 := rI0 fun i j => .bl (decide (i ≤ j))
def oGt : R2 := rI0 fun i j => .bl (decide (j < i))
def oGe : R2 := rI0 fun i j => .bl (decide (j ≤ i))
theorem op_ltP {X : Cx} : OpR X (compareOp .Lt) oLt := op_lt
theorem op_leP {X : Cx} : OpR X (compareOp .LtE) oLe := op_le
theorem op_gtP {X : Cx} : OpR X (compareOp .Gt) oGt := op_gt
theorem op_geP {X : Cx} : OpR X (compareOp .GtE) oGe := op_ge
/-- == of ints, bools, texts; of data -/
def oEq (K : PySem.W.Frag) : R2 := fun x y H Q => rEq x y H Q ∨ rEqD K x y H Q
def oNe (K : PySem.W.Frag) : R2 := fun x y H Q => rNe x y H Q ∨ rNeD K x y H Q
theorem op_eqP {X : Cx} (hu : X.A.units + 64 < cLine) : OpR X (compareOp .Eq) (oEq X.K) := OpR.or op_eq (op_eqD hu)
theorem op_neP {X : Cx} (hu : X.A.units + 64 < cLine) : OpR X (compareOp .NotEq) (oNe X.K) := OpR.or op_ne (op_neD hu)

/-! ### reading, step by step -/
section rd
variable {K : PySem.W.Frag} {σ : L2.St} {H : Hp} {Q : VK} {QB : Bool → Hp → Prop} {QL : List V → Hp → Prop} {D : Ends} {ta tb tc te to : TE} {tt uu : TT} {tl : TA} {t u : TS} {g : TG} {i : Nat} {v w x y : V} {r r' : R2} {QS : L2.St → Hp → Prop}
theorem rd_seq (h : t { D with nx := u D } σ H) : tSeq t u D σ H := h
theorem rd_asg (h : te σ H fun x H1 => g x σ H1 D.nx) : tAsg te g D σ H := h
theorem rd_name (h : QS (σ.set i (some v)) H) : gName i v σ H QS := h
theorem rd_var (e : σ[i]? = some (some v)) (h : Q v H) : tVar i σ H Q := ⟨v, e, h⟩
theorem rd_c (h : Q v H) : tC v σ H Q := h
theorem rd_op (h : ta σ H fun x H1 => tb σ H1 fun y H2 => r x y H2 Q) : tOp r ta tb σ H Q := h
theorem rd_ret (h : te σ H D.rt) : tRet te D σ H := h
theorem rd_retN (h : D.rt .non H) : tRetN D σ H := h
theorem rd_if (h : tt σ H fun b H1 => if b = true then t D σ H1 else u D σ H1) : tIfS tt t u D σ H := h
theorem rd_ife (h : tt σ H fun b H1 => if b = true then ta σ H1 Q else tb σ H1 Q) : tIf tt ta tb σ H Q := h
theorem rd_next (h : D.nx σ H) : tNext D σ H := h
theorem rd_drop (h : te σ H fun _ H1 => D.nx σ H1) : tDrop te D σ H := h
theorem rd_test (h : te σ H fun x H' => ∃ k, x = .bl k ∧ QB k H') : tTest te σ H QB := h
theorem rd_tB (h : te σ H fun x H' => ∃ k, x = .bl k ∧ QB k H') : tB te σ H QB := h
theorem rd_bl {b : Bool} {P : Bool → Prop} (h : P b) : ∃ k, V.bl b = .bl k ∧ P k := ⟨b, rfl, h⟩
theorem rd_not (h : tt σ H fun c H1 => QB (!c) H1) : tNot tt σ H QB := h
theorem rd_and (h : tt σ H fun c H1 => if c = true then uu σ H1 QB else QB false H1) : tAnd tt uu σ H QB := h
theorem rd_or (h : tt σ H fun c H1 => if c = true then QB true H1 else uu σ H1 QB) : tOr tt uu σ H QB := h
theorem rd_nil (h : QL [] H) : tNil σ H QL := h
theorem rd_cons (h : ta σ H fun x H1 => tl σ H1 fun xs H2 => QL (x :: xs) H2) : tCons ta tl σ H QL := h
theorem rd_lst (h : tl σ H fun xs H1 => xs.length ≤ sizeLine ∧ ∀ p, H1 p = none → Q (.ref p) (upd H1 p (.lst xs))) : tLst tl σ H Q := h
theorem rd_tup (h : tl σ H fun xs H1 => xs.length ≤ sizeLine ∧ ∀ p, H1 p = none → Q (.ref p) (upd H1 p (.tup xs))) : tTup tl σ H Q := h
theorem rd_cb {rc : List V → Hp → VK → Prop} (h : tl σ H fun vs H1 => rc vs H1 Q) : tCB rc tl σ H Q := h
theorem rd_chain (h : ta σ H fun x H1 => tb σ H1 fun y H2 => r x y H2 fun z H3 => ∃ k, z = .bl k ∧ if k = true then tc σ H3 fun w H4 => r' y w H4 Q else Q (.bl false) H3) : tChain r r' ta tb tc σ H Q := h
theorem rd_call {sp : Sp} {dvs : List V} {E : XK} (h : tl σ H fun vs H1 => sp (vs ++ dvs) H1 Q E) : tCall sp dvs E tl σ H Q := h
theorem rd_iteT {A B : Prop} (h : A) : if true = true then A else B := iteT h
theorem rd_iteF {A B : Prop} (h : B) : if false = true then A else B := iteF h
theorem rd_itet {A B : Prop} {c : Bool} (e : c = true) (h : A) : if c = true then A else B := by rw [e]; exact iteT h
theorem rd_itef {A B : Prop} {c : Bool} (e : c = false) (h : B) : if c = true then A else B := by rw [e]; exact iteF h
theorem rd_ite {A B : Prop} {c : Bool} (h1 : c = true → A) (h2 : c = false → B) : if c = true then A else B := by
  cases c with
  | true => exact iteT (h1 rfl)
  | false => exact iteF (h2 rfl)
theorem rd_iteD {A B p : Prop} [Decidable p] (h1 : p → A) (h2 : ¬ p → B) : if decide p = true then A else B := rd_ite (fun e => h1 (of_decide_eq_true e)) fun e => h2 (of_decide_eq_false e)
theorem rd_iteN {A B p : Prop} [Decidable p] (h1 : ¬ p → A) (h2 : p → B) : if (!decide p) = true then A else B := rd_ite (fun e => h1 (by simpa using e)) fun e => h2 (by simpa using e)
/-! ints -/
variable {a b : Int}
theorem rd_addI (h : Q (.int (a + b)) H) : oAdd K (.int a) (.int b) H Q := .inl ⟨a, b, rfl, rfl, h⟩
theorem rd_subI (h : Q (.int (a - b)) H) : oSub (.int a) (.int b) H Q := ⟨a, b, rfl, rfl, h⟩
theorem rd_mulI (c : CMul a b) (h : Q (.int (a * b)) H) : oMul (.int a) (.int b) H Q := ⟨a, b, rfl, rfl, c, h⟩
theorem rd_modI (c : b ≠ 0) (h : Q (.int (a.fmod b)) H) : oMod (.int a) (.int b) H Q := ⟨a, b, rfl, rfl, c, h⟩
theorem rd_divI (c : CDivN a b) (h : Q (.int (a.fdiv b)) H) : oDiv (.int a) (.int b) H Q := ⟨a, b, rfl, rfl, c, h⟩
theorem rd_powI (c : CPow a b) (h : Q (.int (a ^ b.toNat)) H) : oPow (.int a) (.int b) H Q := ⟨a, b, rfl, rfl, c, h⟩
theorem rd_lt (h : Q (.bl (decide (a < b))) H) : oLt (.int a) (.int b) H Q := ⟨a, b, rfl, rfl, h⟩
theorem rd_le (h : Q (.bl (decide (a ≤ b))) H) : oLe (.int a) (.int b) H Q := ⟨a, b, rfl, rfl, h⟩
theorem rd_gt (h : Q (.bl (decide (b < a))) H) : oGt (.int a) (.int b) H Q := ⟨a, b, rfl, rfl, h⟩
theorem rd_ge (h : Q (.bl (decide (b ≤ a))) H) : oGe (.int a) (.int b) H Q := ⟨a, b, rfl, rfl, h⟩
theorem rd_eqI (h : Q (.bl (decide (a = b))) H) : oEq K (.int a) (.int b) H Q := .inl ⟨rfl, by
  have e : decide (V.int a = V.int b) = decide (a = b) := decide_eq_decide.mpr ⟨fun z => V.int.inj z, fun z => by rw [z]⟩
  rw [e]; exact h⟩
theorem rd_neI (h : Q (.bl (!decide (a = b))) H) : oNe K (.int a) (.int b) H Q := .inl ⟨rfl, by
  have e : decide (V.int a = V.int b) = decide (a = b) := decide_eq_decide.mpr ⟨fun z => V.int.inj z, fun z => by rw [z]⟩
  rw [e]; exact h⟩
theorem rd_eqS {x y : Str} (h : Q (.bl (decide (x = y))) H) : oEq K (.str x) (.str y) H Q := .inl ⟨rfl, by
  have e : decide (V.str x = V.str y) = decide (x = y) := decide_eq_decide.mpr ⟨fun z => V.str.inj z, fun z => by rw [z]⟩
  rw [e]; exact h⟩
theorem rd_neS {x y : Str} (h : Q (.bl (!decide (x = y))) H) : oNe K (.str x) (.str y) H Q := .inl ⟨rfl, by
  have e : decide (V.str x = V.str y) = decide (x = y) := decide_eq_decide.mpr ⟨fun z => V.str.inj z, fun z => by rw [z]⟩
  rw [e]; exact h⟩
theorem rd_addS {x y : Str} (c : x.length + y.length ≤ sizeLine) (h : Q (.str (x ++ y)) H) : oAdd K (.str x) (.str y) H Q := .inr (.inl ⟨x, y, rfl, rfl, c, h⟩)
theorem rd_cat {l m : Addr} {xs ys : List V} (h1 : H l = some (.lst xs)) (h2 : H m = some (.lst ys)) (c : xs.length + ys.length ≤ sizeLine) (h : ∀ p, H p = none → Q (.ref p) (upd H p (.lst (xs ++ ys)))) : oAdd K (.ref l) (.ref m) H Q := .inr (.inr (.inl ⟨l, m, xs, ys, rfl, rfl, h1, h2, c, h⟩))
/-! calls of built-ins -/
end rd
/-! ### heaps -/
theorem ex_upd {H0 H : Hp} {p : Addr} {o : HO} (e : Ex H0 H) (h : H p = none) : Ex H0 (upd H p o) := fun a u q => by
  rw [upd_ne (ne_of_none (e a u q) h)]
  exact e a u q
theorem sq_upd {K : PySem.W.Frag} {H : Hp} {a p : Addr} {o : HO} {xs : List V} (hp : H p = none) (h : SqL K H a xs) : SqL K (upd H p o) a xs := Evl.ex_l (Evl.Ex.new hp) h
theorem sqt_upd {K : PySem.W.Frag} {H : Hp} {a p : Addr} {o : HO} {xs : List V} (hp : H p = none) (h : SqT K H a xs) : SqT K (upd H p o) a xs := Evl.ex_t (Evl.Ex.new hp) h
theorem at_upd {H : Hp} {a p : Addr} {o u : HO} (hp : H p = none) (h : H a = some u) : upd H p o a = some u := by
  rw [upd_ne (ne_of_none h hp)]; exact h

/-! ### more operators: in, len, slices, what is walked, repr -/
section
variable {X : Cx}
def oIn (K : PySem.W.Frag) : R2 := fun x y H Q => (∃ (c : Nat) (z : Str), x = .str ⟨#[c]⟩ ∧ y = .str z ∧ Q (.bl (decide (c ∈ z.cps.toList))) H) ∨ rIn K false x y H Q
def oNotIn (K : PySem.W.Frag) : R2 := fun x y H Q => (∃ (c : Nat) (z : Str), x = .str ⟨#[c]⟩ ∧ y = .str z ∧ Q (.bl (!decide (c ∈ z.cps.toList))) H) ∨ rIn K true x y H Q
theorem op_inP : OpR X (compareOp .In) (oIn X.K) := OpR.or op_in_sign op_in_seq
theorem op_notInP : OpR X (compareOp .NotIn) (oNotIn X.K) := OpR.or op_notIn_sign op_notIn_seq
def cLen (K : PySem.W.Frag) : List V → Hp → VK → Prop := fun xs H Q => (∃ x n, xs = [x] ∧ LenV K x H n ∧ Q (.int n) H) ∨ ∃ a kvs, xs = [V.ref a] ∧ H a = some (.dK kvs) ∧ Q (.int kvs.length) H
theorem call_lenP : CallR X (.builtin "len") (cLen X.K) := CallR.or call_len call_lenD
def cInt : List V → Hp → VK → Prop := fun xs H Q => (∃ i, xs = [.int i] ∧ Q (.int i) H) ∨ ∃ k, xs = [.bl k] ∧ Q (.int (if k then 1 else 0)) H
theorem call_intP : CallR X (.type "int") cInt := call_int1
def cAbs : List V → Hp → VK → Prop := fun xs H Q => ∃ i, xs = [.int i] ∧ Q (.int (if i < 0 then -i else i)) H
theorem call_absP : CallR X (.builtin "abs") cAbs := call_abs
def oSl (K : PySem.W.Frag) : V → Option Int → Option Int → Hp → VK → Prop := fun x lo hi H Q => rSlL K x lo hi H Q ∨ rSlS x lo hi H Q ∨ rSlA K x lo hi H Q
theorem sl_P : SlR X (oSl X.K) := SlR.or sl_list (SlR.or sl_str sl_tupA)
theorem PI.or {tg iter : Expr} {w w' : TI} (h : PI X tg iter w) (h' : PI X tg iter w') : PI X tg iter (fun σ H R => w σ H R ∨ w' σ H R) :=
  ⟨fun pins s σ H R I q => q.elim (h.run pins s σ H R I) (h'.run pins s σ H R I)⟩
def iAny (K : PySem.W.Frag) (te : TE) : TI := fun σ H R => iList K te σ H R ∨ iTup K te σ H R ∨ iStr te σ H R
theorem pi_any {tg e : Expr} {te : TE} (he : PE X e te) : PI X tg e (iAny X.K te) := PI.or (pi_list he) (PI.or (pi_tup he) (pi_str he))
theorem call_repr_bl : CallR X (.builtin "repr") (fun xs H Q => ∃ b, xs = [.bl b] ∧ Q (.str (if b then "True" else "False")) H) := by
  intro pins s σ H xs us Q I r h
  obtain ⟨b, rfl, q⟩ := h
  obtain ⟨u, rfl, ru⟩ := vals1 r
  cases (show u = Value.bool b from ru)
  exact PySem.P.repr_of_bool ⟨.str _, H, I.tok _, ⟨_, rfl⟩, q⟩
def cRepr : List V → Hp → VK → Prop := fun xs H Q => (∃ i, xs = [.int i] ∧ i.natAbs.log2 < 1920 ∧ Q (.str (toString i)) H) ∨ ∃ b, xs = [.bl b] ∧ Q (.str (if b then "True" else "False")) H
theorem call_reprP : CallR X (.builtin "repr") cRepr := CallR.or SkE.call_repr_int call_repr_bl
end
/-! ### own defs -/
/-- the def named x stands at f; all its parameters are written at a call -/
structure Own (K : PySem.W.Frag) (mg : Str → Option Value) (x : Str) (f : Addr) (fd : FuncData) (ps : List Str) : Prop where
  g : mg x = some (.ref f)
  k : PySem.W.keepIn K (.ref f) = true
  b : Binds K fd ps []
section
variable {X : Cx} {k : Nat} {f : Addr} {fd : FuncData} {ps : List Str} {sp : Sp} {x : Str} {p pos : Pos} {e : Expr} {es : List Expr} {t : TA}
def tCalled (sp : Sp) (t : TA) : TE := fun σ H Q => t σ H fun vs H1 => sp vs H1 Q E0
/-- a call of a def that raises nothing -/
theorem pe_callE (F : FnOk X.prog X.w X.K X.mg X.base CX0 k f fd ps sp) (hr : Room k X.A) (O : Own X.K X.mg x f fd ps) (ha : PA X (e :: es) t) (hg : Gl X x := by rfl)
    (hdb : (x == ("__debug__" : Str)) = false := by decide) (he : starEach (e :: es) X.env = (false, eval e X.env) :: starEach es X.env := by rfl) (hpl : (backTo pos (starEach es X.env)).any (·.1) = false := by rfl) :
    PE X (.Call (.Name x p) (e :: es) [] pos) (tCalled sp t) := pe_callS (E := fun _ => E0) F hr hg O.g O.k O.b (fun _ _ _ _ _ _ _ h => h.elim) ha hdb he hpl
def tCalledR (sp : Sp) (W : WX) (t : TA) : TE := fun σ H Q => t σ H fun vs H1 => sp vs H1 Q fun c d H2 => W c d σ H2
/-- a call of a def that may raise -/
theorem pe_callR {W : WX} (F : FnOk X.prog X.w X.K X.mg X.base (L2.CX X.prog X.w) k f fd ps sp) (hr : Room k X.A) (O : Own X.K X.mg x f fd ps) (tk : Takes X W) (ha : PA X (e :: es) t) (hg : Gl X x := by rfl)
    (hdb : (x == ("__debug__" : Str)) = false := by decide) (he : starEach (e :: es) X.env = (false, eval e X.env) :: starEach es X.env := by rfl) (hpl : (backTo pos (starEach es X.env)).any (·.1) = false := by rfl) :
    PE X (.Call (.Name x p) (e :: es) [] pos) (tCalledR sp W t) := pe_callS (E := WE W) F hr hg O.g O.k O.b (fun σ => passAt tk σ) ha hdb he hpl
end
/-! ### exceptions with the one attribute «what» -/
/-- the __init__ of the family: self.what = what -/
def spInit (K : PySem.W.Frag) : Sp := fun vs H Q _ => ∃ (a C : Addr) (v : V), vs = [.ref a, v] ∧ OexC K C ∧ PySem.W.findIn K (.ref C) "what" = some none ∧ H a = some (exo a C none) ∧
  ∀ dx, H dx = none → dx ≠ a → Q .non (upd (upd H dx (exd dx [("what", v)])) a (exo a C (some dx)))
/-- what the written part says of such a class -/
structure ErrX (K : PySem.W.Frag) (C fI : Addr) : Prop where
  ox : OexC K C
  xf : XfC K C
  nw : PySem.W.findIn K (.ref C) "what" = some none
  ini : PySem.W.findIn K (.ref C) "__init__" = some (some (.ref fI))
  cl : PySem.W.isClsIn K C = true
  cc : PySem.W.findIn K (.ref C) "__class__" = some (some (.builtin "object.__class__"))
  mo : PySem.W.mroIn K C (.type "object") = some true
  se : PySem.W.subIn K (.ref C) (.ref C) = some true
/-- of the builtin that tells an object's class -/
structure ClsB (K : PySem.W.Frag) : Prop where
  sp : PySem.W.specialIn K (.builtin "object.__class__") "__get__" = some (some (.builtin "getset_descriptor.__get__"))
  tk : PySem.W.takesIn K (.builtin "object.__class__") = some true
theorem mk_what {K : PySem.W.Frag} {C fI : Addr} {v : V} {H1 : Hp} {Q : XK} {vs : List V} (T : ErrX K C fI) (ev : vs = [v]) (h : ∀ d, H1 d = none → Q (.ref C) (some d) (upd H1 d (.xd [("what", v)]))) :
    vs.length ≤ 1000 ∧ ∀ a, H1 a = none → spInit K (.ref a :: (vs ++ [])) (upd H1 a (exo a C none))
      (fun u H2 => u = .non ∧ ∃ (d : Addr) (fs : List (Str × V)), H2 a = some (exo a C (some d)) ∧ H2 d = some (exd d fs) ∧ H1 d = none ∧ Q (.ref C) (some d) (upd (del H2 a) d (.xd fs))) (fun _ _ _ => False) := by
  subst ev
  refine ⟨by show 1 ≤ 1000; decide, fun a ha => ⟨a, C, v, rfl, T.ox, T.nw, upd_same, fun dx hdx ne => ⟨rfl, dx, [("what", v)], upd_same, ?_, ?_, ?_⟩⟩⟩
  · rw [upd_ne ne, upd_same]
  · rw [upd_ne ne] at hdx
    exact hdx
  · rw [upd_ne ne] at hdx
    have e : upd (del (upd (upd (upd H1 a (exo a C none)) dx (exd dx [("what", v)])) a (exo a C (some dx))) a) dx (.xd [("what", v)]) = upd H1 dx (.xd [("what", v)]) := by
      funext b
      by_cases h1 : b = dx
      · rw [h1, upd_same, upd_same]
      · rw [upd_ne h1, upd_ne h1]
        by_cases h2 : b = a
        · rw [h2, del_same, ha]
        · rw [del_ne h2, upd_ne h2, upd_ne h1, upd_ne h2]
    rw [e]
    exact h dx hdx
/-- raise C(e) -/
def tRaised (C : Addr) (W : WX) (ta : TA) : TS := fun _ σ H => ta σ H fun vs H1 => ∃ v, vs = [v] ∧ ∀ d, H1 d = none → W (.ref C) (some d) σ (upd H1 d (.xd [("what", v)]))
section
variable {X : Cx} {C fI : Addr} {fd : FuncData} {x : Str} {p pos pos2 : Pos} {e : Expr} {ta : TA} {W : WX}
theorem PA.imp {es : List Expr} {t t' : TA} (h : PA X es t) (hi : ∀ σ H Q, t' σ H Q → t σ H Q) : PA X es t' := ⟨fun pos pins s σ H Q I q => h.run pos pins s σ H Q I (hi σ H Q q)⟩
theorem PS.imp {st : Stmt} {t t' : TS} (h : PS X st t) (hi : ∀ D σ H, t' D σ H → t D σ H) : PS X st t' := ⟨fun pins s σ H D I q => h.run pins s σ H D I (hi D σ H q)⟩
/-- a reading is monotone in its wish -/
def MonoA (t : TA) : Prop := ∀ σ H (Q Q' : List V → Hp → Prop), (∀ vs H1, Q vs H1 → Q' vs H1) → t σ H Q → t σ H Q'
theorem ps_raiseW (hc : X.calm = true) (T : ErrX X.K C fI) (G : FnOk X.prog X.w X.K X.mg X.base CX0 1 fI fd ["self", "what"] (spInit X.K)) (tI : PySem.W.typeIn X.K (.ref fI) = some (.type "function")) (bI : Binds X.K fd ["self", "what"] []) (hr : Room 2 X.A) (hm : X.mg x = some (.ref C))
    (tk : Takes X W) (ha : PA X (e :: []) ta) (mo : MonoA ta) (hg : Gl X x := by rfl) (hdb : (x == ("__debug__" : Str)) = false := by decide)
    (he : starEach (e :: []) X.env = (false, eval e X.env) :: starEach [] X.env := by rfl) (hpl : (backTo pos (starEach [] X.env)).any (·.1) = false := by rfl) :
    PS X (.Raise (some (.Call (.Name x p) (e :: []) [] pos)) none pos2) (tRaised C W ta) := by
  refine PS.imp (ps_raise hc tk (pmk_oex (pos := pos) T.ox T.ini tI G hr bI .nil pass0 hg hm ha hdb he hpl)) fun D σ H q => ?_
  refine mo σ H _ _ (fun vs H1 q => ?_) q
  obtain ⟨v, ev, h⟩ := q
  exact mk_what (Q := fun c d H' => W c d σ H') T ev h
theorem MonoA.nil : MonoA tNil := fun _ _ _ _ h q => h _ _ q
theorem MonoA.one {te : TE} (m : ∀ σ H (Q Q' : VK), (∀ v H1, Q v H1 → Q' v H1) → te σ H Q → te σ H Q') : MonoA (tCons te tNil) := fun σ H Q Q' h q => m σ H _ _ (fun v H1 z => h _ _ z) q
theorem mono_var {i : Nat} : ∀ σ H (Q Q' : VK), (∀ v H1, Q v H1 → Q' v H1) → tVar i σ H Q → tVar i σ H Q' := fun _ _ _ _ h ⟨v, e, q⟩ => ⟨v, e, h _ _ q⟩
theorem mono_c {v : V} : ∀ σ H (Q Q' : VK), (∀ v H1, Q v H1 → Q' v H1) → tC v σ H Q → tC v σ H Q' := fun _ _ _ _ h q => h _ _ q
end
/-- isinstance(e, c), isinstance(e, (c, ..)): e the exception that the suite holds -/
def cIsE (K : PySem.W.Frag) (D a dd : Addr) : List V → Hp → VK → Prop := fun xs H Q => ∃ (fs : List (Str × V)) (b : Bool), H dd = some (.xd fs) ∧
  ((∃ (c : V) (cv : Value), xs = [.ref a, c] ∧ ClsV c cv ∧ PySem.W.kitOne K (.ref D) cv = some b) ∨ ∃ (tp : Addr) (cs : List V) (us : List Value), xs = [.ref a, .ref tp] ∧ H tp = some (.tup cs) ∧ Paired ClsV cs us ∧ PySem.W.kitAny K (.ref D) us = some b) ∧ Q (.bl b) H
theorem call_isX {X : Cx} {a D dd fI : Addr} {oe : Obj} {pn : List (Addr × Obj)} (T : ErrX X.K D fI) (B : ClsB X.K) (hz : Zc (.ref D) (some dd) oe) (hf : ∃ vs, oe.data = .fields vs) : CallR (X.suite a ((a, oe) :: pn)) (.builtin "isinstance") (cIsE X.K D a dd) := by
  intro pins s σ H xs us Q I r h
  obtain ⟨fs, b, hdd, hc, q⟩ := h
  obtain ⟨mA, hns, _⟩ := (show ObjOk X.prog X.w H s.heap dd (.xd fs) from I.hok dd _ hdd)
  obtain ⟨od, ho, _⟩ := lookIn_ns hns
  obtain ⟨hget, _⟩ := I.pin (a, oe) (List.mem_append.mpr (.inl List.mem_cons_self))
  obtain ⟨vs, hv⟩ := hf
  have J : PySem.W.InstAt s.heap a oe D (some od) := ⟨hget, hz.1, by unfold PySem.W.notCls; rw [hv] <;> rfl, by rw [hz.2]; exact ho⟩
  have Z : PySem.W.KitX X.K (.ref a) (.ref D) (fun h => PySem.W.InstAt h a oe D (some od)) := PySem.W.kitx_exc T.cl T.xf.ga T.xf.gg T.xf.exC T.cc B.sp B.tk T.mo
  rcases hc with ⟨c, cv, rfl, hcv, e⟩ | ⟨tp, cs, ws, rfl, hT, hcs, e⟩
  · obtain ⟨u1, u2, rfl, r1, r2⟩ := vals2 r
    cases (show u1 = Value.ref a from r1)
    have e2 := hcv.eq r2
    subst e2
    exact PySem.W.kia_one Z I.kIn J e (fun z => nomatch z) fun tk => ⟨.bl b, H, I.tok tk, rfl, q⟩
  · obtain ⟨u1, u2, rfl, r1, r2⟩ := vals2 r
    cases (show u1 = Value.ref a from r1)
    cases (show u2 = Value.ref tp from r2)
    obtain ⟨_, its, rv, o, h1, h2, n, h3⟩ := (show ObjOk X.prog X.w H s.heap tp (.tup cs) from I.hok tp _ hT)
    have e3 := ClsV.all hcs rv
    subst e3
    obtain ⟨oc, od', dt, sl⟩ := o
    simp only at h2 h3
    subst h2 h3
    exact PySem.W.kia_tup Z I.kIn J h1 e (fun z => nomatch z) fun tk => ⟨.bl b, H, I.tok tk, rfl, q⟩
/-- an own class or a class of Python's beside it: what isinstance says -/
theorem kit_ref {K : PySem.W.Frag} {D C fI : Addr} {b : Bool} (T : ErrX K D fI) (cl : PySem.W.isClsIn K C = true) (ty : PySem.W.typeIn K (.ref C) = some (.type "type")) (s : PySem.W.subIn K (.ref D) (.ref C) = some b) : PySem.W.kitOne K (.ref D) (.ref C) = some b := by
  by_cases e : D = C
  · subst e
    rw [T.se] at s
    obtain rfl : true = b := Option.some.inj s
    unfold PySem.W.kitOne
    rw [if_pos (by simp)]
  · unfold PySem.W.kitOne
    rw [if_neg (by simp [e])]
    show (if ((PySem.W.clsIn K C).isSome && PySem.W.typeIn K (.ref C) == some (.type "type")) = true then PySem.W.subIn K (.ref D) (.ref C) else none) = some b
    have e1 : (PySem.W.clsIn K C).isSome = true := cl
    rw [e1, ty, s]
    rfl
theorem kit_bt {K : PySem.W.Frag} {D : Addr} {n : String} {b : Bool} (m : PySem.W.kitMeta n = true) (s : PySem.W.subIn K (.ref D) (.type n) = some b) : PySem.W.kitOne K (.ref D) (.type n) = some b := by
  unfold PySem.W.kitOne
  rw [if_neg (by simp)]
  show (if PySem.W.kitMeta n = true then PySem.W.subIn K (.ref D) (.type n) else none) = some b
  rw [if_pos m, s]

theorem PSs.exi {ι : Type} {X : Cx} {st : List Stmt} {P : ι → Prop} {t : ι → TS} (h : ∀ i, P i → PSs X st (t i)) : PSs X st (fun D σ H => ∃ i, P i ∧ t i D σ H) :=
  ⟨fun pins s σ H D I ⟨i, p, q⟩ => (h i p).run pins s σ H D I q⟩
/-- what a suite knows of its exception: its class, its dict, where the family's __init__ stands -/
structure Caught (K : PySem.W.Frag) (cls : Value) (d : Option Addr) (i : Addr × Addr × Addr) : Prop where
  c : cls = .ref i.1
  e : d = some i.2.1
  x : ErrX K i.1 i.2.2
theorem Caught.z {K : PySem.W.Frag} {cls : Value} {d : Option Addr} {i : Addr × Addr × Addr} {oe : Obj} (h : Caught K cls d i) (hz : Zc cls d oe) : Zc (.ref i.1) (some i.2.1) oe := ⟨hz.1.trans h.c, hz.2.trans h.e⟩
/-! ### reading of calls -/
section
variable {K : PySem.W.Frag} {σ : L2.St} {H : Hp} {Q : VK} {D : Ends} {tl : TA} {te ta tb : TE} {a : Int} {v x : V} {n : Nat} {W : WX} {C : Addr}
theorem rd_called {sp : Sp} (h : tl σ H fun vs H1 => sp vs H1 Q E0) : tCalled sp tl σ H Q := h
theorem rd_calledR {sp : Sp} (h : tl σ H fun vs H1 => sp vs H1 Q fun c d H2 => W c d σ H2) : tCalledR sp W tl σ H Q := h
theorem rd_raised (h : tl σ H fun vs H1 => ∃ v, vs = [v] ∧ ∀ d, H1 d = none → W (.ref C) (some d) σ (upd H1 d (.xd [("what", v)]))) : tRaised C W tl D σ H := h
theorem rd_raised1 {P : V → Prop} (h : P v) : ∃ v', [v] = [v'] ∧ P v' := ⟨v, rfl, h⟩
theorem rd_int (h : Q (.int a) H) : cInt [.int a] H Q := .inl ⟨a, rfl, h⟩
theorem rd_abs (h : Q (.int (if a < 0 then -a else a)) H) : cAbs [.int a] H Q := ⟨a, rfl, h⟩
theorem rd_lenL {p : Addr} {xs : List V} (e : SqL K H p xs) (h : Q (.int (xs.length : Nat)) H) : cLen K [.ref p] H Q := .inl ⟨_, _, rfl, .inl ⟨xs, e, rfl⟩, h⟩
theorem rd_lenT {p : Addr} {xs : List V} (e : SqT K H p xs) (h : Q (.int (xs.length : Nat)) H) : cLen K [.ref p] H Q := .inl ⟨_, _, rfl, .inr ⟨xs, e, rfl⟩, h⟩
theorem rd_lenS {z : Str} (e : z.length ≤ sizeLine) (h : Q (.int (z.length : Nat)) H) : cLen K [.str z] H Q := .inl ⟨_, _, rfl, ⟨e, rfl⟩, h⟩
theorem rd_ixL {p : Addr} {xs : List V} (e : SqL K H p xs) (ha : atI xs a = some v) (h : Q v H) : rIx K (.ref p) (.int a) H Q := .inl ⟨p, xs, a, v, rfl, rfl, e, ha, h⟩
theorem rd_ixT {p : Addr} {xs : List V} (e : SqT K H p xs) (ha : atI xs a = some v) (h : Q v H) : rIx K (.ref p) (.int a) H Q := .inr (.inl ⟨p, xs, a, v, rfl, rfl, e, ha, h⟩)
theorem rd_ixS {z : Str} {c : Nat} (e : z.length ≤ sizeLine) (ha : atI z.cps.toList a = some c) (h : Q (.str ⟨#[c]⟩) H) : rIx K (.str z) (.int a) H Q := .inr (.inr ⟨z, a, c, rfl, rfl, e, ha, h⟩)
theorem rd_inS {c : Nat} {z : Str} (h : Q (.bl (decide (c ∈ z.cps.toList))) H) : oIn K (.str ⟨#[c]⟩) (.str z) H Q := .inl ⟨c, z, rfl, rfl, h⟩
theorem rd_niS {c : Nat} {z : Str} (h : Q (.bl (!decide (c ∈ z.cps.toList))) H) : oNotIn K (.str ⟨#[c]⟩) (.str z) H Q := .inl ⟨c, z, rfl, rfl, h⟩
theorem rd_rng1 {ta : TA} {R : It → Hp → Prop} (h : ta σ H fun vs H1 => ∃ j : Int, vs = [.int j] ∧ -(2 ^ 62) ≤ j ∧ j < 2 ^ 62 ∧ R (Itr 0 j.toNat) H1) : iRng1 ta σ H R := h
theorem rd_rng2 {ta : TA} {R : It → Hp → Prop} (h : ta σ H fun vs H1 => ∃ i j : Int, vs = [.int i, .int j] ∧ (-(2 ^ 62) ≤ i ∧ i < 2 ^ 62 ∧ -(2 ^ 62) ≤ j ∧ j < 2 ^ 62) ∧ R (Itr i (j - i).toNat) H1) : iRng2 ta σ H R := h
theorem rd_bm {T : String} {r : V → List V → Hp → VK → Prop} {to : TE} {t : TA} (h : to σ H fun x H1 => tyV K T x H1 ∧ t σ H1 fun xs H2 => r x xs H2 Q) : tBM K T r to t σ H Q := h
theorem rd_andV (h : ta σ H fun x H1 => ∃ c, x = .bl c ∧ if c = true then tb σ H1 Q else Q (.bl false) H1) : tAndV ta tb σ H Q := h
theorem rd_orV (h : ta σ H fun x H1 => ∃ c, x = .bl c ∧ if c = true then Q (.bl true) H1 else tb σ H1 Q) : tOrV ta tb σ H Q := h
theorem rd_sl {r : V → Option Int → Option Int → Hp → VK → Prop} {tl th : TO} (h : te σ H fun x H1 => tl σ H1 fun l H2 => th σ H2 fun u H3 => r x l u H3 Q) : tSl r te tl th σ H Q := h
theorem rd_noPart {Q : Option Int → Hp → Prop} (h : Q none H) : tNoPart σ H Q := h
theorem rd_part {Q : Option Int → Hp → Prop} (h : te σ H fun x H1 => ∃ i, x = .int i ∧ Q (some i) H1) : tPart te σ H Q := h
theorem rd_intv {P : Int → Prop} (h : P a) : ∃ i, V.int a = .int i ∧ P i := ⟨a, rfl, h⟩
theorem rd_slS {z : Str} {lo hi : Option Int} (e : z.length ≤ sizeLine) (h : Q (.str (cutS z lo hi)) H) : oSl K (.str z) lo hi H Q := .inr (.inl ⟨z, rfl, e, h⟩)
end

section
variable {CX : CXT} {P : Program} {w : World} {K : PySem.W.Frag} {mg : Str → Option Value} {base : Heap} {N : List Str} {q : Str} {sc : Scope} {f : Addr} {cdv : Value} {A : Around} {outer : List Env} {s : Shared} {H : Hp} {E : XK}
theorem cxK : (cxOf CX P w K mg base N q sc f cdv A outer s H E).nox.K = K := rfl
theorem cxK' : (cxOf CX P w K mg base N q sc f cdv A outer s H E).K = K := rfl
end

/-! ### loops and comprehensions -/
def forB (g : TG) (tb : TS) (D : Ends) (σ : L2.St) (J : It) (H : Hp) : Prop := tFor (fun _ H R => R J H) g tb D σ H
def lcB (g : TG) (tt : TT) (te : TE) (vs : List Nat) (σ : L2.St) (Q : VK) (J : It) (H : Hp) : Prop := tLc (fun _ H R => R J H) g tt te vs σ H Q
section
variable {K : PySem.W.Frag} {σ : L2.St} {H : Hp} {Q : VK} {D : Ends} {wi : TI} {g : TG} {tb : TS} {tt : TT} {te : TE} {vs : List Nat} {J : It} {n : Nat} {G : Hp → Prop} {Y : Nat → Hp → V → Hp → Prop} {R : It → Hp → Prop}
theorem rd_for (h : wi σ H (forB g tb D σ)) : tFor wi g tb D σ H := h
theorem rd_lc (h : wi σ H (lcB g tt te vs σ Q)) : tLc wi g tt te vs σ H Q := h
theorem fo_range {n : Nat} (Pv : Nat → L2.St → Hp → Prop) (h0 : Pv 0 σ H) (hs : ∀ (i : Nat) σ H, i < n → Pv i σ H → g (.int (i : Int)) σ H fun σ2 H2 => tb { D with nx := Pv (i + 1), ct := Pv (i + 1), bk := D.nx } σ2 H2) (hd : ∀ σ H, Pv n σ H → D.nx σ H) : forB g tb D σ (Itr 0 n) H :=
  for_range (lo := 0) Pv h0 (fun i σ H hi p => by rw [Int.zero_add]; exact hs i σ H hi p) hd
theorem fo_range2 {lo : Int} {n : Nat} (Pv : Nat → L2.St → Hp → Prop) (h0 : Pv 0 σ H) (hs : ∀ (i : Nat) σ H, i < n → Pv i σ H → g (.int (lo + (i : Int))) σ H fun σ2 H2 => tb { D with nx := Pv (i + 1), ct := Pv (i + 1), bk := D.nx } σ2 H2) (hd : ∀ σ H, Pv n σ H → D.nx σ H) : forB g tb D σ (Itr lo n) H :=
  for_range (lo := lo) Pv h0 hs hd
theorem fo_it (w : Walk J n G Y) (Pv : Nat → L2.St → Hp → Prop) (h0 : Pv 0 σ H) (hG : ∀ i σ H, i ≤ n → Pv i σ H → G H)
    (hs : ∀ i x σ H H', i < n → Pv i σ H → Y i H x H' → g x σ H' fun σ2 H2 => tb { D with nx := Pv (i + 1), ct := Pv (i + 1), bk := D.nx } σ2 H2) (hd : ∀ σ H, Pv n σ H → D.nx σ H) : forB g tb D σ J H := for_it w Pv h0 hG hs hd
/-- over a text -/
theorem fo_str {z : Str} (Pv : Nat → L2.St → Hp → Prop) (h0 : Pv 0 σ H) (hs : ∀ (i : Nat) c σ H, z.cps.toList[i]? = some c → Pv i σ H → g (.str ⟨#[c]⟩) σ H fun σ2 H2 => tb { D with nx := Pv (i + 1), ct := Pv (i + 1), bk := D.nx } σ2 H2) (hd : ∀ σ H, Pv z.length σ H → D.nx σ H) : forB g tb D σ (Its z) H :=
  fo_it walk_str Pv h0 (fun _ _ _ _ _ => True.intro) (fun i x σ H H' hi p y => by
    obtain ⟨rfl, c, e, rfl⟩ := y
    exact hs i c σ _ (by rw [Array.getElem?_toList]; exact e) p) hd
theorem fo_list {a : Addr} {xs : List V} (Pv : Nat → L2.St → Hp → Prop) (h0 : Pv 0 σ H) (hl : ∀ i σ H, i ≤ xs.length → Pv i σ H → SqL K H a xs) (hs : ∀ (i : Nat) x σ H, xs[i]? = some x → Pv i σ H → g x σ H fun σ2 H2 => tb { D with nx := Pv (i + 1), ct := Pv (i + 1), bk := D.nx } σ2 H2)
    (hd : ∀ σ H, Pv xs.length σ H → D.nx σ H) : forB g tb D σ (Itl K a) H := for_list Pv h0 hl hs hd
theorem fo_tup {a : Addr} {xs : List V} (Pv : Nat → L2.St → Hp → Prop) (h0 : Pv 0 σ H) (hl : ∀ i σ H, i ≤ xs.length → Pv i σ H → SqT K H a xs) (hs : ∀ (i : Nat) x σ H, xs[i]? = some x → Pv i σ H → g x σ H fun σ2 H2 => tb { D with nx := Pv (i + 1), ct := Pv (i + 1), bk := D.nx } σ2 H2)
    (hd : ∀ σ H, Pv xs.length σ H → D.nx σ H) : forB g tb D σ (Itt K a) H := for_tup Pv h0 hl hs hd
/-- what is walked -/
theorem rd_anyL {a : Addr} {xs : List V} {te : TE} (he : ∀ Q : VK, Q (.ref a) H → te σ H Q) (hs : SqL K H a xs) (h : R (Itl K a) H) : iAny K te σ H R := .inl (he _ ⟨a, rfl, ⟨xs, hs⟩, h⟩)
theorem rd_anyT {a : Addr} {xs : List V} {te : TE} (he : ∀ Q : VK, Q (.ref a) H → te σ H Q) (hs : SqT K H a xs) (h : R (Itt K a) H) : iAny K te σ H R := .inr (.inl (he _ ⟨a, rfl, ⟨xs, hs⟩, h⟩))
theorem rd_anyS {z : Str} {te : TE} (he : ∀ Q : VK, Q (.str z) H → te σ H Q) (h : R (Its z) H) : iAny K te σ H R := .inr (.inr (he _ ⟨z, rfl, h⟩))
/-- a comprehension whose parts leave the heap -/
theorem lc_pure {j : Nat} {xs : Nat → V} {f : Nat → Bool} {v : Nat → V} (w : Walk J n G Y) (hY : ∀ i H x H', i < n → Y i H x H' → H' = H ∧ x = xs i) (hG : ∀ Hc, Ex H Hc → G Hc) (hn : n < 100000)
    (ht : ∀ i Hc, i < n → Ex H Hc → Ans tt ((wipe σ [j]).set j (some (xs i))) Hc (f i)) (he : ∀ i Hc, i < n → Ex H Hc → f i = true → Val te ((wipe σ [j]).set j (some (xs i))) Hc (v i))
    (h : ∀ L, H L = none → Q (.ref L) (upd H L (.lst (Evl.given n f v)))) : lcB (gName j) tt te [j] σ Q J H := by
  intro L hL
  have hz : ∀ m, m ≤ n → (Evl.given m f v).length < sizeLine := fun m hm => Nat.lt_of_le_of_lt (Evl.given_len m f v) (Nat.lt_of_le_of_lt hm (Nat.lt_trans hn (by decide)))
  refine lc_it w (fun i Hc => i ≤ n ∧ Hc = upd H L (.lst (Evl.given i f v))) ⟨Nat.zero_le _, rfl⟩ (fun i Hc _ p => ?_) (fun i x Hc H' hi p y => ?_) fun Hc p => ?_
  · obtain ⟨_, rfl⟩ := p
    exact hG _ (Evl.Ex.new hL)
  · obtain ⟨hi1, rfl⟩ := p
    obtain ⟨rfl, rfl⟩ := hY _ _ _ _ hi y
    have e0 := Evl.Ex.new (o := .lst (Evl.given i f v)) hL
    refine ⟨by simp [wipe], ?_⟩
    refine ht i _ hi e0 _ ?_
    cases hf : f i with
    | true =>
      refine rd_iteT ?_
      refine he i _ hi e0 hf _ ?_
      refine ⟨_, upd_same, hz i (Nat.le_of_lt hi), hi, ?_⟩
      rw [upd_upd, Evl.given_yes hf]
    | false =>
      refine rd_iteF ⟨hi, ?_⟩
      rw [Evl.given_no hf]
  · obtain ⟨_, rfl⟩ := p
    exact h L hL
theorem rd_yes {QB : Bool → Hp → Prop} (h : QB true H) : tYes σ H QB := h
theorem ans_yes : Ans tYes σ H true := fun _ q => q
end
/-- the list that is given -/
theorem given_eq {α : Type} (l : List α) (p : α → Bool) (f : α → V) (q : Nat → Bool) (v : Nat → V) (hq : ∀ i x, l[i]? = some x → q i = p x) (hv : ∀ i x, l[i]? = some x → v i = f x) : ∀ n, n ≤ l.length → Evl.given n q v = ((l.take n).filter p).map f
  | 0, _ => rfl
  | n + 1, h => by
    have hx : l[n]? = some (l[n]'h) := List.getElem?_eq_getElem h
    have ih := given_eq l p f q v hq hv n (Nat.le_of_lt h)
    rw [List.take_succ, hx]
    cases e : p (l[n]'h) with
    | true =>
      rw [Evl.given_yes ((hq _ _ hx).trans e), ih, List.filter_append, List.map_append, hv _ _ hx]
      simp [e]
    | false =>
      rw [Evl.given_no ((hq _ _ hx).trans e), ih, List.filter_append, List.map_append]
      simp [e]

theorem rd_gsub {to ti : TE} {t : TSet} {v : V} {σ : L2.St} {H : Hp} {Q : L2.St → Hp → Prop} (h : to σ H fun o H1 => ti σ H1 fun i H2 => t o i v H2 fun H3 => Q σ H3) : gSub to ti t v σ H Q := h
theorem rd_while {tt : TT} {tb : TS} {D : Ends} {σ : L2.St} {H : Hp} (Pv : L2.St → Hp → Prop) (μ : L2.St → Hp → Nat) (h0 : Pv σ H)
    (hs : ∀ σ H, Pv σ H → tt σ H fun b H1 => if b = true then tb { D with nx := fun σ' H' => Pv σ' H' ∧ μ σ' H' < μ σ H, ct := fun σ' H' => Pv σ' H' ∧ μ σ' H' < μ σ H, bk := D.nx } σ H1 else D.nx σ H1)
    (mono : ∀ σ H Q Q', (∀ b H1, Q b H1 → Q' b H1) → tt σ H Q → tt σ H Q') : tWhile tt tb D σ H := while_by Pv μ h0 hs mono

/-! ### the same, the written part named -/
section
variable {X : Cx} (K : PySem.W.Frag) (hK : X.K = K := by rfl)
include hK
theorem kAdd : OpR X (binaryOp .Add) (oAdd K) := hK ▸ op_addP
theorem kEq (hu : X.A.units + 64 < cLine) : OpR X (compareOp .Eq) (oEq K) := hK ▸ op_eqP hu
theorem kNe (hu : X.A.units + 64 < cLine) : OpR X (compareOp .NotEq) (oNe K) := hK ▸ op_neP hu
theorem kIn : OpR X (compareOp .In) (oIn K) := hK ▸ op_inP
theorem kNotIn : OpR X (compareOp .NotIn) (oNotIn K) := hK ▸ op_notInP
theorem kLen : CallR X (.builtin "len") (cLen K) := hK ▸ call_lenP
theorem kSl : SlR X (oSl K) := hK ▸ sl_P
theorem kIx : IxR X (rIx K) := hK ▸ ix_seq
theorem kAny {tg e : Expr} {te : TE} (he : PE X e te) : PI X tg e (iAny K te) := hK ▸ pi_any he
theorem kAll (hc : X.calm = true := by rfl) : CallR X (.builtin "all") (rAll K) := hK ▸ cr_all hc
theorem kAnyOf (hc : X.calm = true := by rfl) : CallR X (.builtin "any") (rAny K) := hK ▸ cr_any hc
theorem kSum (hc : X.calm = true := by rfl) : CallR X (.builtin "sum") (rSum K) := hK ▸ cr_sum hc
end
section
variable {X : Cx} {x : Str} {pos : Pos}
theorem pe_globS {s : Str} {t : Tok} (hg : Gl X x) (hm : X.mg x = some (.str s t)) (hd : (x == ("__debug__" : Str)) = false := by decide) : PE X (.Name x pos) (tC (.str s)) := pe_glob hg hm ⟨t, rfl⟩ hd
theorem pe_globI {i : Int} {t : Tok} (hg : Gl X x) (hm : X.mg x = some (.int i t)) (hd : (x == ("__debug__" : Str)) = false := by decide) : PE X (.Name x pos) (tC (.int i)) := pe_glob hg hm ⟨t, rfl⟩ hd
theorem pe_globR {a : Addr} (hg : Gl X x) (hm : X.mg x = some (.ref a)) (hd : (x == ("__debug__" : Str)) = false := by decide) : PE X (.Name x pos) (tC (.ref a)) := pe_glob (v := .ref a) hg hm rfl hd
end

theorem rd_iteNF {A B : Prop} (h : A) : if (!false) = true then A else B := iteT h
theorem rd_iteNT {A B : Prop} (h : B) : if (!true) = true then A else B := iteF h

section
variable {X : Cx} {x : Str} {pos : Pos}
theorem pe_blT {n : String} (hg : Gl X x) (hm : X.mg x = none) (hv : bootBuiltins x = some (.type n)) (hn : x ≠ "__name__" := by decide) (hd : (x == ("__debug__" : Str)) = false := by decide) : PE X (.Name x pos) (tC (.ty n)) := pe_bltn (v := .ty n) hg hm hv rfl hn hd
end
/-! ### lists of flat values compared -/
def okS (z : Str) : Prop := PyData.strOk z = true
theorem okS_iff {z : Str} : okS z ↔ ∀ c ∈ z.cps.toList, c < 0x110000 := by
  unfold okS PyData.strOk
  rw [← Array.all_toList, List.all_eq_true]
  exact ⟨fun h c hc => by simpa using h c hc, fun h c hc => by simpa using h c hc⟩
theorem okS_app {x y : Str} (hx : okS x) (hy : okS y) : okS (x ++ y) := okS_iff.mpr fun c hc => by
  have e : (x ++ y).cps.toList = x.cps.toList ++ y.cps.toList := TL.tl_append x y
  rw [e] at hc
  exact (List.mem_append.mp hc).elim (okS_iff.mp hx c) (okS_iff.mp hy c)
theorem okS_one {z : Str} {c : Nat} (hz : okS z) (hc : c ∈ z.cps.toList) : okS ⟨#[c]⟩ := okS_iff.mpr fun d hd => by
  have e : d = c := by simpa using hd
  rw [e]
  exact okS_iff.mp hz c hc
theorem okS_sub {x y : Str} (hy : okS y) (h : ∀ c ∈ x.cps.toList, c ∈ y.cps.toList) : okS x := okS_iff.mpr fun c hc => okS_iff.mp hy c (h c hc)
def dOf : V → PyData
  | .bl b => .bool b
  | .int i => .int i
  | .str x => .str x
  | _ => .none
def flat1 : V → Bool
  | .non => true
  | .bl _ => true
  | .int _ => true
  | .str x => PyData.strOk x
  | _ => false
theorem dp_flat {K : PySem.W.Frag} {H : Hp} {v : V} (h : flat1 v = true) : Dp K H v (dOf v) := by
  cases v with
  | non => exact .non
  | bl b => exact .bl b
  | int i => exact .int i
  | str x => exact .str x
  | byt _ => exact absurd h Bool.false_ne_true
  | flt _ => exact absurd h Bool.false_ne_true
  | ref _ => exact absurd h Bool.false_ne_true
  | ty _ => exact absurd h Bool.false_ne_true
theorem lay_flat {v : V} (h : flat1 v = true) : (dOf v).canLay0 = true ∧ (dOf v).depth = 0 := by
  cases v with
  | str x => exact ⟨h, rfl⟩
  | _ => exact ⟨rfl, rfl⟩
theorem dpAll_flat {K : PySem.W.Frag} {H : Hp} : ∀ {xs : List V}, xs.all flat1 = true → DpAll K H xs (xs.map dOf)
  | [], _ => .nil
  | v :: xs, h => by
    rw [List.all_cons, Bool.and_eq_true] at h
    exact .cons (dp_flat h.1) (dpAll_flat h.2)
theorem lay_all : ∀ {xs : List V}, xs.all flat1 = true → PyData.canLayAll0 (xs.map dOf) = true ∧ PyData.depthAll (xs.map dOf) = 0
  | [], _ => ⟨rfl, rfl⟩
  | v :: xs, h => by
    rw [List.all_cons, Bool.and_eq_true] at h
    obtain ⟨h1, h2⟩ := lay_flat h.1
    obtain ⟨h3, h4⟩ := lay_all h.2
    refine ⟨?_, ?_⟩
    · show ((dOf v).canLay0 && PyData.canLayAll0 (xs.map dOf)) = true
      rw [h1, h3]
      rfl
    · show max (dOf v).depth (PyData.depthAll (xs.map dOf)) = 0
      rw [h2, h4]
      rfl
theorem shaped_list {xs : List V} (h : xs.all flat1 = true) : SeqAt.shaped (.list (xs.map dOf)) = true := by
  obtain ⟨h1, h2⟩ := lay_all h
  refine Bool.and_eq_true_iff.mpr ⟨h1, decide_eq_true ?_⟩
  show PyData.depthAll (xs.map dOf) + 1 ≤ 64
  rw [h2]
  decide
theorem refl_list {xs : List V} (h : xs.all flat1 = true) : PyData.eqv (.list (xs.map dOf)) (.list (xs.map dOf)) = true := SeqAt.eqv_refl _ (lay_all h).1
section
variable {K : PySem.W.Frag} {p q : Addr} {xs : List V} {H : Hp} {Q : VK}
theorem rd_neL (hp : SqL K H p xs) (hq : SqL K H q xs) (hf : xs.all flat1 = true) (h : Q (.bl false) H) : oNe K (.ref p) (.ref q) H Q :=
  .inr ⟨_, _, .lst hp (dpAll_flat hf), .lst hq (dpAll_flat hf), shaped_list hf, shaped_list hf, by rw [refl_list hf]; exact h⟩
theorem rd_eqL (hp : SqL K H p xs) (hq : SqL K H q xs) (hf : xs.all flat1 = true) (h : Q (.bl true) H) : oEq K (.ref p) (.ref q) H Q :=
  .inr ⟨_, _, .lst hp (dpAll_flat hf), .lst hq (dpAll_flat hf), shaped_list hf, shaped_list hf, by rw [refl_list hf]; exact h⟩
theorem rd_eqNil (hp : SqL K H p xs) (hq : SqL K H q []) (hf : xs.all flat1 = true) (h : Q (.bl xs.isEmpty) H) : oEq K (.ref p) (.ref q) H Q :=
  .inr ⟨_, .list [], .lst hp (dpAll_flat hf), .lst hq .nil, shaped_list hf, rfl, by
    cases xs with
    | nil => exact h
    | cons a r => exact h⟩
end
theorem rd_reprB {b : Bool} {H : Hp} {Q : VK} (h : Q (.str (if b then "True" else "False")) H) : cRepr [.bl b] H Q := .inr ⟨b, rfl, h⟩

section
variable {σ : L2.St} {H : Hp} {Q : VK} {D : Ends} {t u : TS} {te ta tb : TE} {g : TG} {a b : Bool}
theorem rd_seqA (h : tAsg te g { D with nx := u D } σ H) : tSeq (tAsg te g) u D σ H := h
theorem rd_seqD (h : tDrop te { D with nx := u D } σ H) : tSeq (tDrop te) u D σ H := h
/-- a statement, then the rest: R is what holds between -/
theorem rd_cut (R : L2.St → Hp → Prop) (h1 : ∀ N : L2.St → Hp → Prop, (∀ σ H, R σ H → N σ H) → t { D with nx := N } σ H) (h2 : ∀ σ H, R σ H → u D σ H) : tSeq t u D σ H := h1 (u D) h2
theorem val_andV (h1 : Val ta σ H (.bl a)) (h2 : a = true → Val tb σ H (.bl b)) : Val (tAndV ta tb) σ H (.bl (a && b)) := fun Q q => h1 _ ⟨a, rfl, by
  cases a with
  | true => exact iteT (h2 rfl _ q)
  | false => exact iteF q⟩
theorem val_orV (h1 : Val ta σ H (.bl a)) (h2 : a = false → Val tb σ H (.bl b)) : Val (tOrV ta tb) σ H (.bl (a || b)) := fun Q q => h1 _ ⟨a, rfl, by
  cases a with
  | true => exact iteT q
  | false => exact iteF (h2 rfl _ q)⟩
theorem val_is {v w : V} (h : Val te σ H v) (e : v = w) : Val te σ H w := e ▸ h
theorem rd_val {v : V} (h : Val te σ H v) (q : Q v H) : te σ H Q := h Q q
end

theorem rd_idS {t u : TS} {D : Ends} {σ : L2.St} {H : Hp} (h : tSeq t u D σ H) : tSeq t u D σ H := h
theorem rd_idI {c : TT} {t u : TS} {D : Ends} {σ : L2.St} {H : Hp} (h : tIfS c t u D σ H) : tIfS c t u D σ H := h
end AT

set_option Elab.async false
set_option linter.all false
set_option maxRecDepth 100000
set_option maxHeartbeats 4000000
/-! own words, second part: objects that are made and asked where something may be raised; data; tuples -/
namespace AT
open PySem PySem.Spec L2
section
variable {X : Cx} {Cx1 : CXT} {n : Nat} {fa Ca : Addr} {fn : FuncData} {pr : List Str} {pm : Sp} {W : WX} {nm mt : Str} {q1 q2 q3 : Pos} {o a0 : Expr} {as : List Expr} {to : TE} {ta : TA}
/-- C(..) whose __init__ may raise -/
def tMakeR (C : Addr) (sp : Sp) (W : WX) (t : TA) : TE := fun σ H Q => t σ H fun vs H1 => ∀ x dx, H1 x = none → H1 dx = none → dx ≠ x → sp (.ref x :: vs) (upd (upd H1 dx (.own x)) x (.ins C dx [])) (fun v H2 => v = .non ∧ Q (.ref x) H2) fun c d H2 => W c d σ H2
theorem pe_makeR (M : Mk X.K Ca fa) (G : FnOk X.prog X.w X.K X.mg X.base (L2.CX X.prog X.w) n fa fn pr pm) (hr : Room (n + 1) X.A) (hm : X.mg nm = some (.ref Ca)) (hb : Binds X.K fn pr []) (tk : Takes X W) (ha : PA X (a0 :: as) ta) (hg : Gl X nm := by rfl)
    (hdb : (nm == ("__debug__" : Str)) = false := by decide) (he : starEach (a0 :: as) X.env = (false, eval a0 X.env) :: starEach as X.env := by rfl) (hpl : (backTo q2 (starEach as X.env)).any (·.1) = false := by rfl) :
    PE X (.Call (.Name nm q1) (a0 :: as) [] q2) (tMakeR Ca pm W ta) := by
  refine ⟨fun P s σ H Q I h => wpAny_Call_Name_kw (ld_glob I hg hm ?_ hdb)⟩
  refine PySem.W.callWith_K (h₀ := X.base) I.ok.mod.kin M.kp (thn (ha.run q2 P s σ H _ I h) fun us t ⟨vs, H1, J, rv, q⟩ => ⟨J.kIn, ?_⟩) he hpl
  have fresh1 := J.hok.fresh (Nat.le_succ t.heap.objs.size)
  have fresh0 := J.hok.fresh (Nat.le_refl t.heap.objs.size)
  have asked := q _ _ fresh1 fresh0 (Nat.ne_of_lt (Nat.lt_succ_self _))
  have J2 := Inv.made (C := Ca) J
  have rel : Vals (V.ref (t.heap.objs.size + 1) :: vs) (Value.ref (t.heap.objs.size + 1) :: us) := .cons rfl rv
  have len : (Value.ref (t.heap.objs.size + 1) :: us ++ []).length = pr.length := by
    rw [List.append_nil, ← rel.length]
    exact G.len _ _ _ _ asked
  have bind := hb _ (Value.ref (t.heap.objs.size + 1) :: us) J2.kIn len
  rw [List.append_nil] at bind
  have ran := G.run _ X.stack _ _ ⟨Value.ref (t.heap.objs.size + 1) :: us, []⟩ _ _ _ (fun c d H2 => W c d σ H2) (hr.make Ca us []) (J2.env0.make Ca us []) bind rel asked
  refine wpAny_call (make_map (f := fa) J.kIn M.makes M.init (beq_iff_eq.mp M.fn) (codeAny_mono ran fun res z hz => ?_))
  cases res with
  | error er => exact passAt tk σ _ _ _ _ _ J2 hz
  | ok fl =>
    cases fl with
    | ret u =>
      have back := J2.after hz
      obtain ⟨v, H3, J3, r3, e3, q3⟩ := back
      subst e3
      exact ⟨r3, .ref (t.heap.objs.size + 1), H3, J3, rfl, q3⟩
    | next => exact hz.elim
    | brk => exact hz.elim
    | cont => exact hz.elim
/-- o.m(..) whose m may raise -/
def tMethR (C : Addr) (m : Str) (sp : Sp) (W : WX) (to : TE) (t : TA) : TE := fun σ H Q => to σ H fun x H1 => ∃ a dx fs, x = .ref a ∧ H1 a = some (.ins C dx fs) ∧ fs.lookup m = none ∧ t σ H1 fun vs H2 => sp (x :: vs) H2 Q fun c d H3 => W c d σ H3
theorem pe_methRs {pl : Sem Bool} (hmt : Meth X.K Ca mt fa) (cl : Cls X.K Ca) (ho : PE X o to) (G : FnOk X.prog X.w X.K X.mg X.base (L2.CX X.prog X.w) n fa fn pr pm) (hr : Room n X.A) (hb : Binds X.K fn pr []) (tk : Takes X W) (ha : PA X (a0 :: as) ta)
    (hst : starEach (a0 :: as) X.env = (false, eval a0 X.env) :: starEach as X.env := by rfl) (hpl : (backTo q2 (starEach as X.env)).any (·.1) = false := by rfl)
    (ht : eval (.Call (.Attribute o mt q3) (a0 :: as) [] q2) X.env = (do
      let r ← eval o X.env
      standAt q3.atName
      let (g, more) ← holding [r] (getMethod r mt pl)
      callWith q2 g more (backTo q2 (starEach (a0 :: as) X.env)) (backToKw q2 (keywordEach [] X.env))) := by rfl) : PE X (.Call (.Attribute o mt q3) (a0 :: as) [] q2) (tMethR Ca mt pm W to ta) := by
  refine ⟨fun P s σ H Q I h => PySem.W.methodCall_KW (pl := pl) (thn (ho.run P s σ H _ I h) fun u t ⟨x, H1, J, rx, a, dx, fs, ex, ea, nl, q⟩ => ?_) ht⟩
  subst ex
  obtain rfl : u = Value.ref a := rx
  refine getmeth_ok J ea cl hmt nl (PySem.W.callWith_K (first := [.ref a]) (h₀ := X.base) J.ok.mod.kin hmt.kp (thn (ha.run q2 P t σ H1 _ J q) fun us t2 ⟨vs, H2, J2, rv, z⟩ => ⟨J2.kIn, ?_⟩) hst hpl)
  exact run_fnS (us := .ref a :: us) (vs := .ref a :: vs) (E := WE W) G hr hb (passAt tk σ) J2 (.cons rfl rv) z
theorem pe_methR0 {pl : Sem Bool} (hmt : Meth X.K Ca mt fa) (cl : Cls X.K Ca) (ho : PE X o to) (G : FnOk X.prog X.w X.K X.mg X.base (L2.CX X.prog X.w) n fa fn pr pm) (hr : Room n X.A) (hb : Binds X.K fn pr []) (tk : Takes X W)
    (ht : eval (.Call (.Attribute o mt q3) [] [] q2) X.env = (do
      let r ← eval o X.env
      standAt q3.atName
      let (g, more) ← holding [r] (getMethod r mt pl)
      callWith q2 g more (backTo q2 (starEach [] X.env)) (backToKw q2 (keywordEach [] X.env))) := by rfl) : PE X (.Call (.Attribute o mt q3) [] [] q2) (tMethR Ca mt pm W to tNil) := by
  refine ⟨fun P s σ H Q I h => PySem.W.methodCall_KW (pl := pl) (thn (ho.run P s σ H _ I h) fun u t ⟨x, H1, J, rx, a, dx, fs, ex, ea, nl, q⟩ => ?_) ht⟩
  subst ex
  obtain rfl : u = Value.ref a := rx
  refine getmeth_ok J ea cl hmt nl ?_
  exact PySem.W.callWith_K0 (first := [.ref a]) J.kIn hmt.kp (run_fnS (us := [.ref a]) (vs := [.ref a]) (E := WE W) G hr hb (passAt tk σ) J (.cons rfl .nil) q)
end

/-! ### the place of a sign in a text -/
section
open PySem.Builtin.Str PySem.StrLaws
theorem first_sign (x : Str) (c : Nat) (h : c ∈ x.cps.toList) : ∃ rest, occurrences x ⟨#[c]⟩ 0 x.length 1 = x.cps.toList.idxOf c :: rest := by
  have key := occ_first x ⟨#[c]⟩ x.length 1 (Nat.le_refl 1) (List.range' 0 (x.length + 1 - 0)) 0 fun _ _ => Nat.zero_le _
  rw [occ_eq]
  have sub := fun k => subAt_one x c k
  rcases key with ⟨_, hn⟩ | ⟨pre, i, post, e, h0, hi, hn⟩
  · obtain ⟨j, hj⟩ := List.getElem?_of_mem h
    have hlt : j < x.length := (List.getElem?_eq_some_iff.mp hj).1
    exact absurd ((sub j).mpr hj) (hn j (List.mem_range'.mpr ⟨j, by omega, by omega⟩))
  · have hx := (sub i).mp hi
    have before : ∀ k, k < i → x.cps.toList[k]? ≠ some c := fun k hk q => hn k (range'_split e k hk) ((sub k).mpr q)
    obtain ⟨hl, hv⟩ := List.getElem?_eq_some_iff.mp hx
    have e2 : x.cps.toList.idxOf c = i := by
      have hlt : x.cps.toList.idxOf c < x.cps.toList.length := List.idxOf_lt_length_iff.mpr h
      have hget : x.cps.toList[x.cps.toList.idxOf c] = c := List.getElem_idxOf hlt
      rcases Nat.lt_trichotomy (x.cps.toList.idxOf c) i with z | z | z
      · exact absurd (List.getElem?_eq_some_iff.mpr ⟨hlt, hget⟩) (before _ z)
      · exact z
      · exact absurd hv (by
          have := List.not_of_lt_findIdx (p := (· == c)) (xs := x.cps.toList) z
          simpa using this)
    rw [e2]
    generalize hg : (forIn (List.range' 0 (x.length + 1 - 0)) ((#[] : Array Nat), 0) (occBody x ⟨#[c]⟩ x.length 1)).run.fst = arr at h0
    cases hl : arr.toList with
    | nil =>
      rw [← Array.getElem?_toList, hl] at h0
      cases h0
    | cons a r =>
      rw [← Array.getElem?_toList, hl] at h0
      exact ⟨r, by rw [Option.some.inj (show some a = some i from h0)]⟩
end
def mIdx : V → List V → Hp → VK → Prop := fun x xs H Q => ∃ (a : Str) (c : Nat), x = .str a ∧ xs = [.str ⟨#[c]⟩] ∧ c ∈ a.cps.toList ∧ Q (.int (a.cps.toList.idxOf c : Nat)) H
section
variable {X : Cx}
theorem mt_strIdx : MtR X "str.index" mIdx := by
  intro P s σ H x xs v us Q I rx rs h
  obtain ⟨a, c, ex, es, hc, q⟩ := h
  obtain ⟨rest, e⟩ := first_sign a c hc
  exact mt_sindex P s σ H x xs v us Q I rx rs ⟨a, _, _, rest, ex, es, e, q⟩
/-! ### the least and the greatest of a tuple of ints -/
theorem reads_ints {hp : Heap} : ∀ {ns : List Int} {us : List Value}, Vals (ns.map V.int) us → ReadsAll hp us (ns.map PyData.int) []
  | [], _, r => by cases r; exact .nil
  | n :: ns, _, r => by
    cases r with
    | cons r1 r2 =>
      obtain ⟨t, rfl⟩ := r1
      exact ReadsAll.cons (as := []) (bs := []) (.int n t) (reads_ints r2)
theorem alike_ints (ns : List Int) : PySem.W.AlikeAll (ns.map PyData.int) := ⟨fun x hx y hy => by
  obtain ⟨a, _, rfl⟩ := List.mem_map.mp hx
  obtain ⟨b, _, rfl⟩ := List.mem_map.mp hy
  rfl, fun x hx => by
  obtain ⟨a, _, rfl⟩ := List.mem_map.mp hx
  exact fun z => by cases z⟩
theorem depth_ints : ∀ ns : List Int, PyData.depthAll (ns.map PyData.int) = 0
  | [] => rfl
  | n :: ns => by
    show max 0 (PyData.depthAll (ns.map PyData.int)) = 0
    rw [depth_ints ns]
    rfl
/-- min(t), max(t): t a tuple of ints, not empty -/
def cMinT (K : PySem.W.Frag) : List V → Hp → VK → Prop := fun vs H Q => ∃ (a : Addr) (n : Int) (ns : List Int), vs = [.ref a] ∧ SqT K H a ((n :: ns).map V.int) ∧ Q (.int (ns.foldl min n)) H
def cMaxT (K : PySem.W.Frag) : List V → Hp → VK → Prop := fun vs H Q => ∃ (a : Addr) (n : Int) (ns : List Int), vs = [.ref a] ∧ SqT K H a ((n :: ns).map V.int) ∧ Q (.int (ns.foldl max n)) H
theorem call_minT (hc : X.calm = true) (hu : X.A.units + 64 < cLine) : CallR X (.builtin "min") (cMinT X.K) := by
  intro P s σ H vs us Q I r h
  obtain ⟨a, n, ns, rfl, ht, q⟩ := h
  obtain ⟨u, rfl, ru⟩ := vals1 r
  cases (show u = Value.ref a from ru)
  obtain ⟨its, rv, pl, _⟩ := I.tuple ht
  refine PySem.W.min_tuple_data (x := .int n) (xs := ns.map .int) (I.ok.hd hc) pl (reads_ints (ns := n :: ns) rv) (alike_ints (n :: ns)) (by
    have e := depth_ints (n :: ns)
    rw [List.map_cons] at e
    rw [e]
    omega) fun i v h' tk bs hv hr hk => ?_
  rw [PySem.W.minD_ints] at hr
  cases hr with
  | int _ t => exact ⟨.int _, H, I.kept hk, ⟨t, rfl⟩, q⟩
theorem call_maxT (hc : X.calm = true) (hu : X.A.units + 64 < cLine) : CallR X (.builtin "max") (cMaxT X.K) := by
  intro P s σ H vs us Q I r h
  obtain ⟨a, n, ns, rfl, ht, q⟩ := h
  obtain ⟨u, rfl, ru⟩ := vals1 r
  cases (show u = Value.ref a from ru)
  obtain ⟨its, rv, pl, _⟩ := I.tuple ht
  refine PySem.W.max_tuple_data (x := .int n) (xs := ns.map .int) (I.ok.hd hc) pl (reads_ints (ns := n :: ns) rv) (alike_ints (n :: ns)) (by
    have e := depth_ints (n :: ns)
    rw [List.map_cons] at e
    rw [e]
    omega) fun i v h' tk bs hv hr hk => ?_
  rw [PySem.W.maxD_ints] at hr
  cases hr with
  | int _ t => exact ⟨.int _, H, I.kept hk, ⟨t, rfl⟩, q⟩
end

section
variable {X : Cx} (K : PySem.W.Frag) (hK : X.K = K := by rfl)
include hK
theorem kMin (hu : X.A.units + 64 < cLine) (hc : X.calm = true := by rfl) : CallR X (.builtin "min") (cMinT K) := hK ▸ call_minT hc hu
theorem kMax (hu : X.A.units + 64 < cLine) (hc : X.calm = true := by rfl) : CallR X (.builtin "max") (cMaxT K) := hK ▸ call_maxT hc hu
theorem kFld {o : Expr} {f : Str} {p : Pos} {te : TE} (h : PE X (.Attribute o f p) (tFld X.K te f)) : PE X (.Attribute o f p) (tFld K te f) := hK ▸ h
theorem kBm {e : Expr} {T : String} {r : V → List V → Hp → VK → Prop} {to : TE} {t : TA} (h : PE X e (tBM X.K T r to t)) : PE X e (tBM K T r to t) := hK ▸ h
theorem kBm0 {e : Expr} {T : String} {r : V → List V → Hp → VK → Prop} {to : TE} (h : PE X e (tBM0 X.K T r to)) : PE X e (tBM0 K T r to) := hK ▸ h
def cTupOf (K : PySem.W.Frag) : List V → Hp → VK → Prop := fun xs H Q => ∃ p ys, xs = [.ref p] ∧ ((SqL K H p ys ∧ ∀ l, H l = none → Q (.ref l) (upd H l (.tup ys))) ∨ (SqT K H p ys ∧ Q (.ref p) H))
def cLstOf (K : PySem.W.Frag) : List V → Hp → VK → Prop := fun xs H Q => ∃ p ys, xs = [.ref p] ∧ (SqL K H p ys ∨ SqT K H p ys) ∧ ∀ l, H l = none → Q (.ref l) (upd H l (.lst ys))
def mJoin (K : PySem.W.Frag) : V → List V → Hp → VK → Prop := fun x xs H Q => ∃ a p, ∃ ys : List Str, x = .str a ∧ xs = [.ref p] ∧ (SqL K H p (ys.map V.str) ∨ SqT K H p (ys.map V.str)) ∧ (ys.map (·.length)).sum + ys.length * a.length ≤ 16777216 ∧ Q (.str (Txt.join a ys)) H
theorem kTupOf : CallR X (.type "tuple") (cTupOf K) := hK ▸ call_tuple_of
theorem kLstOf : CallR X (.type "list") (cLstOf K) := hK ▸ call_list_of
theorem kJoin : MtR X "str.join" (mJoin K) := hK ▸ mt_join
end
/-! ### a text, several times -/
def oMulP : R2 := fun x y H Q => oMul x y H Q ∨ ∃ (z : Str) (n : Int), x = .str z ∧ y = .int n ∧ MulOk z n ∧ Q (.str (Txt.mul z n)) H
theorem op_mulS {X : Cx} : OpR X (binaryOp .Mult) (fun x y H Q => ∃ (z : Str) (n : Int), x = .str z ∧ y = .int n ∧ MulOk z n ∧ Q (.str (Txt.mul z n)) H) := by
  intro P s σ H x y v u Q I rx ry h
  obtain ⟨z, n, rfl, rfl, ok, q⟩ := h
  obtain ⟨t, rfl⟩ := rx
  obtain ⟨t2, rfl⟩ := ry
  exact PySem.SB.mul ok fun t' k => ⟨.str _, H, I.tok _, ⟨t', rfl⟩, q⟩
theorem op_mulPP {X : Cx} : OpR X (binaryOp .Mult) oMulP := OpR.or op_mulP op_mulS
section
variable {K : PySem.W.Frag} {σ : L2.St} {H : Hp} {Q : VK} {D : Ends} {te tv : TE} {f : Str} {a C dx : Addr} {fs : List (Str × V)} {v : V} {t : TA} {sp : Sp} {W : WX}
theorem rd_fld (h : te σ H fun x H1 => ∃ a C dx fs v, x = .ref a ∧ H1 a = some (.ins C dx fs) ∧ Cls K C ∧ NoAttr K C f ∧ fs.lookup f = some v ∧ Q v H1) : tFld K te f σ H Q := h
theorem rd_fldv {P : Addr → Prop} : True := True.intro
theorem rd_mulN {x y : Int} (c : CMul x y) (h : Q (.int (x * y)) H) : oMulP (.int x) (.int y) H Q := .inl ⟨x, y, rfl, rfl, c, h⟩
theorem rd_mulT {z : Str} {n : Int} (c : MulOk z n) (h : Q (.str (Txt.mul z n)) H) : oMulP (.str z) (.int n) H Q := .inr ⟨z, n, rfl, rfl, c, h⟩
theorem rd_tupL {p : Addr} {ys : List V} (e : SqL K H p ys) (h : ∀ l, H l = none → Q (.ref l) (upd H l (.tup ys))) : cTupOf K [.ref p] H Q := ⟨p, ys, rfl, .inl ⟨e, h⟩⟩
theorem rd_tupT {p : Addr} {ys : List V} (e : SqT K H p ys) (h : Q (.ref p) H) : cTupOf K [.ref p] H Q := ⟨p, ys, rfl, .inr ⟨e, h⟩⟩
theorem rd_lstL {p : Addr} {ys : List V} (e : SqL K H p ys ∨ SqT K H p ys) (h : ∀ l, H l = none → Q (.ref l) (upd H l (.lst ys))) : cLstOf K [.ref p] H Q := ⟨p, ys, rfl, e, h⟩
theorem rd_idx {z : Str} {c : Nat} (hc : c ∈ z.cps.toList) (h : Q (.int (z.cps.toList.idxOf c : Nat)) H) : mIdx (.str z) [.str ⟨#[c]⟩] H Q := ⟨z, c, rfl, rfl, hc, h⟩
end

/-! ### comprehensions whose parts change the heap: P of the new list's place, the turn, what is in it, the heap -/
theorem lc_gen {J : It} {n j : Nat} {G : Hp → Prop} {Y : Nat → Hp → V → Hp → Prop} {xs : Nat → V} {σ : L2.St} {H : Hp} {Q : VK} {te : TE} (P : Addr → Nat → List V → Hp → Prop) (w : Walk J n G Y) (hY : ∀ i H x H', i < n → Y i H x H' → H' = H ∧ x = xs i) (hn : n < 100000)
    (h0 : ∀ L, H L = none → P L 0 [] (upd H L (.lst []))) (hG : ∀ L i vs Hc, H L = none → P L i vs Hc → G Hc)
    (he : ∀ L i vs Hc, i < n → H L = none → Hc L = some (.lst vs) → vs.length = i → P L i vs Hc → ∀ N : VK, (∀ v H2, H2 L = some (.lst vs) → P L (i + 1) (vs ++ [v]) (upd H2 L (.lst (vs ++ [v]))) → N v H2) → te ((wipe σ [j]).set j (some (xs i))) Hc N)
    (h : ∀ L vs Hc, H L = none → Hc L = some (.lst vs) → vs.length = n → P L n vs Hc → Q (.ref L) Hc) : lcB (gName j) tYes te [j] σ Q J H := by
  intro L hL
  refine lc_it w (fun i Hc => ∃ vs, Hc L = some (.lst vs) ∧ vs.length = i ∧ P L i vs Hc) ⟨[], upd_same, rfl, h0 L hL⟩ (fun i Hc _ p => ?_) (fun i x Hc H' hi p y => ?_) fun Hc p => ?_
  · obtain ⟨vs, _, _, p⟩ := p
    exact hG L i vs Hc hL p
  · obtain ⟨vs, h1, h2, p⟩ := p
    obtain ⟨rfl, rfl⟩ := hY _ _ _ _ hi y
    refine ⟨by simp [wipe], rd_yes ?_⟩
    refine rd_iteT ?_
    refine he L i vs _ hi hL h1 h2 p _ fun v H2 z1 z2 => ?_
    exact ⟨vs, z1, Nat.lt_of_lt_of_le (by rw [h2]; omega : vs.length < 100000) (by decide), vs ++ [v], upd_same, by rw [List.length_append, h2]; rfl, z2⟩
  · obtain ⟨vs, h1, h2, p⟩ := p
    exact h L vs Hc hL h1 h2 p
/-- the heap but for one place -/
def hide (L : Addr) (H : Hp) : Hp := fun b => if b = L then none else H b
theorem hide_ne {L b : Addr} {H : Hp} (h : b ≠ L) : hide L H b = H b := if_neg h
theorem hide_ex {L : Addr} {H : Hp} : Ex (hide L H) H := fun b o e => by
  by_cases h : b = L
  · rw [h] at e
    have z : hide L H L = none := if_pos rfl
    rw [z] at e
    cases e
  · rw [hide_ne h] at e
    exact e
theorem hide_mono {L : Addr} {H H' : Hp} (k : ∀ b o, b ≠ L → H b = some o → H' b = some o) : Ex (hide L H) (hide L H') := fun b o e => by
  by_cases h : b = L
  · rw [h] at e
    have z : hide L H L = none := if_pos rfl
    rw [z] at e
    cases e
  · rw [hide_ne h] at e ⊢
    exact k b o h e
theorem ex_hide {L : Addr} {H H' : Hp} (hL : H L = none) (e : Ex H H') : Ex H (hide L H') := fun b o q => by
  rw [hide_ne (ne_of_none q hL)]
  exact e b o q
/-- each value is new or stood before: R of the turn, the value and the heap without the new list -/
theorem lc_new {J : It} {n j : Nat} {G : Hp → Prop} {Y : Nat → Hp → V → Hp → Prop} {xs : Nat → V} {σ : L2.St} {H : Hp} {Q : VK} {te : TE} (R : Nat → V → Hp → Prop) (w : Walk J n G Y) (hY : ∀ i H x H', i < n → Y i H x H' → H' = H ∧ x = xs i) (hn : n < 100000)
    (hG : ∀ Hc, Ex H Hc → G Hc) (mR : ∀ i v H1 H2, Ex H1 H2 → R i v H1 → R i v H2)
    (he : ∀ L i Hc, i < n → H L = none → (∃ vs, Hc L = some (.lst vs)) → Ex H Hc → ∀ N : VK, (∀ v H2, Ex Hc H2 → R i v (hide L H2) → N v H2) → te ((wipe σ [j]).set j (some (xs i))) Hc N)
    (h : ∀ L vs Hc, H L = none → Ex H Hc → Hc L = some (.lst vs) → vs.length = n → (∀ i v, vs[i]? = some v → R i v (hide L Hc)) → Q (.ref L) Hc) : lcB (gName j) tYes te [j] σ Q J H := by
  refine lc_gen (fun L i vs Hc => Ex H Hc ∧ ∀ i v, vs[i]? = some v → R i v (hide L Hc)) w hY hn (fun L hL => ⟨Evl.Ex.new hL, fun i v z => by cases z⟩) (fun L i vs Hc _ p => hG Hc p.1) (fun L i vs Hc hi hL h1 h2 p N hN => ?_) (fun L vs Hc hL h1 h2 p => h L vs Hc hL p.1 h1 h2 p.2)
  refine he L i Hc hi hL ⟨vs, h1⟩ p.1 N fun v H2 e2 r2 => hN v H2 (e2 L _ h1) ?_
  have kp : Ex (hide L H2) (hide L (upd H2 L (.lst (vs ++ [v])))) := hide_mono fun b o hb q => by rw [upd_ne hb]; exact q
  have kp0 : Ex (hide L Hc) (hide L H2) := hide_mono fun b o _ q => e2 b o q
  refine ⟨Evl.Ex.mut (p.1.trans e2) hL, fun i' v' hv => ?_⟩
  by_cases hlt : i' < vs.length
  · rw [List.getElem?_append_left hlt] at hv
    exact mR _ _ _ _ (kp0.trans kp) (p.2 i' v' hv)
  · rw [List.getElem?_append_right (by omega)] at hv
    have e0 : i' - vs.length = 0 := by
      rcases Nat.eq_zero_or_pos (i' - vs.length) with z | z
      · exact z
      · rw [List.getElem?_eq_none (by simp; omega)] at hv
        cases hv
    rw [e0] at hv
    obtain rfl : v = v' := Option.some.inj hv
    have e3 : i' = i := by omega
    rw [e3]
    exact mR _ _ _ _ kp r2

theorem rd_sfld {K : PySem.W.Frag} {ta tv : TE} {f : Str} {D : Ends} {σ : L2.St} {H : Hp} (h : tv σ H fun y H1 => ta σ H1 fun x H2 => ∃ a C dx fs, x = .ref a ∧ H2 a = some (.ins C dx fs) ∧ Cls K C ∧ NoAttr K C f ∧ fs.length < 1000 ∧ D.nx σ (upd H2 a (.ins C dx (putF f y fs)))) : sFld K ta tv f D σ H := h
theorem kSf {X : Cx} (K : PySem.W.Frag) (hK : X.K = K := by rfl) {st : Stmt} {ta tv : TE} {f : Str} (h : PS X st (sFld X.K ta tv f)) : PS X st (sFld K ta tv f) := hK ▸ h

section
variable {K : PySem.W.Frag} {σ : L2.St} {H : Hp} {Q : VK} {te to : TE} {t : TA} {C : Addr} {m f : Str} {sp : Sp} {W : WX} {dvs : List V} {E : XK}
theorem rd_makeR (h : t σ H fun vs H1 => ∀ x dx, H1 x = none → H1 dx = none → dx ≠ x → sp (.ref x :: vs) (upd (upd H1 dx (.own x)) x (.ins C dx [])) (fun v H2 => v = .non ∧ Q (.ref x) H2) fun c d H2 => W c d σ H2) : tMakeR C sp W t σ H Q := h
theorem rd_methR (h : to σ H fun x H1 => ∃ a dx fs, x = .ref a ∧ H1 a = some (.ins C dx fs) ∧ fs.lookup m = none ∧ t σ H1 fun vs H2 => sp (x :: vs) H2 Q fun c d H3 => W c d σ H3) : tMethR C m sp W to t σ H Q := h
theorem rd_meth (h : to σ H fun x H1 => ∃ a dx fs, x = .ref a ∧ H1 a = some (.ins C dx fs) ∧ fs.lookup m = none ∧ t σ H1 fun vs H2 => sp (x :: (vs ++ dvs)) H2 Q E) : tMeth C m sp dvs E to t σ H Q := h
theorem rd_notV (h : te σ H fun x H1 => ∃ c, x = .bl c ∧ Q (.bl (!c)) H1) : tNotV te σ H Q := h
theorem rd_xf {a : Addr} {cls : Value} {d : Option Addr} {C : Addr} {f : Str} (h : te σ H fun x H1 => x = .ref a ∧ cls = .ref C ∧ ∃ (dd : Addr) (fs : List (Str × V)) (v : V), d = some dd ∧ H1 dd = some (.xd fs) ∧ fs.lookup f = some v ∧ Q v H1) : tXf a cls d C f te σ H Q := h
end
/-! ### more on comprehensions, numbers, texts -/
theorem look_map {f : NameKind → Bool} : ∀ (l : List (Str × NameKind)) (y : Str), (l.lookup y = some .cell ∨ l.lookup y = some .free) → ∀ g : Str × NameKind → Str × NameKind, (∀ n k, g (n, k) = (n, k) ∨ (k = .free ∧ g (n, k) = (n, .cell))) → ((l.map g).lookup y = some .cell ∨ (l.map g).lookup y = some .free)
  | [], _, h, _, _ => by rcases h with h | h <;> cases h
  | (n, k) :: l, y, h, g, hg => by
    rw [List.map_cons]
    rw [List.lookup_cons] at h
    cases e : y == n with
    | true =>
      rw [e] at h
      rcases hg n k with z | ⟨z1, z2⟩
      · rw [z, List.lookup_cons, e]; exact h
      · rw [z2, List.lookup_cons, e]; exact .inl rfl
    | false =>
      rw [e] at h
      have ih := look_map (f := f) l y h g hg
      rcases hg n k with z | ⟨z1, z2⟩
      · rw [z, List.lookup_cons, e]; exact ih
      · rw [z2, List.lookup_cons, e]; exact ih
theorem blkOk_in {X : Cx} {N : List Str} (hN : X.N = N) {s : Shared} {H : Hp} {sc0 scope : Scope} {C : Addr} {cl : List (Str × Addr)} {fp : List Addr} {own : List (Str × Nat)} (h : blkC N sc0 scope own = true) :
    BlkOk (X.blk s H sc0 (compEnvC sc0 cl C X.env) fp).N (X.blk s H sc0 (compEnvC sc0 cl C X.env) fp).env.scope scope own := by
  subst hN
  have b := blkOk_by h
  refine ⟨b.kind, b.uniq, b.ix, fun y hy hf => ?_, b.own⟩
  refine look_map (f := fun _ => true) _ _ (b.free y hy hf) _ fun n k => ?_
  by_cases c : (k == NameKind.free && X.env.scope.kind == ScopeKind.function && X.env.kindOf n == some NameKind.cell) = true
  · right
    refine ⟨?_, if_pos c⟩
    have c1 : (k == NameKind.free) = true := by
      rw [Bool.and_eq_true, Bool.and_eq_true] at c
      exact c.1.1
    cases k <;> first | rfl | cases c1
  · left
    exact if_neg c
theorem given_range (v : Nat → V) : ∀ n, Evl.given n (fun _ => true) v = (List.range n).map v
  | 0 => rfl
  | n + 1 => by rw [Evl.given_yes rfl, given_range v n, List.range_succ, List.map_append]; rfl
/-- a comprehension whose parts leave the heap, without a test -/
theorem lc_map {J : It} {n j : Nat} {G : Hp → Prop} {Y : Nat → Hp → V → Hp → Prop} {xs v : Nat → V} {σ : L2.St} {H : Hp} {Q : VK} {te : TE} (w : Walk J n G Y) (hY : ∀ i H x H', i < n → Y i H x H' → H' = H ∧ x = xs i) (hG : ∀ Hc, Ex H Hc → G Hc) (hn : n < 100000)
    (he : ∀ i Hc, i < n → Ex H Hc → Val te ((wipe σ [j]).set j (some (xs i))) Hc (v i))
    (h : ∀ L, H L = none → Q (.ref L) (upd H L (.lst ((List.range n).map v)))) : lcB (gName j) tYes te [j] σ Q J H := by
  refine lc_pure (f := fun _ => true) w hY hG hn (fun _ _ _ _ => ans_yes) (fun i Hc hi e _ => he i Hc hi e) fun L hL => ?_
  rw [given_range]
  exact h L hL
theorem walk_range0 {n : Nat} : Walk (Itr 0 n) n (fun _ => True) fun i H x H' => H' = H ∧ x = V.int (i : Nat) := by
  obtain ⟨a, b, c⟩ := walk_range (lo := 0) (n := n)
  refine ⟨a, b, fun i H x H' hi g y => ?_⟩
  have := c i H x H' hi g y
  refine ⟨this.1, ?_⟩
  rw [this.2]
  show V.int (0 + (i : Int)) = _
  rw [Int.zero_add]
theorem fmod_nat (a m : Nat) : Int.fmod (a : Int) (m : Int) = ((a % m : Nat) : Int) := by
  rw [Int.fmod_eq_emod_of_nonneg _ (Int.natCast_nonneg m)]
  rfl
theorem fold_app (c : Nat) : ∀ (k : Nat) (a : Array Nat), (List.foldl (fun x y => x ++ y) a (List.replicate k #[c])).toList = a.toList ++ List.replicate k c
  | 0, a => by simp
  | k + 1, a => by
    rw [List.replicate_succ, List.foldl_cons, fold_app c k, List.replicate_succ]
    simp
theorem mul_sign (c : Nat) (n : Int) (h : 0 < n) : (Txt.mul ⟨#[c]⟩ n).cps.toList = List.replicate n.toNat c := by
  unfold Txt.mul
  rw [if_neg (by omega)]
  by_cases e : n = 1
  · subst e; rfl
  · have hb : (n == 1 || (⟨#[c]⟩ : Str).length == 0) = false := by
      have : (⟨#[c]⟩ : Str).length = 1 := rfl
      simp [e, this]
    rw [if_neg (by rw [hb]; decide)]
    show (List.foldl (fun x y => x ++ y) #[] (List.replicate n.toNat #[c])).toList = _
    rw [fold_app]
    rfl
theorem ixN_nat {n j : Nat} (h : j < n) : ixN n (j : Int) = some j := by
  unfold ixN
  rw [if_pos (Int.natCast_nonneg j), if_pos (by omega), Int.toNat_natCast]
theorem seqIndex_nat {n j : Nat} (h : j < n) : seqIndex? (j : Int) n = some j := by
  unfold seqIndex?
  have h0 : ¬ (j : Int) < 0 := by omega
  simp only [h0, if_false]
  rw [if_pos (by simp; omega), Int.toNat_natCast]
theorem erase_map {α β : Type} (f : α → β) : ∀ (l : List α) (j : Nat), (l.map f).eraseIdx j = (l.eraseIdx j).map f
  | [], _ => rfl
  | _ :: _, 0 => rfl
  | a :: l, j + 1 => by
    show f a :: (l.map f).eraseIdx j = f a :: (l.eraseIdx j).map f
    rw [erase_map f l j]
theorem mulOk_sign (c : Nat) {n : Int} (h0 : 0 < n) (h1 : n < 100000) : MulOk ⟨#[c]⟩ n := by
  have e : (⟨#[c]⟩ : Str).length = 1 := rfl
  refine ⟨by simp; omega, fun _ _ => ?_, fun _ _ => ?_⟩
  · rw [e]
    intro hh
    have : ((2:Int) ^ 63 - 1) / n ≥ 1 := by
      refine Int.le_ediv_of_mul_le h0 ?_
      omega
    omega
  · rw [e]
    unfold Builtin.Str.tooLong
    have : sizeLine ≥ 100000 := by decide
    exact decide_eq_false (by omega)
theorem first_at {l : List Nat} {c : Nat} {r : List Nat} (h : l = c :: r) : l.idxOf c = 0 := by
  rw [h]
  exact List.idxOf_cons_self
theorem atI_last {α : Type} {l : List α} (h : 0 < l.length) : atI l (-1) = some (l[l.length - 1]'(by omega)) := by
  have e : ixN l.length (-1) = some (l.length - 1) := by
    unfold ixN
    rw [if_neg (by decide), if_pos (by omega)]
    congr 1
    omega
  show (ixN l.length (-1)).bind (fun j => l[j]?) = _
  rw [e]
  exact List.getElem?_eq_getElem _
end AT

set_option Elab.async false
set_option linter.all false
set_option maxRecDepth 100000
set_option maxHeartbeats 4000000
/-! own words, third part: a law's own def, run where nothing is being shown; the repr of data -/
namespace AT
open PySem PySem.Spec L2
/-- as FnOk, but only where no repr is under way -/
structure FnG (P : Program) (w : World) (K : PySem.W.Frag) (mg : Str → Option Value) (base : Heap) (CX : CXT) (k : Nat) (f : Addr) (fd : FuncData) (ps : List Str) (sp : Sp) : Prop where
  len : ∀ vs H Q E, sp vs H Q E → vs.length = ps.length
  run : ∀ (A : Around) (outer : List Env) (s : Shared) (H : Hp) (args : Args) (us : List Value) (vs : List V) (Q : VK) (E : XK), A.guards = some [] → Room k A → Env0 P w K mg base A outer s H → BindsTo s fd args (ps.zip us) → Vals vs us → sp vs H Q E →
    codeAny (model P w) A (.call (.ref f) args) (CR CX outer P w H s Q E) s
theorem fn_ofG {CX : CXT} {P : Program} {w : World} {K : PySem.W.Frag} {mg : Str → Option Value} {base : Heap} {k : Nat} {f : Addr} {name qual : Str} {params : Arguments} {body : List Stmt} {scope : Scope} {dV kV doc pm cdv ct oc : Value} {an od : Option Addr} {osl : Array (Option Value)} {N ps : List Str} {sp : Sp}
    (lk : List.lookup f K = some { cls := oc, dict := od, data := Data.func (PySem.W.fnOf name qual params body scope dV kV doc pm an cdv ct), slots := osl }) (hcd : PySem.W.codeIn K cdv qual = true) (S : FnScope N ps scope)
    (len : ∀ vs H Q E, sp vs H Q E → vs.length = ps.length)
    (hb : ∀ (A : Around) (outer : List Env) (s : Shared) (H : Hp) (vs : List V) (Q : VK) (E : XK), A.guards = some [] → Room k (A.deeper (PyProof.Rows.envOfC qual scope s.heap.objs.size f cdv)) → sp vs H Q E →
      ∃ t, PSs (cxOf CX P w K mg base N qual scope f cdv A outer s H E) body t ∧ t { nx := fun _ H' => Q .non H', rt := Q } (L2.start N vs) H) :
    FnG P w K mg base CX (k + 1) f (PySem.W.fnOf name qual params body scope dV kV doc pm an cdv ct) ps sp := by
  refine ⟨len, fun A outer s H args us vs Q E hg hr e0 bd rv hsp => ?_⟩
  have hl := len vs H Q E hsp
  have KX : K.In s.heap := e0.mod.kin.keeps fun b o e => (e0.bs b o e).1
  have lim : s.heap.NoLimit := e0.mod.nolimit.keeps fun b o e => (e0.bs b o e).1
  refine codeAny_call_function hr.depth (KX f _ lk) rfl S.co S.gen rfl (PySem.W.codeRec_of KX hcd) (bd _ _ _ _ ?_)
  refine wpAny_newFunctionEnv_cells S.kind (fun x hx => ?_) fun env he s1 x => ?_
  · obtain ⟨n, v⟩ := x
    rcases S.par n (List.of_mem_zip hx).1 with q | q
    · exact .inl q
    · exact .inr ⟨q, PySem.W.cellsFrom_some scope.names (s.heap.objs.size + 1) [] (.inl q)⟩
  · subst he
    refine ⟨lim.keeps x.toInCall.keep, codeAny_func ?_⟩
    obtain ⟨t, ht, hq⟩ := hb A outer s H vs Q E hg (hr.deeper _) hsp
    have I := inv_start (CX := CX) (E := E) S hr.hd e0 hl rv x
    refine wpAny_mono (ht.run [] s1 (L2.start N vs) H _ I hq) (fun fl s' hs => ?_) fun e s' hs => hs
    cases fl with
    | next =>
      obtain ⟨σ', H', J, q⟩ := hs
      exact ⟨.non, H', J.os, J.bare, J.base, J.hok, rfl, q⟩
    | brk =>
      obtain ⟨_, _, _, q⟩ := hs
      exact q.elim
    | cont =>
      obtain ⟨_, _, _, q⟩ := hs
      exact q.elim
    | ret u =>
      obtain ⟨v, σ', H', J, rv, q⟩ := hs
      exact ⟨v, H', J.os, J.bare, J.base, J.hok, rv, q⟩
theorem _root_.L2.Fun.okG {P : Program} {w : World} {K : PySem.W.Frag} {mg : Str → Option Value} {base : Heap} {x qual : Str} {st : Stmt} {f : Addr} {fd : FuncData} {N ps : List Str} {k : Nat} {sp : Sp} (F : Fun K x qual st f fd) (S : FnScope N ps (defScope st)) (len : ∀ vs H Q E, sp vs H Q E → vs.length = ps.length)
    (hb : ∀ (cdv : Value) (A : Around) (outer : List Env) (s : Shared) (H : Hp) (vs : List V) (Q : VK) (E : XK), A.guards = some [] → Room k (A.deeper (PyProof.Rows.envOfC qual (defScope st) s.heap.objs.size f cdv)) → sp vs H Q E →
      ∃ t, PSs (cxOf CX0 P w K mg base N qual (defScope st) f cdv A outer s H E).nox (defBody st) t ∧ t { nx := fun _ H' => Q .non H', rt := Q } (L2.start N vs) H) : FnG P w K mg base CX0 (k + 1) f fd ps sp := by
  obtain ⟨oc, od, kV, doc, pm, an, cdv, ct, osl, rfl, lk, hcd⟩ := F.ex
  refine fn_ofG lk hcd S len fun A outer s H vs Q E hg hr hsp => ?_
  obtain ⟨t, h, q⟩ := hb cdv A outer s H vs Q E hg hr hsp
  exact ⟨t, PSs.nox h, q⟩
theorem law_callG {P : Program} {w : World} {K : PySem.W.Frag} {mg mb : Str → Option Value} {k : Nat} {fa a : Addr} {fd : FuncData} {x : Str} {sp : Sp} {s₁ : Shared} {vs : List Value} {ns : List Int}
    (KX : K.In s₁.heap) (hns : s₁.heap.Ns mainGlobals mg) (hb : s₁.heap.Ns builtinsNs mb) (hbb : ∀ x : Str, x ≠ "__name__" → mb x = bootBuiltins x) (hlim : s₁.heap.NoLimit) (hg : s₁.gens = #[]) (ha : s₁.heap.get? a = some { cls := .type "list", data := .seq vs.toArray })
    (hi : PyProof.Rows.IntsAre vs ns) (hl : ns.length ≤ sizeLine) (hr : Room k callerA) (F : ∀ base : Heap, K.In base → base.Ns mainGlobals mg → FnG P w K mg base CX0 k fa fd [x] sp) (hbind : ∀ (s : Shared) (u : Value), BindsTo s fd { pos := [u] } [(x, u)])
    (hsp : ∀ H : Hp, Only H → SqL K H a (ns.map V.int) → sp [.ref a] H (fun v _ => v = .bl true) E0) :
    codeAny (model P w) callerA (.call (.ref fa) { pos := [.ref a] }) (fun r s' => r = .ok (.ret (.bool true)) ∧ OldK s₁.heap s'.heap ∧ s'.os = s₁.os ∧ PyProof.Rows.AllBare s'.gens) s₁ := by
  have core : ∀ H : Hp, Only H → SqL K H a (ns.map V.int) → HOk P w H s₁.heap → (∀ b, H b ≠ none → b = a) → (H a ≠ none → K.lookup a = none) →
      codeAny (model P w) callerA (.call (.ref fa) { pos := [.ref a] }) (fun r s' => r = .ok (.ret (.bool true)) ∧ OldK s₁.heap s'.heap ∧ s'.os = s₁.os ∧ PyProof.Rows.AllBare s'.gens) s₁ := by
    intro H hO hS hok hA hK
    have nd : ∀ {b : Addr} {o : Obj} {es ep}, s₁.heap.get? b = some o → o.data = .dict es ep → H b = none := by
      intro b o es ep e d
      cases q : H b with
      | none => rfl
      | some u =>
        obtain rfl := hA b (by rw [q]; exact fun z => by cases z)
        rw [ha] at e
        obtain rfl := Option.some.inj e
        cases d
    have nsK : ∀ {b : Addr} {m : Str → Option Value}, s₁.heap.Ns b m → (hidT s₁.heap H).Ns b m := by
      rintro b m ⟨o, es, ep, e, d, r⟩
      exact ⟨o, es, ep, hidT_get e (nd e d), d, r⟩
    have hKb : K.In (hidT s₁.heap H) := fun b o e => hidT_get (KX b o e) (by
      cases q : H b with
      | none => rfl
      | some u =>
        have nb : H b ≠ none := by rw [q]; exact fun z => by cases z
        obtain rfl := hA b nb
        have z := hK nb
        rw [e] at z
        cases z)
    have hM : L2.Mod K mg (hidT s₁.heap H) := ⟨hKb, nsK hns, ⟨mb, nsK hb, hbb⟩, by
      obtain ⟨mc, h1, h2⟩ := hlim
      exact ⟨mc, nsK h1, h2⟩⟩
    have e0 : Env0 P w K mg (hidT s₁.heap H) callerA [] s₁ H := ⟨rfl, hM, fun b o e => of_hidT e, Nat.le_of_eq (hidT_size s₁.heap H), trivial, (fun b z => by cases z), hok, PyProof.Rows.AllBare.of_eq hg⟩
    refine codeAny_mono ((F (hidT s₁.heap H) hKb (nsK hns)).run callerA [] s₁ H { pos := [.ref a] } [.ref a] [.ref a] _ E0 rfl hr e0 (hbind s₁ (.ref a)) (.cons rfl .nil) (hsp H hO hS)) fun r s' z => ?_
    cases r with
    | error e => exact absurd z fun z => by cases z
    | ok fl =>
      cases fl with
      | next => exact z.elim
      | brk => exact z.elim
      | cont => exact z.elim
      | ret u =>
        obtain ⟨v, H', os, bare, un, hok', rv, rfl⟩ := z
        obtain rfl : u = .bool true := rv
        refine ⟨rfl, OldK.of_keep fun b o e => ?_, os, bare⟩
        cases q : H b with
        | none => exact un.keep b o e q (fun z => by cases z) (fun z => by cases z)
        | some u =>
          rcases hO b with z | ⟨ob, xs, z⟩
          · rw [z] at q; cases q
          · have z2 := un.frzs b ob (.lst xs) z
            have e1 := (hok b _ z).1
            have e2 := (hok' b _ z2).1
            rw [e] at e1
            rw [e2, e1]
  cases hk : K.lookup a with
  | none =>
    refine core (fun b => if b = a then some (.frz { cls := .type "list", data := .seq vs.toArray } (.lst (ns.map V.int))) else none) (fun b => ?_) (.inl (.inr ⟨_, if_pos rfl⟩)) (fun b u z => ?_) (fun b z => ?_) fun _ => hk
    · by_cases e : b = a
      · exact .inr ⟨_, _, if_pos e⟩
      · exact .inl (if_neg e)
    · by_cases e : b = a
      · subst e
        have z' := (if_pos rfl).symm.trans z
        obtain rfl := Option.some.inj z'
        exact ⟨ha, by rw [List.length_map]; exact hl, vs, _, vals_ints hi, ha⟩
      · have z' := (if_neg e).symm.trans z
        cases z'
    · by_cases e : b = a
      · exact e
      · exact absurd (if_neg e) z
  | some o =>
    refine core (fun _ => none) (fun _ => .inl rfl) ?_ (fun b u z => by cases z) (fun b z => absurd rfl z) fun z => absurd rfl z
    have e := KX a o hk
    rw [ha] at e
    obtain rfl := Option.some.inj e
    refine .inr ⟨_, vs.toArray, _, hk, rfl, rfl, rfl, ?_, vals_ints hi⟩
    have := PyProof.Rows.IntsAre.length hi
    rw [List.size_toArray]
    omega
theorem walk_ofG {l : PySem.W.OpenLaw} {n k : Nat} {q : Program} {loose : List Str} {XP : (Str → Option Value) → Heap → Prop} {YP : World → Heap → Prop} {d : DefRec} {K : Params → PySem.W.Frag} {sp : PySem.W.Frag → Sp} {x : Str}
    (hn : l.most = some n) (hn2 : n ≤ sizeLine) (hdf : d.params.defaults = []) (hr : Room k callerA) (hY : ∀ (w : World) (h : Heap), YP w h → (K w.params).In h)
    (F : ∀ (w : World) (mg : Str → Option Value) (fa : Addr) (h : Heap), (K w.params).In h → h.Ns mainGlobals mg → mg d.name = some (.ref fa) → ∃ fd, (∀ (s : Shared) (u : Value), BindsTo s fd { pos := [u] } [(x, u)]) ∧ ∀ base : Heap, (K w.params).In base → base.Ns mainGlobals mg → FnG l.prog w (K w.params) mg base CX0 k fa fd [x] (sp (K w.params)))
    (hsp : ∀ (K : PySem.W.Frag) (H : Hp) (a : Addr) (ns : List Int), ns.length ≤ n → Only H → SqL K H a (ns.map V.int) → sp K [.ref a] H (fun v _ => v = .bl true) E0) : PySem.W.WalkO q loose XP YP l.row.toRowW d [] fun f vs => PySem.call f vs :=
  Att.attach_call hn hdf fun w s₀ s₁ mg mb fa o pm cd doc a vs ns G Y ho hd hcd hmg hobj hints hlen hg => by
    obtain ⟨fd, hb, hF⟩ := F w mg fa s₁.heap (hY w s₁.heap Y) G.T.g hmg
    exact law_callG (hY w s₁.heap Y) G.T.g G.T.b G.T.builtins G.T.nolimit hg hobj hints (Nat.le_trans hlen hn2) hr hF hb fun H hO hS => hsp _ H a ns hlen hO hS
/-- repr(v): v lists and tuples of plain values -/
def cReprD (K : PySem.W.Frag) : List V → Hp → VK → Prop := fun xs H Q => cRepr xs H Q ∨ ∃ (a : Addr) (d : PyData), xs = [.ref a] ∧ Dp K H (.ref a) d ∧ d.showable = true ∧ d.hasDict = false ∧ d.depth ≤ 60 ∧ d.shown.length ≤ sizeLine ∧ Q (.str d.shown) H
theorem call_reprD {X : Cx} (hg : X.A.guards = some []) (hu : X.A.units + 64 < cLine) : CallR X (.builtin "repr") (cReprD X.K) := by
  refine CallR.or call_reprP ?_
  intro P s σ H vs us Q I r h
  obtain ⟨a, d, rfl, hd, sh, nd, dl, sl, q⟩ := h
  obtain ⟨u, rfl, ru⟩ := vals1 r
  cases (show u = Value.ref a from ru)
  obtain ⟨as, rd⟩ := Dp.reads I d _ _ hd ru
  refine repr_of_reads' rd sh (fun z => by rw [nd] at z; cases z) hg (by omega) (fun b o e => e) (fun h' u tk hk => ?_) sl
  exact ⟨.str d.shown, H, I.kept hk, ⟨u, rfl⟩, q⟩
/-! ### how long what is shown may be -/
theorem join_len (sep : Str) (B : Nat) : ∀ ss : List Str, (∀ s ∈ ss, s.length ≤ B) → (Str.join sep ss).length ≤ ss.length * (B + sep.length)
  | [], _ => by unfold Str.join; exact Nat.zero_le _
  | [x], h => by
    unfold Str.join
    have := h x List.mem_cons_self
    simp
    omega
  | x :: y :: r, h => by
    have ih := join_len sep B (y :: r) fun s hs => h s (List.mem_cons_of_mem _ hs)
    have hx := h x List.mem_cons_self
    unfold Str.join
    rw [TL.len_tl, TL.tl_append, TL.tl_append, List.length_append, List.length_append, ← TL.len_tl, ← TL.len_tl, ← TL.len_tl]
    rw [List.length_cons, Nat.succ_mul]
    omega
theorem tuple_len {B : Nat} {ss : List Str} (h : ∀ s ∈ ss, s.length ≤ B) : (tupleText ss).length ≤ ss.length * (B + 2) + 3 := by
  have j := join_len (Str.ofString ", ") B ss h
  have e2 : (Str.ofString ", ").length = 2 := by decide +kernel
  rw [e2] at j
  unfold tupleText
  rw [TL.len_tl, TL.tl_append, TL.tl_append, List.length_append, List.length_append, ← TL.len_tl, ← TL.len_tl, ← TL.len_tl]
  have e1 : (Str.ofString "(").length = 1 := by decide +kernel
  have e3 : (Str.ofString (if (ss.length == 1) = true then ",)" else ")")).length ≤ 2 := by
    cases (ss.length == 1) <;> decide +kernel
  omega
theorem foldl_len {f : Nat → Array Nat} {B : Nat} : ∀ (l : List Nat) (a : Array Nat), (∀ c ∈ l, (f c).size ≤ B) → (l.foldl (fun out c => out ++ f c) a).size ≤ a.size + l.length * B
  | [], a, _ => by simp
  | c :: l, a, h => by
    have ih := foldl_len (f := f) (B := B) l (a ++ f c) fun d hd => h d (List.mem_cons_of_mem _ hd)
    have hc := h c List.mem_cons_self
    rw [List.foldl_cons, List.length_cons, Nat.succ_mul]
    rw [Array.size_append] at ih
    omega
theorem repr_len {z : Str} {B : Nat} (h : ∀ c ∈ z.cps.toList, (Builtin.Str.reprChar (reprQuote z) c).length ≤ B) : (reprText z).length ≤ 2 + z.length * B := by
  show ((Array.foldl (fun out c => out ++ (Builtin.Str.reprChar (reprQuote z) c).toArray) #[reprQuote z] z.cps).push (reprQuote z)).size ≤ _
  rw [Array.size_push, ← Array.foldl_toList]
  have := foldl_len (f := fun c => (Builtin.Str.reprChar (reprQuote z) c).toArray) (B := B) z.cps.toList #[reprQuote z] (fun c hc => by rw [List.size_toArray]; exact h c hc)
  have e : z.cps.toList.length = z.length := rfl
  rw [e] at this
  have e1 : (#[reprQuote z] : Array Nat).size = 1 := rfl
  omega
theorem quote_or (z : Str) : reprQuote z = 34 ∨ reprQuote z = 39 := by
  unfold reprQuote
  split
  · exact .inl rfl
  · exact .inr rfl
theorem repr_pl : ∀ c ∈ ("abcdefghijklmnopqrstuvwxyzABCDEFGHIJKLMNOPQRSTUVWXYZ0123456789<>=:_@#" : Str).cps.toList, (Builtin.Str.reprChar 34 c).length ≤ 10 ∧ (Builtin.Str.reprChar 39 c).length ≤ 10 := by decide +kernel
theorem small_text : ∀ n : Nat, n < 100 → (Str.ofString (toString (n : Int))).length ≤ 4 ∧ (n : Int).natAbs.log2 < 1920 := by decide +kernel
/-- data that may be shown: at most so long, so deep -/
structure Okd (d : PyData) (L D : Nat) : Prop where
  sh : d.showable = true
  nd : d.hasDict = false
  dp : d.depth ≤ D
  ln : d.shown.length ≤ L
theorem Okd.mono {d : PyData} {L D L' D' : Nat} (h : Okd d L D) (h1 : L ≤ L') (h2 : D ≤ D') : Okd d L' D' := ⟨h.sh, h.nd, Nat.le_trans h.dp h2, Nat.le_trans h.ln h1⟩
theorem Okd.bool (b : Bool) : Okd (.bool b) 5 0 := ⟨rfl, rfl, Nat.le_refl 0, by cases b <;> decide +kernel⟩
theorem Okd.int {n : Nat} (h : n < 100) : Okd (.int (n : Int)) 4 0 := ⟨decide_eq_true (small_text n h).2, rfl, Nat.le_refl 0, (small_text n h).1⟩
theorem Okd.str {z : Str} (h : ∀ c ∈ z.cps.toList, c ∈ ("abcdefghijklmnopqrstuvwxyzABCDEFGHIJKLMNOPQRSTUVWXYZ0123456789<>=:_@#" : Str).cps.toList) : Okd (.str z) (2 + z.length * 10) 0 := ⟨rfl, rfl, Nat.le_refl 0, repr_len fun c hc => by
  rcases quote_or z with e | e <;> rw [e]
  · exact (repr_pl c (h c hc)).1
  · exact (repr_pl c (h c hc)).2⟩
theorem all_okd {L D : Nat} : ∀ xs : List PyData, (∀ x ∈ xs, Okd x L D) → PyData.showableAll xs = true ∧ PyData.hasDictAll xs = false ∧ PyData.depthAll xs ≤ D ∧ (∀ s ∈ PyData.shownAll xs, s.length ≤ L) ∧ (PyData.shownAll xs).length = xs.length
  | [], _ => ⟨rfl, rfl, Nat.zero_le _, (fun s hs => by cases hs), rfl⟩
  | x :: xs, h => by
    obtain ⟨a, b, c, d, e⟩ := all_okd xs fun y hy => h y (List.mem_cons_of_mem _ hy)
    have hx := h x List.mem_cons_self
    refine ⟨?_, ?_, ?_, fun s hs => ?_, ?_⟩
    · show (x.showable && PyData.showableAll xs) = true
      rw [hx.sh, a]; rfl
    · show (x.hasDict || PyData.hasDictAll xs) = false
      rw [hx.nd, b]; rfl
    · show max x.depth (PyData.depthAll xs) ≤ D
      exact Nat.max_le.mpr ⟨hx.dp, c⟩
    · have hs' : s ∈ x.shown :: PyData.shownAll xs := hs
      rcases List.mem_cons.mp hs' with z | z
      · rw [z]; exact hx.ln
      · exact d s z
    · show (x.shown :: PyData.shownAll xs).length = _
      rw [List.length_cons, e]
      rfl
theorem Okd.tuple {L D : Nat} {xs : List PyData} (h : ∀ x ∈ xs, Okd x L D) : Okd (.tuple xs) (xs.length * (L + 2) + 3) (D + 1) := by
  obtain ⟨a, b, c, d, e⟩ := all_okd xs h
  refine ⟨a, b, Nat.succ_le_succ c, ?_⟩
  have := tuple_len d
  rw [e] at this
  exact this
section
variable {X : Cx} (K : PySem.W.Frag)
theorem kReprD (hg : X.A.guards = some []) (hu : X.A.units + 64 < cLine) (hK : X.K = K := by rfl) : CallR X (.builtin "repr") (cReprD K) := hK ▸ call_reprD hg hu
end
theorem rd_reprBD {K : PySem.W.Frag} {b : Bool} {H : Hp} {Q : VK} (h : Q (.str (if b then "True" else "False")) H) : cReprD K [.bl b] H Q := .inl (rd_reprB h)
theorem rd_reprD {K : PySem.W.Frag} {a : Addr} {d : PyData} {L D : Nat} {H : Hp} {Q : VK} (h1 : Dp K H (.ref a) d) (h2 : Okd d L D) (hL : L ≤ sizeLine) (hD : D ≤ 60) (h : Q (.str d.shown) H) : cReprD K [.ref a] H Q := .inr ⟨a, d, rfl, h1, h2.sh, h2.nd, Nat.le_trans h2.dp hD, Nat.le_trans h2.ln hL, h⟩
/-! ### signs, joined -/
theorem fold_signs : ∀ (cs : List Nat) (a : Array Nat), (List.foldl (fun acc (p : Str) => acc ++ (Str.ofString "").cps ++ p.cps) a (cs.map fun c => (⟨#[c]⟩ : Str))).toList = a.toList ++ cs
  | [], a => by simp
  | c :: cs, a => by
    rw [List.map_cons, List.foldl_cons, fold_signs cs]
    have e : (Str.ofString "").cps = #[] := by decide +kernel
    rw [e]
    simp
theorem join_signs (cs : List Nat) : (Txt.join "" (cs.map fun c => (⟨#[c]⟩ : Str))).cps.toList = cs := by
  cases cs with
  | nil => rfl
  | cons c cs =>
    show (List.foldl (fun acc (p : Str) => acc ++ (Str.ofString "").cps ++ p.cps) #[c] (cs.map fun c => (⟨#[c]⟩ : Str))).toList = _
    rw [fold_signs cs #[c]]
    rfl
theorem sum_signs : ∀ cs : List Nat, ((cs.map fun c => (⟨#[c]⟩ : Str)).map (·.length)).sum = cs.length
  | [] => rfl
  | c :: cs => by
    rw [List.map_cons, List.map_cons, List.sum_cons, sum_signs cs, List.length_cons]
    show 1 + cs.length = cs.length + 1
    omega
end AT

set_option Elab.async false
set_option linter.all false
set_option maxRecDepth 100000
set_option maxHeartbeats 4000000
/-! own words, fourth part: values as data, a heap with a hidden part that changes -/
namespace AT
open PySem PySem.Spec L2
section
variable {K : PySem.W.Frag}
mutual
theorem Dp.ex' {H H' : Hp} (e : Ex H H') : ∀ (d : PyData) {v : V}, Dp K H v d → Dp K H' v d
  | .none, _, h => by cases h; exact .non
  | .bool b, _, h => by cases h; exact .bl b
  | .int i, _, h => by cases h; exact .int i
  | .str x, _, h => by cases h; exact .str x
  | .list ds, _, h => by
    cases h with
    | lst hs ha => exact .lst (Evl.ex_l e hs) (DpAll.ex' e ds ha)
  | .tuple ds, _, h => by
    cases h with
    | tup hs ha => exact .tup (Evl.ex_t e hs) (DpAll.ex' e ds ha)
  | .dict _, _, h => by cases h
theorem DpAll.ex' {H H' : Hp} (e : Ex H H') : ∀ (ds : List PyData) {vs : List V}, DpAll K H vs ds → DpAll K H' vs ds
  | [], _, h => by cases h; exact .nil
  | d :: ds, _, h => by
    cases h with
    | cons h1 h2 => exact .cons (Dp.ex' e d h1) (DpAll.ex' e ds h2)
end
theorem _root_.L2.Dp.ex {H H' : Hp} {v : V} {d : PyData} (h : Dp K H v d) (e : Ex H H') : Dp K H' v d := Dp.ex' e d h
theorem _root_.L2.DpAll.ex {H H' : Hp} {vs : List V} {ds : List PyData} (h : DpAll K H vs ds) (e : Ex H H') : DpAll K H' vs ds := DpAll.ex' e ds h
theorem _root_.L2.DpAll.len {H : Hp} : ∀ {vs : List V} {ds : List PyData}, DpAll K H vs ds → vs.length = ds.length
  | _, _, .nil => rfl
  | _, _, .cons _ t => by rw [List.length_cons, List.length_cons, t.len]
theorem _root_.L2.DpAll.get {H : Hp} : ∀ {vs : List V} {ds : List PyData} {i : Nat} {d : PyData}, DpAll K H vs ds → ds[i]? = some d → ∃ v, vs[i]? = some v ∧ Dp K H v d
  | _, _, i, d, .nil, e => by simp at e
  | _, _, 0, d, .cons (v := v) h _, e => by
    simp at e
    subst e
    exact ⟨v, rfl, h⟩
  | _, _, i + 1, d, .cons _ t, e => by
    obtain ⟨v, h1, h2⟩ := t.get (i := i) (d := d) (by simpa using e)
    exact ⟨v, by simpa using h1, h2⟩
theorem _root_.L2.DpAll.got {H : Hp} {vs : List V} {ds : List PyData} {i : Nat} {v : V} (h : DpAll K H vs ds) (e : vs[i]? = some v) : ∃ d, ds[i]? = some d ∧ Dp K H v d := by
  have hl : i < vs.length := (List.getElem?_eq_some_iff.mp e).1
  have hd : i < ds.length := by rw [← h.len]; exact hl
  obtain ⟨v', h1, h2⟩ := h.get (List.getElem?_eq_getElem hd)
  rw [h1] at e
  obtain rfl := Option.some.inj e
  exact ⟨_, List.getElem?_eq_getElem hd, h2⟩
theorem _root_.L2.DpAll.app {H : Hp} : ∀ {vs : List V} {ds : List PyData} {us : List V} {es : List PyData}, DpAll K H vs ds → DpAll K H us es → DpAll K H (vs ++ us) (ds ++ es)
  | _, _, _, _, .nil, h => h
  | _, _, _, _, .cons h t, q => .cons h (t.app q)
theorem _root_.L2.DpAll.snoc {H : Hp} {vs : List V} {ds : List PyData} {v : V} {d : PyData} (h : DpAll K H vs ds) (q : Dp K H v d) : DpAll K H (vs ++ [v]) (ds ++ [d]) := h.app (.cons q .nil)
theorem DpAll.of {H : Hp} : ∀ {vs : List V} {ds : List PyData}, vs.length = ds.length → (∀ (i : Nat) v d, vs[i]? = some v → ds[i]? = some d → Dp K H v d) → DpAll K H vs ds
  | [], [], _, _ => .nil
  | [], _ :: _, h, _ => by cases h
  | _ :: _, [], h, _ => by cases h
  | v :: vs, d :: ds, h, g => .cons (g 0 v d rfl rfl) (DpAll.of (Nat.succ.inj h) fun i v d h1 h2 => g (i + 1) v d (by simpa using h1) (by simpa using h2))
theorem _root_.L2.DpAll.erase {H : Hp} : ∀ {vs : List V} {ds : List PyData} (i : Nat), DpAll K H vs ds → DpAll K H (vs.eraseIdx i) (ds.eraseIdx i)
  | _, _, _, .nil => .nil
  | _, _, 0, .cons _ t => t
  | _, _, i + 1, .cons h t => .cons h (t.erase i)
theorem _root_.L2.DpAll.set {H : Hp} {v : V} {d : PyData} (q : Dp K H v d) : ∀ {vs : List V} {ds : List PyData} (i : Nat), DpAll K H vs ds → DpAll K H (vs.set i v) (ds.set i d)
  | _, _, _, .nil => .nil
  | _, _, 0, .cons _ t => .cons q t
  | _, _, i + 1, .cons h t => .cons h (t.set q i)
theorem DpAll.mapV {α : Type} {H : Hp} (f : α → V) (g : α → PyData) (l : List α) (h : ∀ x ∈ l, Dp K H (f x) (g x)) : DpAll K H (l.map f) (l.map g) := by
  induction l with
  | nil => exact .nil
  | cons x l ih => exact .cons (h x List.mem_cons_self) (ih fun y hy => h y (List.mem_cons_of_mem _ hy))
/-! the shapes of values -/
theorem Dp.non_iff {H : Hp} {v : V} (h : Dp K H v .none) : v = .non := by cases h; rfl
theorem Dp.int_iff {H : Hp} {v : V} {i : Int} (h : Dp K H v (.int i)) : v = .int i := by cases h; rfl
theorem Dp.str_iff {H : Hp} {v : V} {i : Str} (h : Dp K H v (.str i)) : v = .str i := by cases h; rfl
theorem Dp.bl_iff {H : Hp} {v : V} {i : Bool} (h : Dp K H v (.bool i)) : v = .bl i := by cases h; rfl
theorem Dp.lstv {H : Hp} {v : V} {ds : List PyData} (h : Dp K H v (.list ds)) : ∃ a vs, v = .ref a ∧ SqL K H a vs ∧ DpAll K H vs ds := by
  cases h with
  | lst hs ha => exact ⟨_, _, rfl, hs, ha⟩
theorem Dp.tupv {H : Hp} {v : V} {ds : List PyData} (h : Dp K H v (.tuple ds)) : ∃ a vs, v = .ref a ∧ SqT K H a vs ∧ DpAll K H vs ds := by
  cases h with
  | tup hs ha => exact ⟨_, _, rfl, hs, ha⟩
/-! ### the hidden part -/
def hid (S : List Addr) (H : Hp) : Hp := fun b => if b ∈ S then none else H b
theorem hid_at {S : List Addr} {H : Hp} {b : Addr} (h : b ∉ S) : hid S H b = H b := if_neg h
theorem hid_in {S : List Addr} {H : Hp} {b : Addr} (h : b ∈ S) : hid S H b = none := if_pos h
theorem hid_nil {H : Hp} : hid [] H = H := by
  funext b
  exact if_neg List.not_mem_nil
theorem hid_some {S : List Addr} {H : Hp} {b : Addr} {o : HO} (h : hid S H b = some o) : b ∉ S ∧ H b = some o := by
  by_cases z : b ∈ S
  · rw [hid_in z] at h; cases h
  · exact ⟨z, by rw [hid_at z] at h; exact h⟩
theorem hid_ex {S : List Addr} {H : Hp} : Ex (hid S H) H := fun b o h => (hid_some h).2
theorem hid_sub {S S' : List Addr} {H : Hp} (h : ∀ b ∈ S', b ∈ S) : Ex (hid S H) (hid S' H) := fun b o q => by
  obtain ⟨h1, h2⟩ := hid_some q
  rw [hid_at fun z => h1 (h b z)]
  exact h2
theorem hid_tail {q : Addr} {S : List Addr} {H : Hp} : Ex (hid (q :: S) H) (hid S H) := hid_sub fun _ hb => List.mem_cons_of_mem _ hb
/-- all but S stands -/
def Kp (S : List Addr) (H H' : Hp) : Prop := ∀ b o, b ∉ S → H b = some o → H' b = some o
theorem Kp.refl {S : List Addr} {H : Hp} : Kp S H H := fun _ _ _ h => h
theorem Kp.trans {S : List Addr} {H H1 H2 : Hp} (a : Kp S H H1) (b : Kp S H1 H2) : Kp S H H2 := fun x o hx h => b x o hx (a x o hx h)
theorem Kp.of_ex {S : List Addr} {H H' : Hp} (e : Ex H H') : Kp S H H' := fun b o _ h => e b o h
theorem Kp.ex {S : List Addr} {H H' : Hp} (k : Kp S H H') : Ex (hid S H) (hid S H') := fun b o q => by
  obtain ⟨h1, h2⟩ := hid_some q
  rw [hid_at h1]
  exact k b o h1 h2
theorem Kp.sub {S S' : List Addr} {H H' : Hp} (k : Kp S H H') (h : ∀ b ∈ S, b ∈ S') : Kp S' H H' := fun b o hb q => k b o (fun z => hb (h b z)) q
theorem Kp.put {S : List Addr} {H : Hp} {q : Addr} {o : HO} (h : q ∈ S) : Kp S H (upd H q o) := fun b u hb z => by
  rw [upd_ne (show b ≠ q from fun e => hb (by rw [e]; exact h))]
  exact z
theorem Kp.new {S : List Addr} {H : Hp} {q : Addr} {o : HO} (h : H q = none) : Kp S H (upd H q o) := Kp.of_ex (Evl.Ex.new h)
/-- from what stands in the one hidden part to the other -/
theorem Kp.up {M S : List Addr} {H0 H : Hp} (k : Kp M H0 H) (fr : ∀ q ∈ S, q ∉ M → H0 q = none) : Ex (hid M H0) (hid S H) := fun b o z => by
  obtain ⟨h1, h2⟩ := hid_some z
  rw [hid_at fun hb => ?_]
  · exact k b o h1 h2
  · have := fr b hb h1
    rw [h2] at this
    cases this
theorem Ex.hid {S : List Addr} {H H' : Hp} (e : Ex H H') : Ex (AT.hid S H) (AT.hid S H') := (Kp.of_ex (S := S) e).ex
/-- a list that was changed is let be -/
theorem Dp.frz {S : List Addr} {H : Hp} {q : Addr} {vs : List V} {ds : List PyData} (hq : H q = some (.lst vs)) (hn : q ∉ S) (h : DpAll K (hid (q :: S) H) vs ds) : Dp K (hid S H) (.ref q) (.list ds) :=
  .lst (SqL.of (by rw [hid_at hn]; exact hq)) (h.ex hid_tail)
theorem Dp.frz' {S : List Addr} {H : Hp} {q : Addr} {vs : List V} {ds : List PyData} (hq : H q = some (.lst vs)) (hn : q ∉ S) (h : DpAll K (hid S H) vs ds) : Dp K (hid S H) (.ref q) (.list ds) :=
  .lst (SqL.of (by rw [hid_at hn]; exact hq)) h
/-- a new list, a new tuple -/
theorem notin_of {S : List Addr} {H : Hp} {q : Addr} (hs : ∀ b ∈ S, ∃ o, H b = some o) (hq : H q = none) : q ∉ S := fun z => by
  obtain ⟨o, ho⟩ := hs q z
  rw [hq] at ho
  cases ho
theorem Dp.newT {S : List Addr} {H : Hp} {q : Addr} {vs : List V} {ds : List PyData} (hq : H q = none) (hn : q ∉ S) (h : DpAll K (hid S H) vs ds) : Dp K (hid S (upd H q (.tup vs))) (.ref q) (.tuple ds) :=
  .tup (Evl.st_of (by rw [hid_at hn, upd_same])) (h.ex (Ex.hid (Evl.Ex.new hq)))
theorem Dp.newL {S : List Addr} {H : Hp} {q : Addr} {vs : List V} {ds : List PyData} (hq : H q = none) (hn : q ∉ S) (h : DpAll K (hid S H) vs ds) : Dp K (hid S (upd H q (.lst vs))) (.ref q) (.list ds) :=
  .lst (SqL.of (by rw [hid_at hn, upd_same])) (h.ex (Ex.hid (Evl.Ex.new hq)))
/-! ### reading -/
section
variable {σ : L2.St} {H H0 : Hp} {Q : VK} {x : V} {ds : List PyData} {d : PyData} {i : Nat}
theorem rd_ixDT (e : Ex H0 H) (h : Dp K H0 x (.tuple ds)) (hi : ds[i]? = some d) (q : ∀ v, Dp K H0 v d → Q v H) : rIx K x (.int (i : Int)) H Q := by
  obtain ⟨a, vs, rfl, h1, h2⟩ := Dp.tupv h
  obtain ⟨v, hv, hd⟩ := h2.get hi
  exact rd_ixT (Evl.ex_t e h1) (atI_nat hv) (q v hd)
theorem rd_ixDL (e : Ex H0 H) (h : Dp K H0 x (.list ds)) (hi : ds[i]? = some d) (q : ∀ v, Dp K H0 v d → Q v H) : rIx K x (.int (i : Int)) H Q := by
  obtain ⟨a, vs, rfl, h1, h2⟩ := Dp.lstv h
  obtain ⟨v, hv, hd⟩ := h2.get hi
  exact rd_ixL (Evl.ex_l e h1) (atI_nat hv) (q v hd)
theorem rd_lenDT (e : Ex H0 H) (h : Dp K H0 x (.tuple ds)) (q : Q (.int (ds.length : Int)) H) : cLen K [x] H Q := by
  obtain ⟨a, vs, rfl, h1, h2⟩ := Dp.tupv h
  exact rd_lenT (Evl.ex_t e h1) (by rw [h2.len]; exact q)
theorem rd_lenDL (e : Ex H0 H) (h : Dp K H0 x (.list ds)) (q : Q (.int (ds.length : Int)) H) : cLen K [x] H Q := by
  obtain ⟨a, vs, rfl, h1, h2⟩ := Dp.lstv h
  exact rd_lenL (Evl.ex_l e h1) (by rw [h2.len]; exact q)
def oIs : R2 := fun x y H Q => y = .non ∧ Q (.bl (decide (x = .non))) H
theorem rd_is {P : Prop} (h : P) : V.non = V.non ∧ P := ⟨rfl, h⟩
/-- == of the same data -/
def Lay (d : PyData) : Prop := d.canLay0 = true ∧ d.depth ≤ 64
theorem Lay.sh {d : PyData} (h : Lay d) : SeqAt.shaped d = true := Bool.and_eq_true_iff.mpr ⟨h.1, decide_eq_true h.2⟩
theorem rd_eqD {y : V} {H1 : Hp} (e0 : Ex H0 H) (e1 : Ex H1 H) (hx : Dp K H0 x d) (hy : Dp K H1 y d) (hl : Lay d) (q : Q (.bl true) H) : oEq K x y H Q :=
  .inr ⟨d, d, hx.ex e0, hy.ex e1, hl.sh, hl.sh, by rw [SeqAt.eqv_refl d hl.1]; exact q⟩
theorem rd_neD {y : V} {H1 : Hp} (e0 : Ex H0 H) (e1 : Ex H1 H) (hx : Dp K H0 x d) (hy : Dp K H1 y d) (hl : Lay d) (q : Q (.bl false) H) : oNe K x y H Q :=
  .inr ⟨d, d, hx.ex e0, hy.ex e1, hl.sh, hl.sh, by rw [SeqAt.eqv_refl d hl.1]; exact q⟩
end
/-- data that may be compared: at most so deep -/
structure Ly (d : PyData) (n : Nat) : Prop where
  c : d.canLay0 = true
  p : d.depth ≤ n
theorem Ly.lay {d : PyData} {n : Nat} (h : Ly d n) (hn : n ≤ 64) : Lay d := ⟨h.c, Nat.le_trans h.p hn⟩
theorem Ly.mono {d : PyData} {n m : Nat} (h : Ly d n) (hn : n ≤ m) : Ly d m := ⟨h.c, Nat.le_trans h.p hn⟩
theorem Ly.none : Ly .none 0 := ⟨rfl, Nat.le_refl 0⟩
theorem Ly.bool {b : Bool} : Ly (.bool b) 0 := ⟨rfl, Nat.le_refl 0⟩
theorem Ly.int {i : Int} : Ly (.int i) 0 := ⟨rfl, Nat.le_refl 0⟩
theorem Ly.str {x : Str} (h : okS x) : Ly (.str x) 0 := ⟨h, Nat.le_refl 0⟩
theorem ly_all {n : Nat} : ∀ {ds : List PyData}, (∀ d ∈ ds, Ly d n) → PyData.canLayAll0 ds = true ∧ PyData.depthAll ds ≤ n
  | [], _ => ⟨rfl, Nat.zero_le _⟩
  | d :: ds, h => by
    obtain ⟨a, b⟩ := ly_all (ds := ds) fun y hy => h y (List.mem_cons_of_mem _ hy)
    have hx := h d List.mem_cons_self
    refine ⟨?_, Nat.max_le.mpr ⟨hx.p, b⟩⟩
    show (d.canLay0 && PyData.canLayAll0 ds) = true
    rw [hx.c, a]; rfl
theorem Ly.tuple {n : Nat} {ds : List PyData} (h : ∀ d ∈ ds, Ly d n) : Ly (.tuple ds) (n + 1) := ⟨(ly_all h).1, Nat.succ_le_succ (ly_all h).2⟩
theorem Ly.list {n : Nat} {ds : List PyData} (h : ∀ d ∈ ds, Ly d n) : Ly (.list ds) (n + 1) := ⟨(ly_all h).1, Nat.succ_le_succ (ly_all h).2⟩
/-! ### walks over data -/
def YD (K : PySem.W.Frag) (ds : List PyData) (H0 : Hp) : Nat → Hp → V → Hp → Prop := fun i H v H' => H' = H ∧ ∃ d, ds[i]? = some d ∧ Dp K H0 v d
abbrev Wd (K : PySem.W.Frag) (J : It) (ds : List PyData) (H0 : Hp) : Prop := Walk J ds.length (fun H => Ex H0 H) (YD K ds H0)
theorem wd_list {H0 : Hp} {a : Addr} {vs : List V} {ds : List PyData} (h : SqL K H0 a vs) (hd : DpAll K H0 vs ds) : Wd K (Itl K a) ds H0 := by
  rw [Wd, ← hd.len]
  exact walk_list.mono (fun H e => Evl.ex_l e h) fun i H x H' _ _ y => ⟨y.1, hd.got y.2⟩
theorem wd_tup {H0 : Hp} {a : Addr} {vs : List V} {ds : List PyData} (h : SqT K H0 a vs) (hd : DpAll K H0 vs ds) : Wd K (Itt K a) ds H0 := by
  rw [Wd, ← hd.len]
  exact walk_tup.mono (fun H e => Evl.ex_t e h) fun i H x H' _ _ y => ⟨y.1, hd.got y.2⟩
section
variable {σ : L2.St} {H H0 : Hp} {Q : VK} {te : TE} {R : It → Hp → Prop} {D : Ends} {g : TG} {tb : TS} {tt : TT} {J : It} {ds : List PyData} {x : V} {vs : List Nat}
theorem rd_anyL' (h : te σ H fun x H1 => ∃ a, x = .ref a ∧ (∃ xs, SqL K H1 a xs) ∧ R (Itl K a) H1) : iAny K te σ H R := .inl h
theorem rd_anyT' (h : te σ H fun x H1 => ∃ a, x = .ref a ∧ (∃ xs, SqT K H1 a xs) ∧ R (Itt K a) H1) : iAny K te σ H R := .inr (.inl h)
theorem rd_anyS' (h : te σ H fun v H1 => ∃ x, v = .str x ∧ R (Its x) H1) : iAny K te σ H R := .inr (.inr h)
theorem rd_itDL (e : Ex H0 H) (h : Dp K H0 x (.list ds)) (q : ∀ J, Wd K J ds H0 → R J H) : ∃ a, x = .ref a ∧ (∃ xs, SqL K H a xs) ∧ R (Itl K a) H := by
  obtain ⟨a, vs, rfl, h1, h2⟩ := Dp.lstv h
  exact ⟨a, rfl, ⟨vs, Evl.ex_l e h1⟩, q _ (wd_list h1 h2)⟩
theorem rd_itDT (e : Ex H0 H) (h : Dp K H0 x (.tuple ds)) (q : ∀ J, Wd K J ds H0 → R J H) : ∃ a, x = .ref a ∧ (∃ xs, SqT K H a xs) ∧ R (Itt K a) H := by
  obtain ⟨a, vs, rfl, h1, h2⟩ := Dp.tupv h
  exact ⟨a, rfl, ⟨vs, Evl.ex_t e h1⟩, q _ (wd_tup h1 h2)⟩
theorem rd_itS {z : Str} (q : R (Its z) H) : ∃ x, V.str z = .str x ∧ R (Its x) H := ⟨z, rfl, q⟩
theorem fo_D (w : Wd K J ds H0) (Pv : Nat → L2.St → Hp → Prop) (h0 : Pv 0 σ H) (hG : ∀ i σ H, i ≤ ds.length → Pv i σ H → Ex H0 H)
    (hs : ∀ (i : Nat) d v σ H, ds[i]? = some d → Dp K H0 v d → Pv i σ H → g v σ H fun σ2 H2 => tb { D with nx := Pv (i + 1), ct := Pv (i + 1), bk := D.nx } σ2 H2) (hd : ∀ σ H, Pv ds.length σ H → D.nx σ H) : forB g tb D σ J H :=
  fo_it w Pv h0 hG (fun i v σ H H' hi p y => by
    obtain ⟨rfl, d, h1, h2⟩ := y
    exact hs i d v σ _ h1 h2 p) hd
/-- how the heap goes on from H: S may change, the rest stands -/
structure Tr (S : List Addr) (H : Hp) (T : Hp → Hp → Prop) : Prop where
  rfl' : T H H
  here : ∀ {a}, T H a → T a a
  st : ∀ {a b c}, T a b → (∃ o, a c = some o) → ∃ o : HO, b c = some o
  trans : ∀ {a b c}, T a b → T b c → T a c
  put : ∀ {L Hc o}, H L = none → T H Hc → T H (upd Hc L o)
  kp : ∀ {a b}, T a b → Kp S a b
theorem tr_ex {S : List Addr} {H : Hp} : Tr S H Ex := ⟨Evl.Ex.refl H, fun {a} _ => Evl.Ex.refl a, fun e h => h.elim fun o z => ⟨o, e _ _ z⟩, fun a b => a.trans b, fun h e => Evl.Ex.mut e h, fun e => Kp.of_ex e⟩
/-- a comprehension with a test, each value told by its turn -/
theorem lc_F {S : List Addr} {T : Hp → Hp → Prop} {n : Nat} {G : Hp → Prop} {Y : Nat → Hp → V → Hp → Prop} {P : Nat → V → Prop} {P2 : Nat → L2.St → Prop} (t : Tr S H T) (hS : ∀ b ∈ S, ∃ o, H b = some o) (w : Walk J n G Y) (hY : ∀ i H x H', i < n → Y i H x H' → H' = H ∧ P i x) (hn : n < 100000)
    (hG : ∀ Hc, T H Hc → G Hc) (p : Nat → Bool) (f : Nat → PyData)
    (hg : ∀ i x Hc (N : L2.St → Hp → Prop), i < n → P i x → T H Hc → (∀ σ2, wipe σ2 vs = wipe σ vs → P2 i σ2 → N σ2 Hc) → g x (wipe σ vs) Hc N)
    (ht : ∀ L i σ2 Hc, i < n → P2 i σ2 → H L = none → L ∉ S → T H Hc → (∀ b ∈ L :: S, ∃ o, Hc b = some o) → Ex (hid S H) (hid (L :: S) Hc) → ∀ N : Bool → Hp → Prop, (∀ H2, T Hc H2 → N (p i) H2) → tt σ2 Hc N)
    (he : ∀ L i σ2 Hc, i < n → P2 i σ2 → p i = true → H L = none → L ∉ S → T H Hc → (∀ b ∈ L :: S, ∃ o, Hc b = some o) → Ex (hid S H) (hid (L :: S) Hc) → ∀ N : VK, (∀ v H2, T Hc H2 → Dp K (hid (L :: S) H2) v (f i) → N v H2) → te σ2 Hc N)
    (h : ∀ L us Hc, T H Hc → H L = none → L ∉ S → Hc L = some (.lst us) → DpAll K (hid (L :: S) Hc) us (((List.range n).filter p).map f) → Q (.ref L) Hc) : lcB g tt te vs σ Q J H := by
  intro L hL
  have nL : L ∉ S := notin_of hS hL
  have up : ∀ {Hc}, T H Hc → Ex (hid S H) (hid (L :: S) Hc) := fun q => (t.kp q).up fun b hb hn => by
    rcases List.mem_cons.mp hb with z | z
    · rw [z]; exact hL
    · exact absurd z hn
  have kL : ∀ {a b : Hp} {o}, T a b → a L = some o → b L = some o := fun q z => t.kp q L _ nL z
  have hz : ∀ m, m ≤ n → (((List.range m).filter p).map f).length < sizeLine := fun m hm => by
    rw [List.length_map]
    have := List.length_filter_le p (List.range m)
    rw [List.length_range] at this
    exact Nat.lt_of_le_of_lt (Nat.le_trans this hm) (Nat.lt_trans hn (by decide))
  refine lc_it w (fun i Hc => i ≤ n ∧ T H Hc ∧ ∃ us, Hc L = some (.lst us) ∧ DpAll K (hid (L :: S) Hc) us (((List.range i).filter p).map f)) ⟨Nat.zero_le _, t.put hL t.rfl', [], upd_same, .nil⟩ (fun i Hc _ q => hG Hc q.2.1) (fun i x Hc H' hi q y => ?_) fun Hc q => ?_
  · obtain ⟨hi1, t1, us, h1, h2⟩ := q
    obtain ⟨rfl, px⟩ := hY _ _ _ _ hi y
    refine hg i x _ _ hi px t1 fun σ2 hw p2 => ⟨hw, ?_⟩
    have hs1 : ∀ b ∈ L :: S, ∃ o, H' b = some o := fun b hb => by
      rcases List.mem_cons.mp hb with z | z
      · rw [z]; exact ⟨_, h1⟩
      · exact t.st t1 (hS b z)
    refine ht L i σ2 _ hi p2 hL nL t1 hs1 (up t1) _ fun H2 t2 => ?_
    cases hp : p i with
    | true =>
      refine rd_iteT ?_
      refine he L i σ2 H2 hi p2 hp hL nL (t.trans t1 t2) (fun b hb => t.st t2 (hs1 b hb)) (up (t.trans t1 t2)) _ fun v H3 t3 dv => ?_
      have k23 := (t.kp (t.trans t2 t3)).sub (S' := L :: S) fun b hb => List.mem_cons_of_mem _ hb
      refine ⟨us, kL t3 (kL t2 h1), by rw [h2.len]; exact hz i hi1, hi, t.put hL (t.trans (t.trans t1 t2) t3), us ++ [v], upd_same, ?_⟩
      rw [List.range_succ, List.filter_append, List.map_append]
      have e : ((List.filter p [i]).map f) = [f i] := by
        rw [List.filter_cons, if_pos hp]
        rfl
      rw [e]
      exact ((h2.ex k23.ex).snoc dv).ex (Kp.put List.mem_cons_self).ex
    | false =>
      refine rd_iteF ?_
      have k12 := (t.kp t2).sub (S' := L :: S) fun b hb => List.mem_cons_of_mem _ hb
      refine ⟨hi, t.trans t1 t2, us, kL t2 h1, ?_⟩
      rw [List.range_succ, List.filter_append, List.map_append]
      have e : ((List.filter p [i]).map f) = [] := by
        rw [List.filter_cons, if_neg (by rw [hp]; exact Bool.false_ne_true)]
        rfl
      rw [e, List.append_nil]
      exact h2.ex k12.ex
  · obtain ⟨_, t1, us, h1, h2⟩ := q
    exact h L us Hc t1 hL nL h1 h2
/-- a comprehension without a test, each value told by a relation -/
theorem lc_R {S : List Addr} {T : Hp → Hp → Prop} {n : Nat} {G : Hp → Prop} {Y : Nat → Hp → V → Hp → Prop} {P : Nat → V → Prop} {P2 : Nat → L2.St → Prop} (t : Tr S H T) (hS : ∀ b ∈ S, ∃ o, H b = some o) (w : Walk J n G Y) (hY : ∀ i H x H', i < n → Y i H x H' → H' = H ∧ P i x) (hn : n < 100000)
    (hG : ∀ Hc, T H Hc → G Hc) (R : Nat → PyData → Prop)
    (hg : ∀ i x Hc (N : L2.St → Hp → Prop), i < n → P i x → T H Hc → (∀ σ2, wipe σ2 vs = wipe σ vs → P2 i σ2 → N σ2 Hc) → g x (wipe σ vs) Hc N)
    (he : ∀ L i σ2 Hc, i < n → P2 i σ2 → H L = none → L ∉ S → T H Hc → (∀ b ∈ L :: S, ∃ o, Hc b = some o) → Ex (hid S H) (hid (L :: S) Hc) → ∀ N : VK, (∀ v d H2, T Hc H2 → Dp K (hid (L :: S) H2) v d → R i d → N v H2) → te σ2 Hc N)
    (h : ∀ L us Hc ds, T H Hc → H L = none → L ∉ S → Hc L = some (.lst us) → DpAll K (hid (L :: S) Hc) us ds → ds.length = n → (∀ i d, ds[i]? = some d → R i d) → Q (.ref L) Hc) : lcB g tYes te vs σ Q J H := by
  intro L hL
  have nL : L ∉ S := notin_of hS hL
  have up : ∀ {Hc}, T H Hc → Ex (hid S H) (hid (L :: S) Hc) := fun q => (t.kp q).up fun b hb hn => by
    rcases List.mem_cons.mp hb with z | z
    · rw [z]; exact hL
    · exact absurd z hn
  have kL : ∀ {a b : Hp} {o}, T a b → a L = some o → b L = some o := fun q z => t.kp q L _ nL z
  refine lc_it w (fun i Hc => i ≤ n ∧ T H Hc ∧ ∃ us ds, Hc L = some (.lst us) ∧ DpAll K (hid (L :: S) Hc) us ds ∧ ds.length = i ∧ ∀ i d, ds[i]? = some d → R i d) ⟨Nat.zero_le _, t.put hL t.rfl', [], [], upd_same, .nil, rfl, fun i d z => by simp at z⟩ (fun i Hc _ q => hG Hc q.2.1) (fun i x Hc H' hi q y => ?_) fun Hc q => ?_
  · obtain ⟨hi1, t1, us, ds, h1, h2, h3, h4⟩ := q
    obtain ⟨rfl, px⟩ := hY _ _ _ _ hi y
    refine hg i x _ _ hi px t1 fun σ2 hw p2 => ⟨hw, rd_yes ?_⟩
    refine rd_iteT ?_
    have hs1 : ∀ b ∈ L :: S, ∃ o, H' b = some o := fun b hb => by
      rcases List.mem_cons.mp hb with z | z
      · rw [z]; exact ⟨_, h1⟩
      · exact t.st t1 (hS b z)
    refine he L i σ2 _ hi p2 hL nL t1 hs1 (up t1) _ fun v d H3 t3 dv rv => ?_
    have k23 := (t.kp t3).sub (S' := L :: S) fun b hb => List.mem_cons_of_mem _ hb
    refine ⟨us, kL t3 h1, by rw [h2.len, h3]; exact Nat.lt_of_lt_of_le (Nat.lt_trans hi hn) (by decide), hi, t.put hL (t.trans t1 t3), us ++ [v], ds ++ [d], upd_same, ((h2.ex k23.ex).snoc dv).ex (Kp.put List.mem_cons_self).ex, by rw [List.length_append, h3]; rfl, fun i' d' hd' => ?_⟩
    by_cases hlt : i' < ds.length
    · rw [List.getElem?_append_left hlt] at hd'
      exact h4 i' d' hd'
    · rw [List.getElem?_append_right (by omega)] at hd'
      have e0 : i' - ds.length = 0 := by
        rcases Nat.eq_zero_or_pos (i' - ds.length) with z | z
        · exact z
        · rw [List.getElem?_eq_none (by simp; omega)] at hd'
          cases hd'
      rw [e0] at hd'
      obtain rfl : d = d' := Option.some.inj hd'
      have e3 : i' = i := by omega
      rw [e3]
      exact rv
  · obtain ⟨_, t1, us, ds, h1, h2, h3, h4⟩ := q
    exact h L us Hc ds t1 hL nL h1 h2 h3 h4
/-- one name as the target -/
theorem hg_name {T : Hp → Hp → Prop} {n j : Nat} {P : Nat → V → Prop} {H : Hp} (hw : ∀ v : V, wipe ((wipe σ [j]).set j (some v)) [j] = wipe σ [j]) : ∀ i x Hc (N : L2.St → Hp → Prop), i < n → P i x → T H Hc → (∀ σ2, wipe σ2 [j] = wipe σ [j] → (∃ v, P i v ∧ σ2 = (wipe σ [j]).set j (some v)) → N σ2 Hc) → gName j x (wipe σ [j]) Hc N :=
  fun i x Hc N _ p _ h => h _ (hw x) ⟨x, p, rfl⟩
theorem wd_Y {n : Nat} : ∀ (i : Nat) (H : Hp) (x : V) (H' : Hp), i < n → YD K ds H0 i H x H' → H' = H ∧ ∃ d, ds[i]? = some d ∧ Dp K H0 x d := fun _ _ _ _ _ y => y
theorem str_Y {z : Str} : ∀ (i : Nat) (H : Hp) (x : V) (H' : Hp), i < z.cps.size → (H' = H ∧ ∃ c, z.cps[i]? = some c ∧ x = .str ⟨#[c]⟩) → H' = H ∧ ∃ c, z.cps.toList[i]? = some c ∧ x = V.str ⟨#[c]⟩ := fun i H x H' _ y => ⟨y.1, by
  obtain ⟨c, h1, h2⟩ := y.2
  exact ⟨c, by rw [Array.getElem?_toList]; exact h1, h2⟩⟩
/-! over data, one name as the target -/
theorem getD_range {α β : Type} (l : List α) (a : α) (q : α → Bool) (f : α → β) : ((List.range l.length).filter (fun i => q (l.getD i a))).map (fun i => f (l.getD i a)) = (l.filter q).map f := by
  have e : (List.range l.length).map (fun i => l.getD i a) = l := by
    refine List.ext_getElem (by simp) fun i h1 h2 => ?_
    rw [List.getElem_map, List.getElem_range, List.getD_eq_getElem?_getD, List.getElem?_eq_getElem h2]
    rfl
  have h : ((List.range l.length).map (fun i => l.getD i a)).filter q = ((List.range l.length).filter (fun i => q (l.getD i a))).map (fun i => l.getD i a) := List.filter_map ..
  rw [e] at h
  rw [h, List.map_map]
  rfl
theorem lc_FD {S : List Addr} {T : Hp → Hp → Prop} {j : Nat} (t : Tr S H T) (hS : ∀ b ∈ S, ∃ o, H b = some o) (w : Wd K J ds H0) (e0 : Ex H0 (hid S H)) (hn : ds.length < 100000) (hw : ∀ v : V, wipe ((wipe σ [j]).set j (some v)) [j] = wipe σ [j])
    (q : PyData → Bool) (F : PyData → PyData)
    (ht : ∀ L d v Hc, d ∈ ds → Dp K (hid (L :: S) Hc) v d → H L = none → L ∉ S → T H Hc → (∀ b ∈ L :: S, ∃ o, Hc b = some o) → Ex (hid S H) (hid (L :: S) Hc) → ∀ N : Bool → Hp → Prop, (∀ H2, T Hc H2 → N (q d) H2) → tt ((wipe σ [j]).set j (some v)) Hc N)
    (he : ∀ L d v Hc, d ∈ ds → Dp K (hid (L :: S) Hc) v d → q d = true → H L = none → L ∉ S → T H Hc → (∀ b ∈ L :: S, ∃ o, Hc b = some o) → Ex (hid S H) (hid (L :: S) Hc) → ∀ N : VK, (∀ v H2, T Hc H2 → Dp K (hid (L :: S) H2) v (F d) → N v H2) → te ((wipe σ [j]).set j (some v)) Hc N)
    (h : ∀ L us Hc, T H Hc → H L = none → L ∉ S → Hc L = some (.lst us) → DpAll K (hid (L :: S) Hc) us ((ds.filter q).map F) → Q (.ref L) Hc) : lcB (gName j) tt te [j] σ Q J H := by
  have hd : ∀ {i : Nat} {d : PyData}, ds[i]? = some d → ds.getD i .none = d := fun z => by rw [List.getD_eq_getElem?_getD, z]; rfl
  refine lc_F (K := K) (P := fun i x => ∃ d, ds[i]? = some d ∧ Dp K H0 x d) t hS w wd_Y hn (fun Hc z => (e0.trans (t.kp z).ex).trans hid_ex) (fun i => q (ds.getD i .none)) (fun i => F (ds.getD i .none)) (hg_name hw) (fun L i σ2 Hc hi p2 hL nL t1 hs up N hN => ?_) (fun L i σ2 Hc hi p2 hp hL nL t1 hs up N hN => ?_) fun L us Hc t1 hL nL h1 h2 => ?_
  · obtain ⟨v, ⟨d, h1, h2⟩, rfl⟩ := p2
    exact ht L d v Hc (List.mem_of_getElem? h1) (h2.ex (e0.trans up)) hL nL t1 hs up N fun H2 t2 => by have := hN H2 t2; rw [hd h1] at this; exact this
  · obtain ⟨v, ⟨d, h1, h2⟩, rfl⟩ := p2
    rw [hd h1] at hp
    exact he L d v Hc (List.mem_of_getElem? h1) (h2.ex (e0.trans up)) hp hL nL t1 hs up N fun v2 H2 t2 d2 => hN v2 H2 t2 (by rw [hd h1]; exact d2)
  · rw [getD_range] at h2
    exact h L us Hc t1 hL nL h1 h2
theorem lc_MD {S : List Addr} {T : Hp → Hp → Prop} {j : Nat} (t : Tr S H T) (hS : ∀ b ∈ S, ∃ o, H b = some o) (w : Wd K J ds H0) (e0 : Ex H0 (hid S H)) (hn : ds.length < 100000) (hw : ∀ v : V, wipe ((wipe σ [j]).set j (some v)) [j] = wipe σ [j])
    (F : PyData → PyData)
    (he : ∀ L d v Hc, d ∈ ds → Dp K (hid (L :: S) Hc) v d → H L = none → L ∉ S → T H Hc → (∀ b ∈ L :: S, ∃ o, Hc b = some o) → Ex (hid S H) (hid (L :: S) Hc) → ∀ N : VK, (∀ v H2, T Hc H2 → Dp K (hid (L :: S) H2) v (F d) → N v H2) → te ((wipe σ [j]).set j (some v)) Hc N)
    (h : ∀ L us Hc, T H Hc → H L = none → L ∉ S → Hc L = some (.lst us) → DpAll K (hid (L :: S) Hc) us (ds.map F) → Q (.ref L) Hc) : lcB (gName j) tYes te [j] σ Q J H := by
  refine lc_FD (K := K) t hS w e0 hn hw (fun _ => true) F (fun L d v Hc _ _ _ _ t1 _ _ N hN => rd_yes (hN Hc (t.here t1))) (fun L d v Hc hm hd _ hL nL t1 hs up N hN => he L d v Hc hm hd hL nL t1 hs up N hN) fun L us Hc t1 hL nL h1 h2 => ?_
  rw [List.filter_eq_self.mpr fun _ _ => rfl] at h2
  exact h L us Hc t1 hL nL h1 h2
theorem ex_up1 {H H' : Hp} {q : Addr} (e : Ex H H') (hq : H q = none) : Ex H (hid [q] H') := fun b o z => by
  rw [hid_at (fun m => by rw [List.mem_singleton.mp m, hq] at z; cases z)]
  exact e b o z
theorem st1 {H : Hp} {q : Addr} {o : HO} (h : H q = some o) : ∀ b ∈ [q], ∃ o, H b = some o := fun b hb => by
  cases List.mem_singleton.mp hb
  exact ⟨o, h⟩
theorem sts_ex {S : List Addr} {H H' : Hp} (h : ∀ b ∈ S, ∃ o, H b = some o) (e : Ex H H') : ∀ b ∈ S, ∃ o, H' b = some o := fun b hb => by
  obtain ⟨o, z⟩ := h b hb
  exact ⟨o, e b o z⟩
theorem ex_nil {H H' : Hp} (e : Ex H H') : Ex H (hid [] H') := by rw [hid_nil]; exact e
def isN : PyData → Bool
  | .none => true
  | _ => false
theorem isN_dp {H : Hp} {v : V} {d : PyData} (h : Dp K H v d) : decide (v = .non) = isN d := by
  cases h <;> rfl
/-- the values of plain data -/
theorem dp_strs {H : Hp} : ∀ {vs : List V} {ss : List Str}, DpAll K H vs (ss.map PyData.str) → vs = ss.map V.str
  | _, [], h => by cases h; rfl
  | _, s :: ss, h => by
    cases h with
    | cons h1 h2 => rw [Dp.str_iff h1, dp_strs h2]; rfl
theorem dp_ints' {H : Hp} : ∀ {vs : List V} {ss : List Int}, DpAll K H vs (ss.map PyData.int) → vs = ss.map V.int
  | _, [], h => by cases h; rfl
  | _, s :: ss, h => by
    cases h with
    | cons h1 h2 => rw [Dp.int_iff h1, dp_ints' h2]; rfl
theorem dp_bls {H : Hp} : ∀ {vs : List V} {ss : List Bool}, DpAll K H vs (ss.map PyData.bool) → vs = ss.map V.bl
  | _, [], h => by cases h; rfl
  | _, s :: ss, h => by
    cases h with
    | cons h1 h2 => rw [Dp.bl_iff h1, dp_bls h2]; rfl
theorem dps_str {H : Hp} (ss : List Str) : DpAll K H (ss.map V.str) (ss.map PyData.str) := DpAll.mapV _ _ _ fun x _ => .str x
theorem dps_int {H : Hp} (ss : List Int) : DpAll K H (ss.map V.int) (ss.map PyData.int) := DpAll.mapV _ _ _ fun x _ => .int x
theorem dps_bl {H : Hp} (ss : List Bool) : DpAll K H (ss.map V.bl) (ss.map PyData.bool) := DpAll.mapV _ _ _ fun x _ => .bl x
end
end
section
variable {X : Cx} (K : PySem.W.Frag) (hK : X.K = K := by rfl)
include hK
theorem kGt {e : Expr} {n : Nat} {t : TGs} (h : PG X e (gTup X.K n t)) : PG X e (gTup K n t) := hK ▸ h
end
section
variable {K : PySem.W.Frag} {σ : L2.St} {H H0 : Hp} {v : V} {Q : L2.St → Hp → Prop} {t : TGs} {ds : List PyData}
/-- a, b = a tuple of data -/
theorem rd_gtD {n : Nat} (e : Ex H0 H) (h : Dp K H0 v (.tuple ds)) (hn : ds.length = n) (q : ∀ xs, DpAll K H0 xs ds → t xs σ H Q) : gTup K n t v σ H Q := by
  obtain ⟨a, vs, rfl, h1, h2⟩ := Dp.tupv h
  exact ⟨a, vs, rfl, Evl.ex_t e h1, by rw [h2.len, hn], q vs h2⟩
theorem dp2 {a b : PyData} {xs : List V} (h : DpAll K H0 xs [a, b]) : ∃ x y, xs = [x, y] ∧ Dp K H0 x a ∧ Dp K H0 y b := by
  cases h with
  | cons h1 h =>
    cases h with
    | cons h2 h =>
      cases h
      exact ⟨_, _, rfl, h1, h2⟩
theorem rd_gN {i : Nat} {tg : TGs} {x : V} {xs : List V} (h : tg xs (σ.set i (some x)) H Q) : gCons (gName i) tg (x :: xs) σ H Q := ⟨_, _, rfl, h⟩
theorem rd_gE (h : Q σ H) : gNil [] σ H Q := ⟨rfl, h⟩
end
/-! ### hiding what data can't reach -/
mutual
def noList : PyData → Bool
  | .list _ => false
  | .tuple ds => noListAll ds
  | _ => true
def noListAll : List PyData → Bool
  | [] => true
  | d :: ds => noList d && noListAll ds
end
section
variable {K : PySem.W.Frag} {S : List Addr} {H : Hp}
theorem sqt_hid (h : ∀ b ∈ S, (∃ C dx fs, H b = some (.ins C dx fs)) ∨ ∃ xs, H b = some (.lst xs)) {a : Addr} {vs : List V} (q : SqT K H a vs) : SqT K (hid S H) a vs := by
  rcases q with (q | ⟨o, q⟩) | q
  · refine .inl (.inl ?_)
    rw [hid_at fun hb => ?_]
    · exact q
    · rcases h a hb with ⟨_, _, _, z⟩ | ⟨_, z⟩ <;> rw [z] at q <;> cases q
  · refine .inl (.inr ⟨o, ?_⟩)
    rw [hid_at fun hb => ?_]
    · exact q
    · rcases h a hb with ⟨_, _, _, z⟩ | ⟨_, z⟩ <;> rw [z] at q <;> cases q
  · exact .inr q
theorem sql_hid (h : ∀ b ∈ S, ∃ C dx fs, H b = some (.ins C dx fs)) {a : Addr} {vs : List V} (q : SqL K H a vs) : SqL K (hid S H) a vs := by
  rcases q with (q | ⟨o, q⟩) | q
  · refine .inl (.inl ?_)
    rw [hid_at fun hb => ?_]
    · exact q
    · obtain ⟨_, _, _, z⟩ := h a hb
      rw [z] at q; cases q
  · refine .inl (.inr ⟨o, ?_⟩)
    rw [hid_at fun hb => ?_]
    · exact q
    · obtain ⟨_, _, _, z⟩ := h a hb
      rw [z] at q; cases q
  · exact .inr q
mutual
theorem Dp.hidI (h : ∀ b ∈ S, ∃ C dx fs, H b = some (.ins C dx fs)) : ∀ (d : PyData) {v : V}, Dp K H v d → Dp K (hid S H) v d
  | .none, _, q => by cases q; exact .non
  | .bool b, _, q => by cases q; exact .bl b
  | .int i, _, q => by cases q; exact .int i
  | .str x, _, q => by cases q; exact .str x
  | .list ds, _, q => by
    cases q with
    | lst hs ha => exact .lst (sql_hid h hs) (DpAll.hidI h ds ha)
  | .tuple ds, _, q => by
    cases q with
    | tup hs ha => exact .tup (sqt_hid (fun b hb => .inl (h b hb)) hs) (DpAll.hidI h ds ha)
  | .dict _, _, q => by cases q
theorem DpAll.hidI (h : ∀ b ∈ S, ∃ C dx fs, H b = some (.ins C dx fs)) : ∀ (ds : List PyData) {vs : List V}, DpAll K H vs ds → DpAll K (hid S H) vs ds
  | [], _, q => by cases q; exact .nil
  | d :: ds, _, q => by
    cases q with
    | cons h1 h2 => exact .cons (Dp.hidI h d h1) (DpAll.hidI h ds h2)
end
mutual
theorem Dp.hidT (h : ∀ b ∈ S, (∃ C dx fs, H b = some (.ins C dx fs)) ∨ ∃ xs, H b = some (.lst xs)) : ∀ (d : PyData) {v : V}, noList d = true → Dp K H v d → Dp K (hid S H) v d
  | .none, _, _, q => by cases q; exact .non
  | .bool b, _, _, q => by cases q; exact .bl b
  | .int i, _, _, q => by cases q; exact .int i
  | .str x, _, _, q => by cases q; exact .str x
  | .list ds, _, n, q => by cases n
  | .tuple ds, _, n, q => by
    cases q with
    | tup hs ha => exact .tup (sqt_hid h hs) (DpAll.hidT h ds n ha)
  | .dict _, _, _, q => by cases q
theorem DpAll.hidT (h : ∀ b ∈ S, (∃ C dx fs, H b = some (.ins C dx fs)) ∨ ∃ xs, H b = some (.lst xs)) : ∀ (ds : List PyData) {vs : List V}, noListAll ds = true → DpAll K H vs ds → DpAll K (hid S H) vs ds
  | [], _, _, q => by cases q; exact .nil
  | d :: ds, _, n, q => by
    obtain ⟨n1, n2⟩ := Bool.and_eq_true_iff.mp n
    cases q with
    | cons h1 h2 => exact .cons (Dp.hidT h d n1 h1) (DpAll.hidT h ds n2 h2)
end
theorem noList_all {ds : List PyData} (h : ∀ d ∈ ds, noList d = true) : noListAll ds = true := by
  induction ds with
  | nil => rfl
  | cons d ds ih =>
    show (noList d && noListAll ds) = true
    rw [h d List.mem_cons_self, ih fun e he => h e (List.mem_cons_of_mem _ he)]
    rfl
/-- a list or a tuple of data -/
def SqD (K : PySem.W.Frag) (H : Hp) (x : V) (ds : List PyData) : Prop := Dp K H x (.list ds) ∨ Dp K H x (.tuple ds)
theorem SqD.ex {H' : Hp} {x : V} {ds : List PyData} (h : SqD K H x ds) (e : Ex H H') : SqD K H' x ds := h.elim (fun z => .inl (z.ex e)) fun z => .inr (z.ex e)
theorem rd_anySq {σ : L2.St} {H0 : Hp} {te : TE} {x : V} {ds : List PyData} {R : It → Hp → Prop} (he : ∀ Q : VK, Q x H → te σ H Q) (e : Ex H0 H) (h : SqD K H0 x ds) (q : ∀ J, Wd K J ds H0 → R J H) : iAny K te σ H R := by
  rcases h with h | h
  · exact rd_anyL' (he _ (rd_itDL e h q))
  · exact rd_anyT' (he _ (rd_itDT e h q))
/-- tuple(x) -/
theorem rd_tupSq {S : List Addr} {H0 : Hp} {x : V} {ds : List PyData} {Q : VK} (hs : ∀ b ∈ S, ∃ o, H b = some o) (e : Ex H0 (hid S H)) (h : SqD K H0 x ds) (q : ∀ a H', Ex H H' → Dp K (hid S H') (.ref a) (.tuple ds) → Q (.ref a) H') : cTupOf K [x] H Q := by
  rcases h with h | h
  · obtain ⟨a, vs, rfl, h1, h2⟩ := Dp.lstv h
    exact rd_tupL (Evl.ex_l (e.trans hid_ex) h1) fun l hl => q l _ (Evl.Ex.new hl) (Dp.newT hl (notin_of hs hl) (h2.ex e))
  · obtain ⟨a, vs, rfl, h1, h2⟩ := Dp.tupv h
    exact rd_tupT (Evl.ex_t (e.trans hid_ex) h1) (q a H (Evl.Ex.refl H) (h.ex e))
/-- list(x) -/
theorem rd_lstSq {S : List Addr} {H0 : Hp} {x : V} {ds : List PyData} {Q : VK} (e : Ex H0 (hid S H)) (h : SqD K H0 x ds) (q : ∀ l vs, H l = none → DpAll K (hid S H) vs ds → Q (.ref l) (upd H l (.lst vs))) : cLstOf K [x] H Q := by
  rcases h with h | h
  · obtain ⟨a, vs, rfl, h1, h2⟩ := Dp.lstv h
    exact rd_lstL (.inl (Evl.ex_l (e.trans hid_ex) h1)) fun l hl => q l vs hl (h2.ex e)
  · obtain ⟨a, vs, rfl, h1, h2⟩ := Dp.tupv h
    exact rd_lstL (.inr (Evl.ex_t (e.trans hid_ex) h1)) fun l hl => q l vs hl (h2.ex e)
end
section
variable {K : PySem.W.Frag} {H : Hp}
theorem rd_lstSq0 {H0 : Hp} {x : V} {ds : List PyData} {Q : VK} (e : Ex H0 H) (h : SqD K H0 x ds) (q : ∀ l vs, H l = none → DpAll K H0 vs ds → Q (.ref l) (upd H l (.lst vs))) : cLstOf K [x] H Q := by
  rcases h with h | h
  · obtain ⟨a, vs, rfl, h1, h2⟩ := Dp.lstv h
    exact rd_lstL (.inl (Evl.ex_l e h1)) fun l hl => q l vs hl h2
  · obtain ⟨a, vs, rfl, h1, h2⟩ := Dp.tupv h
    exact rd_lstL (.inr (Evl.ex_t e h1)) fun l hl => q l vs hl h2
end
theorem rd_par3 {i j l : Nat} {ta : TA} {D : Ends} {σ : L2.St} {H : Hp} (h : ta σ H fun vs H1 => ∃ u v w, vs = [u, v, w] ∧ D.nx (((σ.set i (some u)).set j (some v)).set l (some w)) H1) : tPar3 i j l ta D σ H := h
theorem rd_v3 {u v w : V} {P : V → V → V → Prop} (h : P u v w) : ∃ u' v' w', [u, v, w] = [u', v', w'] ∧ P u' v' w' := ⟨u, v, w, rfl, h⟩
end AT

set_option Elab.async false
set_option linter.all false
set_option maxRecDepth 100000
set_option maxHeartbeats 4000000
/-! own words, fifth part: dicts whose keys are tuples, lists unpacked, while -/
namespace AT
open PySem PySem.Spec PyProof.Rows L2
/-- {k: v}, the key a tuple -/
def tDisp1T (tk tv : TE) : TE := fun σ H Q => ∀ p, H p = none → tk σ (upd H p (.dT [])) fun x H1 => tv σ H1 fun y H2 => H2 p = some (.dT []) ∧ ∃ (b : Addr) (k : List Key), x = .ref b ∧ H2 b = some (.tup (k.map kV)) ∧ Q (.ref p) (upd H2 p (.dT [(k, y)]))
section
variable {X : Cx} {pos : Pos} {k v : Expr} {tk tv : TE}
theorem pe_disp1T (hu : X.A.units + 1 < cLine) (hk : PE X k tk) (hv : PE X v tv) : PE X (.Dict [some k] [v] pos) (tDisp1T tk tv) := by
  refine ⟨fun pins s σ H Q I q => ?_⟩
  have hn := I.hok.fresh (Nat.le_refl s.heap.objs.size)
  have I1 := I.laid (a := s.heap.objs.size) (o := .dT []) (t' := s.toks) (fun _ _ z => Heap.get?_push_of_some _ z) (Nat.le_refl _) (dt_empty s.heap I.big)
  have hz := zip_pairTrees [some k] [v] X.env pos rfl rfl
  have hl : (pairTrees [some k] [v] X.env pos).length = 1 := pairTrees_length [some k] [v] X.env pos rfl rfl
  have hne : pairTrees [some k] [v] X.env pos ≠ [] := fun z => by rw [z] at hl; cases hl
  have room : (tupleKind (mixKind X.prog X.w)).room X.A := Nat.lt_of_succ_lt hu
  rw [arm_eval_Dict, hz, dictDisplay_pairs _ hne (by rw [hl]; decide)]
  refine wpAny_bind (wpAny_standAt (wpAny_bind ?_))
  refine wpAny_subDictH (knd := tupleKind (mixKind X.prog X.w)) room (by rw [hl]; decide) ?_
  refine pairTrees_cons_walk (thn (hk.run pins _ σ _ _ I1 (q _ hn)) fun u s1 ⟨x, H1, I1', rx, q1⟩ => thn (hv.run pins s1 σ H1 _ I1' q1) fun w2 s2 ⟨y, H2, I2, ry, q2⟩ => pairTrees_nil_walk ?_)
  obtain ⟨e, b, ks, rfl, eb, q3⟩ := q2
  cases (show u = Value.ref b from rx)
  obtain ⟨z, hd, xs0, r0, dd⟩ := dt_of I2.hok e
  cases r0
  refine ⟨[(ks, b, w2)], ⟨rfl, rfl, key_of I2.hok eb, True.intro⟩, dd, fun h' tk dd' hs => wpAny_pure ⟨.ref s.heap.objs.size, _, ?_, rfl, q3⟩⟩
  have e1 : storedAllH [] [(ks, b, w2)] = [(ks, b, w2)] := rfl
  rw [e1] at dd'
  obtain ⟨o, es, ep, ho, h2, h3, h4, h5, h6⟩ := dd'
  refine d_write I2 (by rw [e]; exact True.intro) hs ⟨o, ho⟩ ⟨by show 1 ≤ sizeLine; decide, hd, [(ks, b, w2)], .cons ⟨rfl, ?_, ry⟩ .nil, o, es, ep, ho, h2, h3, h4, h6⟩
  show upd H2 s.heap.objs.size _ b = _
  rw [upd_ne (ne_of eb e (fun z => nomatch z))]
  exact eb
end
section
variable {X : Cx} (K : PySem.W.Frag) (hK : X.K = K := by rfl)
include hK
theorem kGl {e : Expr} {n : Nat} {t : TGs} (h : PG X e (gLst X.K n t)) : PG X e (gLst K n t) := hK ▸ h
end
section
variable {K : PySem.W.Frag} {σ : L2.St} {H : Hp} {Q : VK} {D : Ends} {td ty tv tk : TE} {tt : TT} {tb : TS}
theorem rd_dget (h : td σ H fun x H1 => ty σ H1 fun y H2 => ∃ a v, x = .ref a ∧ DGet H2 a y (some v) ∧ Q v H2) : tDGet td ty σ H Q := h
theorem rd_din (h : ty σ H fun y H1 => td σ H1 fun x H2 => ∃ a o, x = .ref a ∧ DGet H2 a y o ∧ Q (.bl o.isSome) H2) : tDIn ty td σ H Q := h
theorem rd_dnin (h : ty σ H fun y H1 => td σ H1 fun x H2 => ∃ a o, x = .ref a ∧ DGet H2 a y o ∧ Q (.bl (!o.isSome)) H2) : tDNotIn ty td σ H Q := h
theorem rd_dput (h : tv σ H fun v H1 => td σ H1 fun x H2 => ty σ H2 fun y H3 => ∃ a H4, x = .ref a ∧ DPut H3 a y v H4 ∧ D.nx σ H4) : sDPut td ty tv D σ H := h
theorem rd_disp1T (h : ∀ p, H p = none → tk σ (upd H p (.dT [])) fun x H1 => tv σ H1 fun y H2 => H2 p = some (.dT []) ∧ ∃ (b : Addr) (k : List Key), x = .ref b ∧ H2 b = some (.tup (k.map kV)) ∧ Q (.ref p) (upd H2 p (.dT [(k, y)]))) : tDisp1T tk tv σ H Q := h
theorem rd_dnK (h : ∀ p, H p = none → Q (.ref p) (upd H p (.dK []))) : tDNewK σ H Q := h
theorem rd_dnT (h : ∀ p, H p = none → Q (.ref p) (upd H p (.dT []))) : tDNewT σ H Q := h
theorem rd_wh (W : Nat → L2.St → Hp → Prop) (m0 : Nat) (h0 : W m0 σ H) (hs : ∀ m σ' H', W m σ' H' → tt σ' H' fun b H1 => if b = true then ∃ N : L2.St → Hp → Prop, (∀ σ2 H2, N σ2 H2 → ∃ m', m' < m ∧ W m' σ2 H2) ∧ tb { D with nx := N, ct := N, bk := D.nx } σ' H1 else D.nx σ' H1) : tWhile tt tb D σ H := ⟨W, ⟨m0, h0⟩, hs⟩
end
end AT

set_option Elab.async false
set_option linter.all false
set_option maxRecDepth 100000
set_option maxHeartbeats 4000000
/-! own words, sixth part: enumerate over tuples and texts -/
namespace AT
open PySem PySem.Spec PyProof.Rows L2
open AutoSeq1 (wpAny_loadPart')
section
theorem tupIn {h : Heap} {a : Addr} {its : Array Value} (p : IsTup h a its) : h.IsTuple a its := by
  obtain ⟨o, e1, e2, n, e3⟩ := p
  exact ⟨o, e1, e2, n, e3⟩
/-- a tuple, item by item -/
theorem draws_tup {P : Program} {w : World} {B : Around} (calm : B.handled = none) (z q : Addr) (hq : q ≠ z) (vs : Array Value) :
    Draws P w B z [z, q] vs.size (fun k v => vs[k]? = some v) (fun k g => g.IsTupleIter z q k ∧ g.IsTuple q vs) := by
  refine ⟨fun _ _ st => ?_, fun _ _ _ st hk => ?_, fun k s Q E hk st hQ => ?_, fun s Q E st hE => ?_⟩
  · obtain ⟨⟨o, e, _⟩, _⟩ := st
    exact ⟨o, e⟩
  · exact ⟨Heap.IsTupleIter.at st.1 fun o e => hk z List.mem_cons_self o e, Heap.IsTuple.at st.2 fun o e => hk q (List.mem_cons_of_mem _ List.mem_cons_self) o e⟩
  · have hx : vs[k]? = some vs[k] := by simp [hk]
    exact RZ.nextOf_tuple_item st.1 st.2 hx fun g g1 g2 => hQ _ g s.toks hx ⟨g1, Heap.IsTuple.extBut st.2 g2.extBut hq⟩ g2
  · exact RZ.nextOf_tuple_end calm st.1 st.2 (by simp) hE
theorem enumNewT (q : Addr) (vs : Array Value) (k : Nat) (od : Option Addr) (sl : Array (Option Value)) :
    Meets (Builtin.«enumerate.__new__» ⟨[.type "enumerate", .ref q], []⟩) (fun _ R s => s.heap.get? q = some ⟨.type "tuple", od, .seq vs k, sl⟩ ∧
      R (.ok (.ret (.ref (s.heap.push { cls := .type "tuple_iterator", data := .fields #[.ref q, .int 0 0] }).objs.size)))
        ⟨(s.heap.push { cls := .type "tuple_iterator", data := .fields #[.ref q, .int 0 0] }).push { cls := .type "enumerate", data := .fields #[.none, .bool false, .ref s.heap.objs.size, rawInt 0, .none, .none] }, s.gens, s.drawn, s.toks, s.os⟩) :=
  .of_wp fun prog w A R s h => by
    obtain ⟨hp, g, d, tk, os⟩ := s
    obtain ⟨hl, h⟩ := h
    have sub := sub_enumerate
    have tup : Heap.IsTuple (Shared.heap ⟨hp, g, d, tk, os⟩) q vs := ⟨_, hl, rfl, k, rfl⟩
    wp_walk using wpAny_loadPart' hl
    refine wpAny_stack_any fun _ => wpAny_pure ?_
    split
    · rename_i c _ _ _ _ _
      cases (c == Value.type "enumerate") <;>
        (wp_walk using wpAny_loadPart' hl, wpAny_pyIter_tuple tup
         exact ⟨_, rfl, h⟩)
    · wp_walk using wpAny_loadPart' hl, wpAny_pyIter_tuple tup
      exact ⟨_, rfl, h⟩
theorem callEnumT {P : Program} {w : World} {B : Around} {E : Value → Shared → Prop} {s : Shared} {q : Addr} {vs : Array Value} {Q : Value → Shared → Prop} (tup : s.heap.IsTuple q vs)
    (hQ : ∀ g, IsEnum g (s.heap.objs.size + 1) s.heap.objs.size 0 .none → g.IsTupleIter s.heap.objs.size q 0 → (∀ b o, s.heap.get? b = some o → g.get? b = some o) → Q (.ref (s.heap.objs.size + 1)) { s with heap := g }) :
    wpAny (model P w) B (call (.type "enumerate") [.ref q]) Q E s := by
  obtain ⟨⟨c, od, dt, sl⟩, hl, hc, k, hd⟩ := tup
  obtain rfl : c = .type "tuple" := hc
  obtain rfl : dt = .seq vs k := hd
  refine callType_new F.called_enumerate (by decide) (F.typeCall_enumerate_1 _) (F.newCall_enumerate_1 _) (fun x => F.args_object_init_2 x _) F.entry_enumerate_new (enumNewT q vs k od sl) ⟨hl, ?_⟩
  have size1 : (s.heap.push { cls := .type "tuple_iterator", data := .fields #[.ref q, .int 0 0] }).objs.size = s.heap.objs.size + 1 := Heap.size_push ..
  show _ ∧ _
  rw [size1]
  have made : IsEnum ((s.heap.push { cls := .type "tuple_iterator", data := .fields #[.ref q, .int 0 0] }).push { cls := .type "enumerate", data := .fields #[.none, .bool false, .ref s.heap.objs.size, rawInt 0, .none, .none] }) (s.heap.objs.size + 1) s.heap.objs.size 0 .none := by
    have e := Heap.get?_push_size (s.heap.push { cls := .type "tuple_iterator", data := .fields #[.ref q, .int 0 0] }) (o := { cls := .type "enumerate", data := .fields #[.none, .bool false, .ref s.heap.objs.size, rawInt 0, .none, .none] }) rfl
    rw [size1] at e
    exact e
  exact ⟨⟨_, made, rfl⟩, hQ _ made ⟨_, Heap.get?_push_of_some _ (Heap.get?_push_size _ rfl), rfl, rfl⟩ fun b o z => Heap.get?_push_of_some _ (Heap.get?_push_of_some _ z)⟩
/-- the tuple at q, each item in a new pair -/
def ItEt (K : PySem.W.Frag) (q : Addr) : It where
  go := fun i H => ∃ (xs : List V) (x : V), SqT K H q xs ∧ xs[i]? = some x
  yld := fun i H v H' => ∃ T x, v = .ref T ∧ H T = none ∧ H' = upd H T (.tup [.int (i : Nat), x]) ∧ ∀ xs, SqT K H q xs → xs[i]? = some x
  stop := fun i H => ∃ xs : List V, SqT K H q xs ∧ xs.length = i
theorem turn_enumT {P : Program} {w : World} {K : PySem.W.Frag} {tgs : List Expr} {kk : Nat} {tp : Pos} (q e z : Addr) :
    Turn P w K (.Tuple tgs kk tp) (ItEt K q) [e, z] e (fun i g => (∃ old, IsEnum g e z ((i : Nat) : Int) old) ∧ g.IsTupleIter z q i ∧ e ≠ z ∧ q ≠ z ∧ q ≠ e) := by
  refine ⟨List.mem_cons_self, fun i g st b hb => ?_, fun i g g' st k => ?_, ?_, ?_, fun B i s Q E st h => ?_⟩
  · obtain ⟨⟨old, he⟩, ⟨o, ho, hc, hd⟩, _⟩ := st
    rcases List.mem_cons.mp hb with y | y
    · rw [y]; exact ⟨_, he, fun v t => nomatch t⟩
    · rw [List.mem_singleton.mp y]; exact ⟨o, ho, fun v t => by rw [hd] at t; cases t⟩
  · obtain ⟨⟨old, he⟩, hz, ne⟩ := st
    exact ⟨⟨old, k e List.mem_cons_self _ he⟩, Heap.IsTupleIter.at hz fun o t => k z (List.mem_cons_of_mem _ List.mem_cons_self) o t, ne⟩
  · intro X hP hw hK hc i pins s σ H E I hf st hg
    subst hP hw hK
    obtain ⟨⟨old, he⟩, hz, ne, n1, n2⟩ := st
    obtain ⟨xs, x, hq, hx⟩ := hg
    obtain ⟨its, rv, p, len⟩ := I.tuple hq
    obtain ⟨u, hu, ru⟩ := rv.get hx
    have lt : i < its.toArray.size := by
      have := (List.getElem?_eq_some_iff.mp hu).1
      simpa using this
    have heL : e < s.heap.objs.size := Heap.lt_size he
    have hzL : z < s.heap.objs.size := by obtain ⟨_, t, _⟩ := hz; exact Heap.lt_size t
    refine wpAny_pyNext_enum_itemD (draws_tup (P := X.prog) (w := X.w) (B := X.A.in1) (show X.A.in1.handled = none from I.ok.hd hc) z q n1 its.toArray) he ⟨hz, tupIn p⟩ lt ne (by simp [ne, Ne.symm n2]) fun u' g tk hu' ho st' hT hsz hk => ?_
    have eu : u' = u := by
      have a : its.toArray[i]? = some u := by simpa using hu
      rw [a] at hu'
      exact (Option.some.inj hu').symm
    subst eu
    refine ⟨_, rfl, wpAny_letOwnedTupleGo_enum (s := { s with heap := g, toks := tk + 1 }) ho fun g2 he' sb => ?_⟩
    have hT2 : g2.get? s.heap.objs.size = some { cls := .type "tuple", data := .seq #[.int i tk, u'] } := (sb.2 _ (Nat.ne_of_gt heL)).trans hT
    have fresh : ObjOk X.prog X.w (upd H s.heap.objs.size (.tup [.int (i : Nat), x])) g2 s.heap.objs.size (.tup [.int (i : Nat), x]) := ⟨by show 2 ≤ sizeLine; decide, [.int i tk, u'], .cons ⟨_, rfl⟩ (.cons ru .nil), ⟨_, hT2, rfl, _, rfl⟩⟩
    have I1 : Inv X pins σ (upd H s.heap.objs.size (.tup [.int (i : Nat), x])) { s with heap := g2, toks := tk + 1 } :=
      I.turnedNew (ch := [e, z]) (fun b ob hb t => (sb.2 b (fun y => hb (by simp [y]))).trans (hk b ob (fun y => hb (by simp [y])) (fun y => hb (by simp [y])) t)) hf (Nat.le_refl _) fresh
    refine ⟨.ref s.heap.objs.size, _, I1, rfl, ⟨_, x, rfl, I.hok.fresh (Nat.le_refl _), rfl, fun ys hy => by rw [I.tuple_inj hy hq]; exact hx⟩, ⟨⟨u', ?_⟩, Heap.IsTupleIter.at st'.1 fun o t => (sb.2 z (Ne.symm ne)).trans t, ne, n1, n2⟩, fun b hb => ?_⟩
    · have e1 : ((i + 1 : Nat) : Int) = (i : Int) + 1 := by omega
      rw [e1]
      exact he'
    · have hb' : b < s.heap.objs.size := by
        rcases List.mem_cons.mp hb with y | y
        · rw [y]; exact heL
        · rw [List.mem_singleton.mp y]; exact hzL
      rw [upd_ne (Nat.ne_of_lt hb')]
      exact (hf b hb).1
  · intro X hP hw hK hc i pins s σ H E I hf st hg
    subst hP hw hK
    obtain ⟨⟨old, he⟩, hz, ne, n1, n2⟩ := st
    obtain ⟨xs, hq, hx⟩ := hg
    obtain ⟨its, rv, p, len⟩ := I.tuple hq
    obtain ⟨f0, f1, f2, f3, f4, f5⟩ := hf z (List.mem_cons_of_mem _ List.mem_cons_self)
    have hl : i = its.toArray.size := by
      have := rv.length
      simp
      omega
    have he0 : IsEnum s.heap e z ((its.toArray.size : Nat) : Int) old := hl ▸ he
    have hz0 : s.heap.IsTupleIter z q its.toArray.size := hl ▸ hz
    refine wpAny_pyNext_enum_endD (draws_tup (P := X.prog) (w := X.w) (B := X.A.in1) (show X.A.in1.handled = none from I.ok.hd hc) z q n1 its.toArray) he0 ⟨hz0, tupIn p⟩ fun g eb => ⟨rfl, I.turned (t' := s.toks) (fun b o hb t => eb b o hb t) f0 f1 f3 f4 f5⟩
  · obtain ⟨⟨_, he⟩, _⟩ := st
    exact wpAny_pyIter_enum he h
def iEnumT (K : PySem.W.Frag) (ta : TA) : TI := fun σ H R => ta σ H fun vs H1 => ∃ q xs, vs = [.ref q] ∧ SqT K H1 q xs ∧ R (ItEt K q) H1
theorem pi_enumT {X : Cx} {e : Expr} {ta : TA} {p pos tp : Pos} {tgs : List Expr} {kk : Nat} (hg : Gl X "enumerate") (hm : X.mg "enumerate" = none) (ha : PA X [e] ta) (hs : starEach [e] X.env = [(false, eval e X.env)] := by rfl) :
    PI X (.Tuple tgs kk tp) (.Call (.Name "enumerate" p) [e] [] pos) (iEnumT X.K ta) := by
  refine ⟨fun pins s σ H R I h => Call_ (ld_blt I hg hm boot_enumerate (PyProof.Rows.callWith_type1 (thn (ha.run pos pins s σ H _ I h) fun us s1 ⟨vs, H1, I1, r1, q1⟩ => ?_) hs rfl))⟩
  obtain ⟨a, xs, ex, hq, q⟩ := q1
  subst ex
  obtain ⟨u, rfl, ru⟩ := vals1 r1
  cases (show u = Value.ref a from ru)
  obtain ⟨its, rv, p', hz⟩ := I1.tuple hq
  have old : a < s1.heap.objs.size := by obtain ⟨o, e1, _⟩ := p'; exact Heap.lt_size e1
  refine callEnumT (tupIn p') fun g he hit hk => wpAny_pyIter_enum he ?_
  have I2 : Inv X pins σ H1 { s1 with heap := g } := I1.kept (t' := s1.toks) hk
  refine ⟨s1.heap.objs.size + 1, [s1.heap.objs.size + 1, s1.heap.objs.size], _, _, H1, rfl, I2, turn_enumT a (s1.heap.objs.size + 1) s1.heap.objs.size, ⟨⟨.none, he⟩, hit, Nat.succ_ne_self _, Nat.ne_of_lt old, Nat.ne_of_lt (Nat.lt_succ_of_lt old)⟩, fun b hb => ?_, q⟩
  have hle : s1.heap.objs.size ≤ b := by
    rcases List.mem_cons.mp hb with y | y
    · rw [y]; exact Nat.le_add_right _ _
    · rw [List.mem_singleton.mp y]; exact Nat.le_refl _
  exact I1.fpOk hle (I1.hok.fresh hle)
theorem walk_enumT {K : PySem.W.Frag} {q : Addr} {xs : List V} : Walk (ItEt K q) xs.length (fun H => SqT K H q xs) (YPair (fun i => some (.int (i : Nat))) (fun i => xs[i]?)) := by
  refine ⟨fun i _ hi h => ⟨xs, xs[i], h, by simp [hi]⟩, fun _ h => ⟨xs, h, rfl⟩, fun i H v H' _ h y => ?_⟩
  obtain ⟨T, x, h1, h2, h3, h4⟩ := y
  exact ⟨T, .int (i : Nat), x, h1, h2, h3, rfl, h4 xs h⟩
/-- enumerate of a list or a tuple -/
def iEnumA (K : PySem.W.Frag) (ta : TA) : TI := fun σ H R => iEnum K ta σ H R ∨ iEnumT K ta σ H R
theorem pi_enumA {X : Cx} {e : Expr} {ta : TA} {p pos tp : Pos} {tgs : List Expr} {kk : Nat} (hg : Gl X "enumerate") (hm : X.mg "enumerate" = none) (ha : PA X [e] ta) (hs : starEach [e] X.env = [(false, eval e X.env)] := by rfl) :
    PI X (.Tuple tgs kk tp) (.Call (.Name "enumerate" p) [e] [] pos) (iEnumA X.K ta) := PI.or (pi_enum hg hm ha hs) (pi_enumT hg hm ha hs)
end
section
variable {X : Cx} (K : PySem.W.Frag) (hK : X.K = K := by rfl)
include hK
theorem kEn {tg e : Expr} {ta : TA} (h : PI X tg e (iEnumA X.K ta)) : PI X tg e (iEnumA K ta) := hK ▸ h
end
end AT

set_option Elab.async false
set_option linter.all false
set_option maxRecDepth 100000
set_option maxHeartbeats 8000000
/-! own words, seventh part: a name that is set to a dict comprehension on its own line -/
namespace AT
open PySem L2 PySem.Spec PyProof.Rows
/-- whatever the block of the comprehension is -/
abbrev InBlk (X : Cx) (sc : Scope) (R : Cx → Prop) : Prop := ∀ s H C cl fp, R (X.blk s H sc (compEnvC sc cl C X.env) fp)
/-- the comprehension, with one for -/
abbrev DC1 (a b t e : Expr) (cs : List Expr) (sc : Scope) (o : Pos) : Expr := .DictComp a b [⟨t, e, cs, 0⟩] sc o
theorem ps_setDc {X : Cx} {i : Nat} {n : Str} {np o so : Pos} {a b t e : Expr} {cs : List Expr} {sc : Scope} {own : List (Str × Nat)} {wi : TI} {g : TG} {tt : TT} {ta tb : TE}
    (calm : X.calm = true) (nd : X.N.Nodup) (at' : X.N[i]? = some n) (loc : X.env.scope.names.lookup n = some .local) (sw : swapsWith (DC1 a b t e cs sc o) (some (.Name n np)) so.line X.env = pure true)
    (pi : PI X t e wi) (bk : BlkOk X.N X.env.scope sc own) (pg : InBlk X sc fun Y => PG Y t g) (pt : InBlk X sc fun Y => PTs Y cs tt) (pa : InBlk X sc fun Y => PE Y a ta) (pb : InBlk X sc fun Y => PE Y b tb)
    (fo : ∀ x, foldedSetIterable e X.env x = pure x := by intro _; rfl) : PS X (.Assign [.Name n np] (DC1 a b t e cs sc o) so) (tAsg (tDc wi g tt ta tb (own.map (·.2))) (gName i)) :=
  ⟨fun P s σ H D J w => by
    rw [exec_Assign_Name_used n np _ so sw]
    apply wpAny_bind; apply wpAny_standAt; apply wpAny_bind
    refine wpAny_bind (thn ?core fun _ s2 h2 => wpAny_pure (wpAny_pure h2))
    refine dc_core (Qf := fun _ s2 => SP X P D .next s2) (Q := fun x H1 => gName i x σ H1 D.nx) calm nd J pi bk pg pt pa pb fo w fun L C s2 m H2 J2 h2 ns fp => ?_
    refine wpAny_assign_Name (store_ok2 (v := V.ref L) J2 nd at' (.inl loc) rfl (fun s3 J3 ⟨z, but, or⟩ => ⟨m, ns.sameBut but (or.elim (fun y => y ▸ fp.2.1) fun y q => fp.2.2.2.2.1 n z y q.symm), fun h4 but4 => ?_⟩) (.inr loc))
    exact ⟨_, H2, J3.turned (t' := s3.toks) (fun c u hc y => (but4.2 c hc).trans y) fp.1 fp.2.1 fp.2.2.2.1 fp.2.2.2.2.1 fp.2.2.2.2.2, h2⟩⟩
theorem sw_trueD {a b : Expr} {gs : List Comprehension} {sc : Scope} {o np : Pos} {n : Str} {l : Nat} {env : Env} (fn : env.scope.kind = .function) (loc : env.scope.names.lookup n = some .local) (ln : (np.line == o.line) = true)
    (no : (sc.names.any fun (m, k) => m == n && (k == .local || k == .cell)) = false) : swapsWith (.DictComp a b gs sc o) (some (.Name n np)) l env = pure true := by
  have k1 : env.kindOf n = some .local := loc
  have k2 : env.blockKind = .function := by simp only [Env.blockKind, fn]; decide
  simp only [swapsWith, k1, k2, no, Expr.pos, ln]
  rfl
end AT

set_option Elab.async false
set_option linter.all false
set_option maxRecDepth 100000
set_option maxHeartbeats 4000000
/-! own words, eighth part: defs and lambdas with captured names as values, called by whoever holds them -/
namespace AT
open PySem PySem.Spec PyProof.Rows L2 LamX NdefX
/-! ### cells that stand still -/
def frC (c : Addr) (o : Obj) : HO := .frz o (.ext fun h => h.get? c = some o)
theorem frC_ok {P : Program} {w : World} {H : Hp} {h : Heap} {c : Addr} {o : Obj} (e : h.get? c = some o) : ObjOk P w H h c (frC c o) :=
  ⟨e, e, ⟨o, e⟩, fun _ _ q k => k o q⟩
def fz (as : List Addr) (O : Addr → Obj) (H : Hp) : Hp := fun b => if b ∈ as then some (frC b (O b)) else H b
def rz (as : List Addr) (H H' : Hp) : Hp := fun b => if b ∈ as then H b else H' b
section
variable {as : List Addr} {O : Addr → Obj} {H H' : Hp} {b : Addr} {P : Program} {w : World} {h h' : Heap} {fs : List Addr}
theorem fz_in (hb : b ∈ as) : fz as O H b = some (frC b (O b)) := if_pos hb
theorem fz_at (hb : b ∉ as) : fz as O H b = H b := if_neg hb
theorem rz_in (hb : b ∈ as) : rz as H H' b = H b := if_pos hb
theorem rz_at (hb : b ∉ as) : rz as H H' b = H' b := if_neg hb
theorem fz_ex (W : ∀ c ∈ as, H c = none) : Ex H (fz as O H) := fun b o e => by
  rw [fz_at fun z => by rw [W b z] at e; cases e]
  exact e
theorem fz_hid (W : ∀ c ∈ as, H c = none) : hid as (fz as O H) = H := by
  funext b
  by_cases hb : b ∈ as
  · rw [hid_in hb, W b hb]
  · rw [hid_at hb, fz_at hb]
theorem rz_ex (e : Ex (hid as H) H') : Ex H (rz as H H') := fun b o q => by
  by_cases hb : b ∈ as
  · rw [rz_in hb]; exact q
  · rw [rz_at hb]; exact e b o (by rw [hid_at hb]; exact q)
theorem hok_fz (ok : HOk P w H h) (W : ∀ c ∈ as, h.get? c = some (O c) ∧ H c = none) : HOk P w (fz as O H) h := fun a o e => by
  have nin : ∀ {b u}, H b = some u → b ∉ as := fun {b u} q z => by rw [(W b z).2] at q; cases q
  by_cases ha : a ∈ as
  · rw [fz_in ha] at e
    cases e
    exact frC_ok (W a ha).1
  · rw [fz_at ha] at e
    exact (ok a o e).stay (fun _ _ _ z => z) (fun b q => by rw [fz_at (nin q)]; exact q) fun b xs q => by rw [fz_at (nin q)]; exact q
theorem hok_hid (ok : HOk P w H h) (W : ∀ c ∈ as, ∃ o u, H c = some (.frz o u)) : HOk P w (hid as H) h := fun a o e => by
  have nin : ∀ {b u}, H b = some u → (∀ o v, u ≠ .frz o v) → b ∉ as := fun {b u} q n z => by
    obtain ⟨o, v, e⟩ := W b z
    rw [q] at e
    exact n o v (Option.some.inj e)
  refine (ok a o (hid_some e).2).stay (fun _ _ _ z => z) (fun b q => ?_) fun b xs q => ?_
  · rw [hid_at (nin q fun o v z => by cases z)]; exact q
  · rw [hid_at (nin q fun o v z => by cases z)]; exact q
/-- behind a call that was told of the frame's own cells -/
theorem un_hid (W : ∀ c ∈ as, h.get? c = some (O c) ∧ H c = none) (u : Un fs [] (fz as O H) H' h h') (ok : HOk P w H' h') : Un fs [] H (hid as H') h h' := by
  have same : ∀ c, c ∈ as → h'.get? c = some (O c) := fun c hc => (ok c _ (u.frzs c _ _ (fz_in hc))).1
  have nin : ∀ {b v}, H b = some v → b ∉ as := fun {b v} q z => by rw [(W b z).2] at q; cases q
  have here : ∀ {b o}, h.get? b = some o → b ∈ as → h'.get? b = some o := fun {b o} e hb => by
    have q := (W b hb).1
    rw [e] at q
    rw [same b hb, Option.some.inj q]
  refine ⟨fun b o e n nf nx => ?_, fun b o e n nf nx => ?_, fun b o e n nx => ?_, u.there, fun b xs q => ?_, fun b o v q => ?_, fun b ps q => ?_⟩
  · by_cases hb : b ∈ as
    · exact here e hb
    · exact u.keep b o e (by rw [fz_at hb]; exact n) nf nx
  · by_cases hb : b ∈ as
    · exact ⟨o.slots, here e hb⟩
    · exact u.slot b o e (by rw [fz_at hb]; exact n) nf nx
  · by_cases hb : b ∈ as
    · exact hid_in hb
    · rw [hid_at hb]; exact u.free b o e (by rw [fz_at hb]; exact n) nx
  · rw [hid_at (nin q)]; exact u.tups b xs (by rw [fz_at (nin q)]; exact q)
  · rw [hid_at (nin q)]; exact u.frzs b o v (by rw [fz_at (nin q)]; exact q)
  · obtain ⟨m, z⟩ := u.tbls b ps (by rw [fz_at (nin q)]; exact q)
    exact ⟨m, by rw [hid_at (nin q)]; exact z⟩
/-- behind the call of a function whose cells stood still -/
theorem un_rz (W : ∀ c ∈ as, ∃ o, H c = some (frC c o) ∧ h.get? c = some o ∧ c ∉ fs) (u : Un fs [] (hid as H) H' h h') : Un fs [] H (rz as H H') h h' := by
  have nin : ∀ {b : Addr}, H b = none → b ∉ as := fun {b} q z => by
    obtain ⟨o, e, _⟩ := W b z
    rw [q] at e; cases e
  refine ⟨fun b o e n nf nx => ?_, fun b o e n nf nx => ?_, fun b o e n nx => ?_, u.there, fun b xs q => ?_, fun b o v q => ?_, fun b ps q => ?_⟩
  · exact u.keep b o e (by rw [hid_at (nin n)]; exact n) nf nx
  · exact u.slot b o e (by rw [hid_at (nin n)]; exact n) nf nx
  · rw [rz_at (nin n)]; exact u.free b o e (by rw [hid_at (nin n)]; exact n) nx
  all_goals by_cases hb : b ∈ as
  · rw [rz_in hb]; exact q
  · rw [rz_at hb]; exact u.tups b xs (by rw [hid_at hb]; exact q)
  · rw [rz_in hb]; exact q
  · rw [rz_at hb]; exact u.frzs b o v (by rw [hid_at hb]; exact q)
  · rw [rz_in hb]; exact ⟨#[], by rw [q]; simp⟩
  · rw [rz_at hb]; exact u.tbls b ps (by rw [hid_at hb]; exact q)
theorem hok_rz (W : ∀ c ∈ as, ∃ o, H c = some (frC c o) ∧ h.get? c = some o ∧ c ∉ fs) (u : Un fs [] (hid as H) H' h h') (ok : HOk P w H' h') : HOk P w (rz as H H') h' := fun a o e => by
  have gone : ∀ c, c ∈ as → H' c = none := fun c hc => by
    obtain ⟨o, _, e2, _⟩ := W c hc
    exact u.free c o e2 (hid_in hc) (by simp)
  have nin : ∀ {b v}, H' b = some v → b ∉ as := fun {b v} q z => by rw [gone b z] at q; cases q
  by_cases ha : a ∈ as
  · obtain ⟨o', e1, e2, nf⟩ := W a ha
    rw [rz_in ha, e1] at e
    cases e
    exact frC_ok (u.keep a o' e2 (hid_in ha) nf (by simp))
  · rw [rz_at ha] at e
    exact (ok a o e).stay (fun _ _ _ z => z) (fun b q => by rw [rz_at (nin q)]; exact q) fun b xs q => by rw [rz_at (nin q)]; exact q
end
/-! ### what holds a function -/
/-- what never changes while it is tracked so -/
def isX : HO → Prop
  | .ext _ => True
  | .frz _ _ => True
  | _ => False
def StX (H H' : Hp) : Prop := ∀ b o, H b = some o → isX o → H' b = some o
theorem StX.of_ex {H H' : Hp} (e : Ex H H') : StX H H' := fun b o q _ => e b o q
theorem StX.of_kp {S : List Addr} {H H' : Hp} (k : Kp S H H') (n : ∀ b ∈ S, ∀ o, H b = some o → ¬ isX o) : StX H H' := fun b o q x => k b o (fun z => n b z o q x) q
/-- f is a function that keeps sp where G stands -/
structure FV (P : Program) (w : World) (K : PySem.W.Frag) (mg : Str → Option Value) (base : Heap) (k : Nat) (f : Addr) (G : Hp → Prop) (sp : List V → Hp → VK → Prop) : Prop where
  fn : ∀ (H : Hp) (h : Heap), HOk P w H h → G H → PySem.W.FnAt f h
  st : ∀ H H', StX H H' → G H → G H'
  run : ∀ (A : Around) (outer : List Env) (s : Shared) (H : Hp) (us : List Value) (vs : List V) (Q : VK), Room k A → Env0 P w K mg base A outer s H → G H → Vals vs us → sp vs H Q →
    codeAny (model P w) A (.call (.ref f) ⟨us, []⟩) (CR L2.CX0 outer P w H s Q L2.E0) s
theorem FV.mono {P : Program} {w : World} {K : PySem.W.Frag} {mg : Str → Option Value} {base : Heap} {j k : Nat} {f : Addr} {G : Hp → Prop} {sp : List V → Hp → VK → Prop} (F : FV P w K mg base j f G sp) (h : j ≤ k) : FV P w K mg base k f G sp :=
  ⟨F.fn, F.st, fun A outer s H us vs Q hr => F.run A outer s H us vs Q (hr.mono h)⟩
def tCallQ (P : Program) (w : World) (K : PySem.W.Frag) (mg : Str → Option Value) (base : Heap) (k i : Nat) (t : TA) : TE := fun σ H Q => ∃ (f : Addr) (G : Hp → Prop) (sp : List V → Hp → VK → Prop), σ[i]? = some (some (.ref f)) ∧ FV P w K mg base k f G sp ∧ G H ∧ t σ H fun vs H1 => G H1 ∧ sp vs H1 Q
section
variable {X : Cx} {k i : Nat} {x : Str} {p pos : Pos} {e : Expr} {es : List Expr} {t : TA}
theorem run_fv {pins : List (Addr × Obj)} {σ : L2.St} {H : Hp} {s : Shared} {Q : VK} {f : Addr} {G : Hp → Prop} {sp : List V → Hp → VK → Prop} {us : List Value} {vs : List V} (F : FV X.prog X.w X.K X.mg X.base k f G sp) (hr : Room k X.A) (I : Inv X pins σ H s) (g : G H) (r : Vals vs us) (q : sp vs H Q) :
    wpAny (model X.prog X.w) X.A (call (.ref f) us) (EP X pins σ Q) X.xe s := by
  refine wpAny_call (codeAny_mono (F.run X.A X.stack s H us vs Q hr I.env0 g r q) fun res s' z => ?_)
  match res, z with
  | .error e, z => exact z.elim
  | .ok (.ret u), z => exact I.after z
  | .ok .next, z => exact z.elim
  | .ok .brk, z => exact z.elim
  | .ok .cont, z => exact z.elim
/-- x(..), x a name that holds a function -/
theorem pe_callQ (hr : Room k X.A) (hN : X.N[i]? = some x) (hv : Vis X.env.scope x) (ha : PA X (e :: es) t) (hd : (x == ("__debug__" : Str)) = false := by decide) (hcd : (x == ("__classdict__" : Str)) = false := by decide)
    (he : starEach (e :: es) X.env = (false, eval e X.env) :: starEach es X.env := by rfl) (hpl : (backTo pos (starEach es X.env)).any (·.1) = false := by rfl) : PE X (.Call (.Name x p) (e :: es) [] pos) (tCallQ X.prog X.w X.K X.mg X.base k i t) := by
  constructor
  intro pins s σ H Q I q
  obtain ⟨f, G, sp, hs, F, g, ht⟩ := q
  have hx := (pe_var (pos := p) hN hv hd hcd).run pins s σ H (fun v H1 => v = .ref f ∧ H1 = H) I ⟨_, hs, rfl, rfl⟩
  refine wpAny_Call_Name_kw (thn hx fun u s1 z => ?_)
  obtain ⟨v, H1, I1, rv, ev, eH⟩ := z
  subst ev eH
  obtain rfl : u = .ref f := rv
  refine PySem.W.callWith_F (first := []) (F.fn _ _ I1.hok g) (thn (ha.run pos pins s1 σ _ _ I1 ht) fun us s2 z => ?_) he hpl
  obtain ⟨vs, H2, I2, r, g2, q⟩ := z
  exact ⟨F.fn _ _ I2.hok g2, run_fv F hr I2 g2 r q⟩
end
/-! ### a frame's own cells, told to a callee -/
def ca (X : Cx) : List Addr := X.env.cells.filterMap fun p => X.env.cells.lookup p.1
theorem mem_ca {X : Cx} {c : Addr} : c ∈ ca X ↔ ∃ y, X.env.cells.lookup y = some c := by
  unfold ca
  rw [List.mem_filterMap]
  constructor
  · rintro ⟨p, _, e⟩
    exact ⟨_, e⟩
  · rintro ⟨y, e⟩
    exact ⟨(y, c), PySem.mem_of_lookup e, e⟩
structure OwnC (X : Cx) (σ : L2.St) (O : Addr → Obj) (H : Hp) : Prop where
  inj : ∀ x y c, X.env.cells.lookup x = some c → X.env.cells.lookup y = some c → x = y
  has : ∀ x, (X.env.kindOf x = some .cell ∨ X.env.kindOf x = some .free) → ∃ c, X.env.cells.lookup x = some c
  non : ∀ c ∈ ca X, H c = none
  dat : ∀ c ∈ ca X, ∃ v, (O c).data = .cell v
  val : ∀ (i : Nat) y v c, X.N[i]? = some y → σ[i]? = some (some v) → (X.env.scope.names.lookup y = some .cell ∨ X.env.scope.names.lookup y = some .free) → X.env.cells.lookup y = some c → ∃ u, L2.RelV v u ∧ (O c).data = .cell (some u)
def tCallZ (X : Cx) (sp : Sp) (t : TA) : TE := fun σ H Q => t σ H fun vs H1 => ∀ O, OwnC X σ O H1 → sp vs (fz (ca X) O H1) (fun v H2 => Q v (hid (ca X) H2)) L2.E0
section
variable {X : Cx} {k : Nat} {f : Addr} {fd : FuncData} {ps : List Str} {sp : Sp} {x : Str} {p pos : Pos} {e : Expr} {es : List Expr} {t : TA}
theorem own_of {pins : List (Addr × Obj)} {σ : L2.St} {H : Hp} {s : Shared} (I : Inv X pins σ H s) (hfn : ∀ y, X.fn y = true) :
    ∃ O : Addr → Obj, OwnC X σ O H ∧ (∀ c ∈ ca X, s.heap.get? c = some (O c) ∧ H c = none) ∧ (∀ c ∈ ca X, X.base.get? c = none) ∧ ∀ c ∈ ca X, c ∉ frs X.stack := by
  have at_ : ∀ c ∈ ca X, ∃ o v, s.heap.get? c = some o ∧ o.data = .cell v := fun c hc => by
    obtain ⟨y, e⟩ := mem_ca.mp hc
    obtain ⟨v, o, ho, hd⟩ := I.cell y c e
    exact ⟨o, v, ho, hd⟩
  have up : ∀ c ∈ ca X, X.s_0.heap.objs.size ≤ c := fun c hc => by
    obtain ⟨y, e⟩ := mem_ca.mp hc
    exact I.ok.cab y c (hfn y) e
  have nn : ∀ c ∈ ca X, H c = none := fun c hc => by
    obtain ⟨y, e⟩ := mem_ca.mp hc
    exact I.freeC y c e
  let O : Addr → Obj := fun c => (s.heap.get? c).getD default
  have hO : ∀ {c o}, s.heap.get? c = some o → O c = o := fun {c o} e => by
    show (s.heap.get? c).getD default = o
    rw [e]; rfl
  refine ⟨O, ⟨I.ok.inj, I.ok.has, nn, fun c hc => ?_, fun i y v c e1 e2 hk e3 => ?_⟩, fun c hc => ?_, fun c hc => ?_, fun c hc z => ?_⟩
  · obtain ⟨o, v, ho, hd⟩ := at_ c hc
    exact ⟨v, by rw [hO ho]; exact hd⟩
  · obtain ⟨m, _, hl⟩ := I.loc
    obtain ⟨u, r, l⟩ := hl i y v e1 e2 (hk.elim (fun z => .inr (.inl z)) fun z => .inr (.inr z))
    rcases l with ⟨z, _⟩ | ⟨_, c', e', o, ho, hd⟩
    · have z' : X.env.scope.names.lookup y = some .local := z
      rcases hk with hk | hk <;> rw [hk] at z' <;> cases z'
    · rw [e3] at e'
      cases e'
      exact ⟨u, r, by rw [hO ho]; exact hd⟩
  · obtain ⟨o, v, ho, hd⟩ := at_ c hc
    exact ⟨by rw [hO ho]; exact ho, nn c hc⟩
  · exact Heap.get?_none_of_le (Nat.le_trans I.ok.bsz (up c hc))
  · rcases List.mem_cons.mp (I.stkSub _ z) with e | hb
    · obtain ⟨y, e2⟩ := mem_ca.mp hc
      exact I.cne y c e2 e
    · obtain ⟨_, o, ho, _⟩ := I.ok.funs.mem hb
      exact Nat.lt_irrefl _ (Nat.lt_of_lt_of_le (Heap.lt_size ho) (up c hc))
/-- a call that hands on functions which captured this frame's names -/
theorem pe_callZ (F : FnOk X.prog X.w X.K X.mg X.base L2.CX0 k f fd ps sp) (hr : Room k X.A) (B : Own X.K X.mg x f fd ps) (hfn : ∀ y, X.fn y = true) (ha : PA X (e :: es) t) (hg : Gl X x := by rfl)
    (hdb : (x == ("__debug__" : Str)) = false := by decide) (he : starEach (e :: es) X.env = (false, eval e X.env) :: starEach es X.env := by rfl) (hpl : (backTo pos (starEach es X.env)).any (·.1) = false := by rfl) :
    PE X (.Call (.Name x p) (e :: es) [] pos) (tCallZ X sp t) := by
  constructor
  intro pins s σ H Q I q
  refine wpAny_Call_Name_kw (ld_glob I hg B.g ?_ hdb)
  refine PySem.W.callWith_K (h₀ := X.base) I.ok.mod.kin B.k (thn (ha.run pos pins s σ H _ I q) fun us s2 z => ?_) he hpl
  obtain ⟨vs, H2, I2, r, q2⟩ := z
  refine ⟨I2.kIn, ?_⟩
  obtain ⟨O, ow, W, nb, nf⟩ := own_of I2 hfn
  have q3 := q2 O ow
  have hl : us.length = ps.length := by rw [← r.length]; exact F.len _ _ _ _ q3
  have e0 := I2.env0
  have e1 : Env0 X.prog X.w X.K X.mg X.base X.A X.stack s2 (fz (ca X) O H2) := by
    refine ⟨e0.frames, e0.mod, fun b o z => ⟨(e0.bs b o z).1, ?_⟩, e0.bsz, e0.funs, fun b hb => ?_, hok_fz e0.hok W, e0.bare⟩
    · rw [fz_at fun m => by rw [nb b m] at z; cases z]
      exact (e0.bs b o z).2
    · rw [fz_at fun m => nf b m hb]
      exact e0.frf b hb
  have hb0 := B.b s2 us I2.kIn (by rw [List.append_nil]; exact hl)
  rw [List.append_nil] at hb0
  refine wpAny_call (codeAny_mono (F.run X.A X.stack s2 _ ⟨us, []⟩ us vs _ L2.E0 hr e1 hb0 r q3) fun res s' z => ?_)
  match res, z with
  | .error e, z => exact z.elim
  | .ok (.ret u), z =>
    obtain ⟨v, H', os, bare, un, hok, rv, qv⟩ := z
    refine I2.after ⟨v, hid (ca X) H', os, bare, un_hid W un hok, hok_hid hok fun c hc => ⟨_, _, un.frzs c _ _ (fz_in hc)⟩, rv, qv⟩
  | .ok .next, z => exact z.elim
  | .ok .brk, z => exact z.elim
  | .ok .cont, z => exact z.elim
end
/-! ### what a made function leans on -/
structure Clo (H : Hp) (f : Addr) (o : HO) (c : Addr) (q : Str) (cl : List (Str × Addr)) (fr : List Str) (ws : List (Option V)) : Prop where
  fn : H f = some o
  code : H c = some (CodeO c q)
  cel : ∀ a ∈ cl.map (·.2), ∃ u, H a = some (frC a u) ∧ ∃ v, u.data = .cell v
  inj : ∀ x y a, cl.lookup x = some a → cl.lookup y = some a → x = y
  len : ws.length = fr.length
  has : ∀ (i : Nat) (y : Str), fr[i]? = some y → ∃ a, cl.lookup y = some a ∧ ∀ v, ws[i]? = some (some v) → ∃ u o, H a = some (frC a o) ∧ L2.RelV v u ∧ o.data = .cell (some u)
theorem Clo.st {H H' : Hp} {f c : Addr} {o : HO} {q : Str} {cl : List (Str × Addr)} {fr : List Str} {ws : List (Option V)} (h : Clo H f o c q cl fr ws) (ho : isX o) (s : StX H H') : Clo H' f o c q cl fr ws :=
  ⟨s _ _ h.fn ho, s _ _ h.code True.intro, fun a ha => let ⟨u, e, r⟩ := h.cel a ha; ⟨u, s _ _ e True.intro, r⟩, h.inj, h.len, fun i y e => let ⟨a, e1, r⟩ := h.has i y e; ⟨a, e1, fun v ev => let ⟨u, o, e2, r2⟩ := r v ev; ⟨u, o, s _ _ e2 True.intro, r2⟩⟩⟩
/-- of the frame that made it -/
theorem clo_made {X : Cx} {σ : L2.St} {O : Addr → Obj} {H : Hp} {scope : Scope} {f c : Addr} {o : HO} {q : Str} {fr : List Str} {js : List Nat} (ow : OwnC X σ O H) (hf : H f = some o) (hc : H c = some (CodeO c q)) (hb : ndefB X.env.scope scope fr = true) (hjs : js.map (fun j => X.N[j]?) = fr.map some) :
    Clo (fz (ca X) O H) f o c q (cloFrom X.env.cells scope.names []) fr (js.map (slotAt σ)) := by
  have hfree : ∀ y ∈ scope.names, y.2 = .free → ∃ a, X.env.cells.lookup y.1 = some a := fun y hy e => ow.has _ (ndef_free hb y hy e)
  have up : ∀ {a u}, H a = some u → fz (ca X) O H a = some u := fun {a u} e => fz_ex ow.non a u e
  refine ⟨up hf, up hc, fun a ha => ?_, fun x y a e1 e2 => ow.inj x y a (clo_cm hfree e1) (clo_cm hfree e2), ?_, fun i y e => ?_⟩
  · obtain ⟨⟨y, a'⟩, hm, rfl⟩ := List.mem_map.mp ha
    obtain ⟨h1, h2⟩ := (cloFrom_mem hm).resolve_left (by simp)
    obtain ⟨a1, ha1⟩ := hfree _ h1 rfl
    have ha1 : X.env.cells.lookup y = some a1 := ha1
    have e : a' = a1 := by rw [h2, ha1]; rfl
    subst e
    have hi : a' ∈ ca X := mem_ca.mpr ⟨y, ha1⟩
    exact ⟨O a', fz_in hi, ow.dat a' hi⟩
  · have q := congrArg List.length hjs
    rw [List.length_map, List.length_map] at q
    rw [List.length_map]; exact q
  · have e2 : (js.map fun j => X.N[j]?)[i]? = some (some y) := by rw [hjs, List.getElem?_map, e]; rfl
    rw [List.getElem?_map] at e2
    obtain ⟨j, ej, hj⟩ : ∃ j, js[i]? = some j ∧ X.N[j]? = some y := by
      cases ej : js[i]? with
      | none => rw [ej] at e2; cases e2
      | some j => rw [ej] at e2; exact ⟨j, rfl, Option.some.inj e2⟩
    have hy : (y, NameKind.free) ∈ scope.names := ndef_fr hb y (List.mem_of_getElem? e)
    have hk := ndef_free hb _ hy rfl
    obtain ⟨a, ha⟩ := ow.has y hk
    refine ⟨a, clo_has hfree hy ha, fun v ev => ?_⟩
    rw [List.getElem?_map, ej] at ev
    obtain ⟨u, r, d⟩ := ow.val j y v a hj (slotAt_some (Option.some.inj ev)) hk ha
    exact ⟨u, O a, fz_in (mem_ca.mpr ⟨y, ha⟩), r, d⟩
section
variable {P : Program} {w : World} {K : PySem.W.Frag} {mg : Str → Option Value} {base : Heap} {A : Around} {outer : List Env} {s : Shared} {H : Hp}
theorem env0_hid {as : List Addr} (e0 : Env0 P w K mg base A outer s H) (W : ∀ c ∈ as, ∃ o u, H c = some (.frz o u)) : Env0 P w K mg base A outer s (hid as H) := by
  refine ⟨e0.frames, e0.mod, fun b o z => ⟨(e0.bs b o z).1, ?_⟩, e0.bsz, e0.funs, fun b hb => ?_, hok_hid e0.hok W, e0.bare⟩
  · by_cases hb : b ∈ as
    · exact hid_in hb
    · rw [hid_at hb]; exact (e0.bs b o z).2
  · by_cases m : b ∈ as
    · exact hid_in m
    · rw [hid_at m]; exact e0.frf b hb
theorem Clo.cells {f c : Addr} {o : HO} {q : Str} {cl : List (Str × Addr)} {fr : List Str} {ws : List (Option V)} (h : Clo H f o c q cl fr ws) (hok : HOk P w H s.heap) : CellsAt cl fr ws s.heap (hid (cl.map (·.2)) H) := by
  refine ⟨h.len, fun y a e => ?_, h.inj, fun i y e => ?_⟩
  · have ha : a ∈ cl.map (·.2) := List.mem_map.mpr ⟨(y, a), PySem.mem_of_lookup e, rfl⟩
    obtain ⟨u, e1, v, hd⟩ := h.cel a ha
    exact ⟨hid_in ha, v, u, (hok a _ e1).1, hd⟩
  · obtain ⟨a, e1, r⟩ := h.has i y e
    refine ⟨a, e1, fun v ev => ?_⟩
    obtain ⟨u, o, e2, rv, hd⟩ := r v ev
    exact ⟨u, rv, o, (hok a _ e2).1, hd⟩
/-- back from the function's own heap -/
theorem cr_rz {as : List Addr} {Q : VK} {res : Result} {s' : Shared} (e0 : Env0 P w K mg base A outer s H) (W : ∀ c ∈ as, ∃ o, H c = some (frC c o)) (z : CR L2.CX0 outer P w (hid as H) s (fun v H' => (∀ b ∈ as, H' b = none) → Q v (rz as H H')) L2.E0 res s') : CR L2.CX0 outer P w H s Q L2.E0 res s' := by
  match res, z with
  | .error e, z => exact z
  | .ok .next, z => exact z
  | .ok .brk, z => exact z
  | .ok .cont, z => exact z
  | .ok (.ret u), z =>
    obtain ⟨v, H', os, bare, un, hok, rv, q⟩ := z
    have W' : ∀ c ∈ as, ∃ o, H c = some (frC c o) ∧ s.heap.get? c = some o ∧ c ∉ frs outer := fun c hc => by
      obtain ⟨o, e⟩ := W c hc
      exact ⟨o, e, (e0.hok c _ e).1, fun m => by rw [e0.frf c m] at e; cases e⟩
    exact ⟨v, rz as H H', os, bare, un_rz W' un, hok_rz W' un hok, rv, q fun c hc => let ⟨o, _, e2, _⟩ := W' c hc; un.free c o e2 (hid_in hc) (by simp)⟩
end
section
variable {P : Program} {w : World} {K : PySem.W.Frag} {mg : Str → Option Value} {base : Heap} {k : Nat} {f : Addr} {ps fr : List Str} {ws : List (Option V)}
/-- a nested def as a value -/
theorem FV.of_nok {F : NF} {sp : List (Option V) → Sp} (N : NOk P w K mg base L2.CX0 k f F ps fr sp) :
    FV P w K mg base k f (fun H => Clo H f (FnO f F) F.c F.qual F.cl fr ws) (fun vs H Q => sp ws vs (hid (F.cl.map (·.2)) H) (fun v H' => (∀ b ∈ F.cl.map (·.2), H' b = none) → Q v (rz (F.cl.map (·.2)) H H')) L2.E0) := by
  refine ⟨fun H h ok g => ?_, fun H H' st g => g.st True.intro st, fun A outer s H us vs Q hr e0 g r q => ?_⟩
  · obtain ⟨od, sl, doc, pm, ctv, ho⟩ := fnO_at ok g.fn
    exact ⟨_, od, _, sl, ho⟩
  · have W : ∀ c ∈ F.cl.map (·.2), ∃ o, H c = some (frC c o) := fun c hc => let ⟨u, e, _⟩ := g.cel c hc; ⟨u, e⟩
    have nin : ∀ {b φ}, H b = some (.ext φ) → b ∉ F.cl.map (·.2) := fun {b φ} e m => by
      obtain ⟨u, z⟩ := W b m
      rw [e] at z; cases z
    have e1 := env0_hid e0 fun c hc => let ⟨u, e⟩ := W c hc; ⟨_, _, e⟩
    refine codeAny_mono (N.run A outer s _ us vs ws _ L2.E0 hr e1 ?_ ?_ (g.cells e0.hok) r q) fun res s' z => cr_rz e0 W z
    · rw [hid_at (nin g.fn)]; exact g.fn
    · rw [hid_at (nin g.code)]; exact g.code
/-! ### lambdas -/
/-- the object at f is the lambda F, its body an expression -/
def FnE (f : Addr) (F : NF) (body : Expr) : HO := .ext fun h => ∃ pm ctv, h.get? f = some (PySem.W.kla_obj F.name F.qual F.params body F.scope F.cl pm F.c ctv)
theorem FV.of_lam {N : List Str} {F : NF} {body : Expr} {sp : List (Option V) → Sp} (S : NScope N ps fr F.scope) (hb : ∀ (pm ctv : Value) (us : List Value), us.length = ps.length → bindArgs (PySem.W.kla_fn F.name F.qual F.params body F.scope F.cl pm (.ref F.c) ctv) ⟨us, []⟩ = pure (ps.zip us))
    (len : ∀ ws vs H Q E, sp ws vs H Q E → vs.length = ps.length)
    (hbody : ∀ (A : Around) (outer : List Env) (s : Shared) (H : Hp) (vs : List V) (Q : VK), Room k (A.deeper (envF F f s.heap.objs.size)) → ws.length = fr.length → sp ws vs H Q L2.E0 → ∃ t, PE (ncx L2.CX0 P w K mg base N F f A outer s H L2.E0) body t ∧ t (startF N vs ws) H Q) :
    FV P w K mg base (k + 1) f (fun H => Clo H f (FnE f F body) F.c F.qual F.cl fr ws) (fun vs H Q => sp ws vs (hid (F.cl.map (·.2)) H) (fun v H' => (∀ b ∈ F.cl.map (·.2), H' b = none) → Q v (rz (F.cl.map (·.2)) H H')) L2.E0) := by
  refine ⟨fun H h ok g => ?_, fun H H' st g => g.st True.intro st, fun A outer s H us vs Q hr e0 g r q => ?_⟩
  · obtain ⟨⟨pm, ctv, ho⟩, _⟩ := ok f _ g.fn
    exact ⟨_, _, _, _, ho⟩
  · have W : ∀ c ∈ F.cl.map (·.2), ∃ o, H c = some (frC c o) := fun c hc => let ⟨u, e, _⟩ := g.cel c hc; ⟨u, e⟩
    have e1 := env0_hid e0 fun c hc => let ⟨u, e⟩ := W c hc; ⟨_, _, e⟩
    obtain ⟨⟨pm, ctv, ho⟩, _⟩ := e0.hok f _ g.fn
    have hco := codeO_at e0.hok g.code
    have hl := len _ _ _ _ _ q
    have lim : s.heap.NoLimit := e0.mod.nolimit.keeps fun b o e => (e0.bs b o e).1
    have C := g.cells e0.hok
    suffices h : codeAny (model P w) A (.call (.ref f) ⟨us, []⟩) (CR L2.CX0 outer P w (hid (F.cl.map (·.2)) H) s (fun v H' => (∀ b ∈ F.cl.map (·.2), H' b = none) → Q v (rz (F.cl.map (·.2)) H H')) L2.E0) s from codeAny_mono h fun res s' z => cr_rz e0 W z
    refine PySem.W.kla_callFunE hr.depth ho rfl S.co S.gen rfl hco ?_
    rw [hb pm ctv us (by rw [← r.length]; exact hl)]
    refine wpAny_pure (wpAny_newFunctionEnv S.nocell (fun y hy => S.par y.1 (List.of_mem_zip (show (y.1, y.2) ∈ ps.zip us from hy)).1) (fun h₁ hns hsb => ⟨lim.fresh _ hsb, ?_⟩) S.kind)
    have kp : ∀ b o, s.heap.get? b = some o → h₁.get? b = some o := fun b o e => hsb.extBut b o (Nat.ne_of_lt (Heap.lt_size e)) (Heap.get?_push_of_some _ e)
    obtain ⟨t, ht, hq⟩ := hbody A outer s _ vs _ (hr.deeper _) g.len q
    have I := inv_startN (N := N) (F := F) (f := f) (CX := L2.CX0) (E := L2.E0) (tk := s.toks + (ps.zip us).length) S hr.hd e1 hl r C hns kp
    refine PySem.W.kla_codeExpr (wpAny_mono (ht.run [] _ _ _ _ I hq) (fun v s' z => ?_) fun e s' z => z)
    obtain ⟨v', H', J, rv, qv⟩ := z
    exact ⟨v', H', J.os, J.bare, J.base, J.hok, rv, qv⟩
end
end AT

set_option Elab.async false
set_option linter.all false
set_option maxRecDepth 100000
set_option maxHeartbeats 4000000
/-! own words, ninth part: making defs and lambdas within a def -/
namespace AT
open PySem PySem.Spec PyProof.Rows L2 LamX NdefX
/-- the makers' tables: one table of names for the whole text -/
def Tbs (nm : Nat → Nat → Str) (Ps : List Addr) (H : Hp) : Prop := ∀ P ∈ Ps, TabN H P nm
theorem Tbs.ex {nm : Nat → Nat → Str} {Ps : List Addr} {H H' : Hp} (t : Tbs nm Ps H) (e : Ex H H') : Tbs nm Ps H' := fun P hP => (t P hP).ext e
theorem TabN.isT {nm : Nat → Nat → Str} {H : Hp} {P : Addr} (t : TabN H P nm) : ∃ ps, H P = some (.tbl ps) := let ⟨ps, e, _⟩ := t; ⟨ps, e⟩
/-- kept by what changes other things -/
theorem Tbs.kp {nm : Nat → Nat → Str} {Ps S : List Addr} {H H' : Hp} (t : Tbs nm Ps H) (k : Kp S H H') (n : ∀ b ∈ S, ∀ o, H b = some o → ¬ isX o ∧ ∀ ps, o ≠ .tbl ps) : Tbs nm Ps H' := fun P hP => by
  obtain ⟨ps, e, h1, h2⟩ := t P hP
  refine ⟨ps, k P _ (fun z => (n P z _ e).2 _ rfl) e, h1, fun pos cv hc => ?_⟩
  obtain ⟨c, e1, e2⟩ := h2 pos cv hc
  exact ⟨c, e1, k c _ (fun z => (n c z _ e2).1 True.intro) e2⟩
section
variable {X : Cx} {pins : List (Addr × Obj)} {σ : L2.St} {H : Hp} {s : Shared} {nm : Nat → Nat → Str} {Ps : List Addr} {c P c' : Addr} {ps : Array Value} {pos : Pos} {q : Str} {ho : HO} {o : Obj} {h' : Heap} {tk : Tok}
/-- the code object found: the function alone is new -/
theorem inv_hit (I : Inv X pins σ H s) (hx : ∀ b o, s.heap.get? b = some o → h'.get? b = some o) (hsz : s.heap.objs.size ≤ h'.objs.size) (new : ∀ H1, ObjOk X.prog X.w H1 (h'.push o) h'.objs.size ho) :
    Inv X pins σ (upd H h'.objs.size ho) { s with heap := h'.push o, toks := tk } ∧ H h'.objs.size = none :=
  ⟨I.laid (fun b u e => Heap.get?_push_of_some _ (hx b u e)) hsz (new _), I.hok.fresh hsz⟩
/-- the code object made: the table grows, the code object and the function are new -/
theorem inv_made (I : Inv X pins σ H s) (T : Tbs nm Ps H) (hm : P ∈ Ps) (hP : H P = some (.tbl ps)) (ht : TriplesOk ps.toList) (ha : ∀ (p : Pos) cv, codeAmong p ps.toList = some cv → ∃ c, cv = .ref c ∧ H c = some (CodeO c (nm p.line p.col))) (hn : nm pos.line pos.col = q)
    (hx : Heap.ExtBut P s.heap h') (hge : s.heap.objs.size ≤ c') (hlt : c' < h'.objs.size) (hrec : h'.CodeRec (.ref c') q) (htb : h'.get? P = some (PySem.W.tabObj (ps ++ #[rawInt pos.line, rawInt pos.col, .ref c'])))
    (new : ∀ H1, ObjOk X.prog X.w H1 (h'.push o) h'.objs.size ho) :
    ∃ H1, Inv X pins σ H1 { s with heap := h'.push o, toks := tk } ∧ Kp [P] H H1 ∧ Tbs nm Ps H1 ∧ H h'.objs.size = none ∧ H1 h'.objs.size = some ho ∧ H1 c' = some (CodeO c' q) := by
  obtain ⟨c2, oc, vs, t, e2, hoc, hd, hv⟩ := hrec
  cases e2
  have nC : H c' = none := I.hok.fresh hge
  have hsz : s.heap.objs.size ≤ h'.objs.size := Nat.le_trans hge (Nat.le_of_lt hlt)
  have nF : H h'.objs.size = none := I.hok.fresh hsz
  have I1 := inv_table (t' := tk) (more := #[rawInt pos.line, rawInt pos.col, .ref c']) (h' := h') I hP (fun b o hb e => hx b o hb e) htb hge ⟨oc, vs, t, hoc, hd, hv⟩
  have hF1 : ∀ b, b ≠ P → b ≠ c' → upd (upd H P (.tbl (ps ++ #[rawInt pos.line, rawInt pos.col, .ref c']))) c' (CodeO c' q) b = H b := fun b h1 h2 => by rw [upd_ne h2, upd_ne h1]
  have nPc : P ≠ c' := ne_of_none hP nC
  have nPf : P ≠ h'.objs.size := ne_of_none hP nF
  have ncf : c' ≠ h'.objs.size := Nat.ne_of_lt hlt
  have I2 := I1.laid (a := h'.objs.size) (o := ho) (h' := h'.push o) (t' := tk) (fun b u e => Heap.get?_push_of_some _ e) (Nat.le_refl _) (new _)
  generalize hH2 : upd (upd (upd H P (.tbl (ps ++ #[rawInt pos.line, rawInt pos.col, .ref c']))) c' (CodeO c' q)) h'.objs.size ho = H2 at I2
  have old : ∀ b u, b ≠ P → H b = some u → H2 b = some u := fun b u hb e => by
    rw [← hH2, upd_ne (ne_of_none e nF), hF1 b hb (ne_of_none e nC)]
    exact e
  have atP : H2 P = some (.tbl (ps ++ #[rawInt pos.line, rawInt pos.col, .ref c'])) := by rw [← hH2, upd_ne nPf, upd_ne nPc, upd_same]
  have atc : H2 c' = some (CodeO c' q) := by rw [← hH2, upd_ne ncf, upd_same]
  have code : ∀ {b r}, H b = some (CodeO b r) → H2 b = some (CodeO b r) := fun {b r} e => old b _ (fun z => by rw [z, hP] at e; exact codeO_ne _ (Option.some.inj e).symm) e
  refine ⟨H2, I2, fun b u hb e => old b u (fun z => hb (by rw [z]; exact List.mem_cons_self)) e, fun R hR => ?_, nF, by rw [← hH2, upd_same], atc⟩
  by_cases hb : R = P
  · subst hb
    refine ⟨_, atP, ?_, fun p' cv hcv => ?_⟩
    · rw [Array.toList_append]; exact PySem.TriplesOk_snoc _ _ _ _ ht
    · rw [Array.toList_append] at hcv
      rcases among_app2 _ ht hcv with z | ⟨z, z1, z2⟩
      · obtain ⟨c0, e1, e2⟩ := ha p' cv z
        exact ⟨c0, e1, code e2⟩
      · exact ⟨c', z, by rw [← z1, ← z2, hn]; exact atc⟩
  · obtain ⟨ps', a1, a2, a3⟩ := T R hR
    refine ⟨ps', old R _ hb a1, a2, fun p' cv hcv => ?_⟩
    obtain ⟨c0, e1, e2⟩ := a3 p' cv hcv
    exact ⟨c0, e1, code e2⟩
end
/-! ### the statement «def name(..): ..» in a def -/
def tNdf (nm : Nat → Nat → Str) (Ps : List Addr) (P : Addr) (i : Nat) (mk : Addr → NF) : TS := fun D σ H => Tbs nm Ps H ∧ ∀ (f c' : Addr) (H1 : Hp), Kp [P] H H1 → Tbs nm Ps H1 → H f = none → H1 f = some (FnO f (mk c')) → H1 c' = some (CodeO c' (mk c').qual) → D.nx (σ.set i (some (.ref f))) H1
section
variable {X : Cx} {nm : Nat → Nat → Str} {Ps : List Addr} {c P : Addr}
theorem fnO_new {P : Program} {w : World} {F : NF} {h : Heap} {doc pm ctv : Value} {f : Addr} (e : h.get? f = some ({ cls := .type "function", data := .func (F.fd doc pm ctv) } : Obj)) (H1 : Hp) : ObjOk P w H1 h f (FnO f F) :=
  ⟨⟨_, _, doc, pm, ctv, e⟩, ⟨_, e⟩, fun _ _ ⟨od, sl, d, p, t, z⟩ st => ⟨od, sl, d, p, t, st _ z⟩⟩
theorem fnE_new {P : Program} {w : World} {F : NF} {body : Expr} {h : Heap} {pm ctv : Value} {f : Addr} (e : h.get? f = some (PySem.W.kla_obj F.name F.qual F.params body F.scope F.cl pm F.c ctv)) (H1 : Hp) : ObjOk P w H1 h f (FnE f F body) :=
  ⟨⟨pm, ctv, e⟩, ⟨_, e⟩, fun _ _ ⟨p, t, z⟩ st => ⟨p, t, st _ z⟩⟩
theorem ps_ndf {st : Stmt} {name : Str} {pos : Pos} {i : Nat} (hst : st = .FunctionDef name (C8.fnArgs st) (C8.fnBody st) [] none [] (C8.fnScope st) none name pos) (TB : TabB X.base X.mg c P) (hcode : X.env.code = .ref c) (hm : P ∈ Ps) (hn : nm pos.line pos.col = X.env.qual ++ name) {fr : List Str} (hfr : ndefB X.env.scope (C8.fnScope st) fr = true)
    (hd0 : (C8.fnArgs st).defaults = []) (hk0 : (C8.fnArgs st).kw_defaults = []) (ha : annTrees (C8.fnArgs st) none X.env = []) (hN : X.N.Nodup) (hi : X.N[i]? = some name) (hx : Loc X.env.scope name) (hf : X.fn name = true ∨ X.env.scope.names.lookup name = some .local) :
    PS X st (tNdf nm Ps P i (NF.of st name (X.env.qual ++ name) (cloFrom X.env.cells (C8.fnScope st).names []))) := by
  rw [hst]
  constructor
  intro pins s σ H D I q
  obtain ⟨T, q⟩ := q
  have hq : qualnameIn X.env name name = X.env.qual ++ name := by
    have hk : X.env.kindOf name = some .local ∨ X.env.kindOf name = some .cell := hx
    unfold qualnameIn
    rcases hk with k | k
    · rw [k]; rfl
    · rw [k]; exact if_neg (by decide)
  refine PySem.W.nestDef_K hd0 hk0 ha ?_
  rw [hq]
  have hfree : ∀ y ∈ (C8.fnScope st).names, y.2 = .free → ∃ a, X.env.cells.lookup y.1 = some a := fun y hy e => I.ok.has _ (ndef_free hfr y hy e)
  obtain ⟨ps, hP, ht, hal⟩ := T P hm
  have bP : s.heap.BuiltinsAt X.mg P := TB.bm.keeps I.bk
  have hP' : s.heap.get? P = some { cls := .none, data := .fields ps } := I.hok P _ hP
  have gl := I.mod.glob.keeps I.bk
  have cd := TB.code.keeps I.bk
  have go : ∀ (f c' : Addr) (H1 : Hp) (s' : Shared), Inv X pins σ H1 s' → Kp [P] H H1 → Tbs nm Ps H1 → H f = none → H1 f = some (FnO f (NF.of st name (X.env.qual ++ name) (cloFrom X.env.cells (C8.fnScope st).names []) c')) → H1 c' = some (CodeO c' (X.env.qual ++ name)) →
      wpAny (model X.prog X.w) X.A (storeName X.env name (.ref f)) (fun _ s'' => SP X pins D .next s'') X.xe s' := fun f c' H1 s' I1 k t n h1 h2 =>
    store_ok I1 hN hi hx (v := .ref f) rfl (fun s'' J => ⟨_, H1, J, q f c' H1 k t n h1 h2⟩) hf
  cases hc : codeAmong pos ps.toList with
  | some cv =>
    obtain ⟨c', rfl, hco⟩ := hal pos cv hc
    rw [hn] at hco
    refine PySem.W.makeFunction_hit (mg := X.mg) (closure_ok hfree) I.ok.glob gl hcode cd hP' ht hc bP fun ctv doc h' tk hx2 hsz => ?_
    obtain ⟨J, nF⟩ := inv_hit (tk := tk) (ho := FnO h'.objs.size (NF.of st name (X.env.qual ++ name) (cloFrom X.env.cells (C8.fnScope st).names []) c')) I hx2 hsz fun H1 => fnO_new (doc := doc) (pm := (X.mg "__name__").getD .none) (ctv := ctv) (Heap.get?_push_size _ rfl) H1
    have e := Evl.Ex.new (o := FnO h'.objs.size (NF.of st name (X.env.qual ++ name) (cloFrom X.env.cells (C8.fnScope st).names []) c')) nF
    exact go _ c' _ _ J (Kp.of_ex e) (T.ex e) nF upd_same (e _ _ hco)
  | none =>
    refine PySem.W.makeFunction_K (mg := X.mg) (closure_ok hfree) I.ok.glob gl hcode cd hP' ht hc TB.gP bP fun c' ctv doc h' tk hx2 hge hlt hrec htb => ?_
    obtain ⟨H1, J, k, t, n, h1, h2⟩ := inv_made (tk := tk) (ho := FnO h'.objs.size (NF.of st name (X.env.qual ++ name) (cloFrom X.env.cells (C8.fnScope st).names []) c')) I T hm hP ht hal hn hx2 hge hlt hrec htb fun H1 => fnO_new (doc := doc) (pm := (X.mg "__name__").getD .none) (ctv := ctv) (Heap.get?_push_size _ rfl) H1
    exact go _ c' _ _ J k t n h1 h2
/-! ### a lambda -/
def tLmd (nm : Nat → Nat → Str) (Ps : List Addr) (P : Addr) (mk : Addr → NF) (body : Expr) : TE := fun σ H Q => Tbs nm Ps H ∧ ∀ (f c' : Addr) (H1 : Hp), Kp [P] H H1 → Tbs nm Ps H1 → H f = none → H1 f = some (FnE f (mk c') body) → H1 c' = some (CodeO c' (mk c').qual) → Q (.ref f) H1
theorem pe_lmd {params : Arguments} {body : Expr} {scope : Scope} {pos : Pos} (TB : TabB X.base X.mg c P) (hcode : X.env.code = .ref c) (hm : P ∈ Ps) (hn : nm pos.line pos.col = X.env.qual ++ "<lambda>") {fr : List Str} (hfr : ndefB X.env.scope scope fr = true) (hdef : defaultsOf params X.env = ([], [])) :
    PE X (.Lambda params body scope pos) (tLmd nm Ps P (fun c' => ⟨"<lambda>", X.env.qual ++ "<lambda>", params, [], scope, cloFrom X.env.cells scope.names [], c'⟩) body) := by
  constructor
  intro pins s σ H Q I q
  obtain ⟨T, q⟩ := q
  refine PySem.W.kla_eval hdef ?_
  have hfree : ∀ y ∈ scope.names, y.2 = .free → ∃ a, X.env.cells.lookup y.1 = some a := fun y hy e => I.ok.has _ (ndef_free hfr y hy e)
  obtain ⟨ps, hP, ht, hal⟩ := T P hm
  have bP : s.heap.BuiltinsAt X.mg P := TB.bm.keeps I.bk
  have hP' : s.heap.get? P = some { cls := .none, data := .fields ps } := I.hok P _ hP
  have gl := I.mod.glob.keeps I.bk
  have cd := TB.code.keeps I.bk
  cases hc : codeAmong pos ps.toList with
  | some cv =>
    obtain ⟨c', rfl, hco⟩ := hal pos cv hc
    rw [hn] at hco
    refine PySem.W.kla_makeFunctionHit (mg := X.mg) (closure_ok hfree) I.ok.glob gl hcode cd hP' ht hc bP fun ctv h' tk hx2 hsz => ?_
    obtain ⟨J, nF⟩ := inv_hit (tk := tk) (ho := FnE h'.objs.size ⟨"<lambda>", X.env.qual ++ "<lambda>", params, [], scope, cloFrom X.env.cells scope.names [], c'⟩ body) I hx2 hsz fun H1 => fnE_new (pm := (X.mg "__name__").getD .none) (ctv := ctv) (Heap.get?_push_size _ rfl) H1
    have e := Evl.Ex.new (o := FnE h'.objs.size ⟨"<lambda>", X.env.qual ++ "<lambda>", params, [], scope, cloFrom X.env.cells scope.names [], c'⟩ body) nF
    exact ⟨.ref _, _, J, rfl, q _ c' _ (Kp.of_ex e) (T.ex e) nF upd_same (e _ _ hco)⟩
  | none =>
    refine PySem.W.kla_makeFunction (mg := X.mg) (closure_ok hfree) I.ok.glob gl hcode cd hP' ht hc TB.gP bP fun c' ctv h' tk hx2 hge hlt hrec htb => ?_
    obtain ⟨H1, J, k, t, n, h1, h2⟩ := inv_made (tk := tk) (ho := FnE h'.objs.size ⟨"<lambda>", X.env.qual ++ "<lambda>", params, [], scope, cloFrom X.env.cells scope.names [], c'⟩ body) I T hm hP ht hal hn hx2 hge hlt hrec htb fun H1 => fnE_new (pm := (X.mg "__name__").getD .none) (ctv := ctv) (Heap.get?_push_size _ rfl) H1
    exact ⟨.ref _, H1, J, rfl, q _ c' H1 k t n h1 h2⟩
end
/-! ### a maker of the text -/
structure FunT (K : PySem.W.Frag) (x qual : Str) (st : Stmt) (f : Addr) (fd : FuncData) (c : Addr) : Prop where
  ex : ∃ (oc : Value) (od : Option Addr) (kV doc pm : Value) (an : Option Addr) (ct : Value) (osl : Array (Option Value)), fd = PySem.W.fnOf x qual (defArgs st) (defBody st) (defScope st) .none kV doc pm an (.ref c) ct ∧ K.lookup f = some ⟨oc, od, .func fd, osl⟩ ∧ PySem.W.codeIn K (.ref c) qual = true
theorem funT_mk {K : PySem.W.Frag} {x qual : Str} {st : Stmt} {f c : Addr} {oc : Value} {od an : Option Addr} {osl : Array (Option Value)} {kV doc pm cd ct : Value} (l : K.lookup f = some ⟨oc, od, .func (PySem.W.fnOf x qual (defArgs st) (defBody st) (defScope st) .none kV doc pm an cd ct), osl⟩) (ec : cd = .ref c)
    (h : PySem.W.codeIn K cd qual = true) : FunT K x qual st f (PySem.W.fnOf x qual (defArgs st) (defBody st) (defScope st) .none kV doc pm an cd ct) c := by
  subst ec
  exact ⟨oc, od, kV, doc, pm, an, ct, osl, rfl, l, h⟩
/-- a maker, by its body -/
theorem FunT.ok {P : Program} {w : World} {K : PySem.W.Frag} {mg : Str → Option Value} {base : Heap} {x qual : Str} {st : Stmt} {f c : Addr} {fd : FuncData} {N ps : List Str} {k : Nat} {sp : Sp} (F : FunT K x qual st f fd c) (S : FnScope N ps (defScope st)) (len : ∀ vs H Q E, sp vs H Q E → vs.length = ps.length)
    (hb : ∀ (A : Around) (outer : List Env) (s : Shared) (H : Hp) (vs : List V) (Q : VK) (E : XK), Room k (A.deeper (PyProof.Rows.envOfC qual (defScope st) s.heap.objs.size f (.ref c))) → sp vs H Q E →
      ∃ t, PSs (cxOf L2.CX0 P w K mg base N qual (defScope st) f (.ref c) A outer s H E).nox (defBody st) t ∧ t { nx := fun _ H' => Q .non H', rt := Q } (L2.start N vs) H) : FnOk P w K mg base L2.CX0 (k + 1) f fd ps sp := by
  obtain ⟨oc, od, kV, doc, pm, an, ct, osl, rfl, lk, hcd⟩ := F.ex
  refine fn_of lk hcd S len fun A outer s H vs Q E hr hsp => ?_
  obtain ⟨t, h, q⟩ := hb A outer s H vs Q E hr hsp
  exact ⟨t, PSs.nox h, q⟩
/-- a nested def, by its body -/
theorem nok_by {P : Program} {w : World} {K : PySem.W.Frag} {mg : Str → Option Value} {base : Heap} {N ps fr : List Str} {F : NF} {f : Addr} {k : Nat} {sp : List (Option V) → Sp} (S : NScope N ps fr F.scope)
    (hb : ∀ (doc pm ctv : Value) (us : List Value), us.length = ps.length → bindArgs (F.fd doc pm ctv) ⟨us, []⟩ = pure (ps.zip us)) (len : ∀ ws vs H Q E, sp ws vs H Q E → vs.length = ps.length)
    (hbody : ∀ (A : Around) (outer : List Env) (s : Shared) (H : Hp) (vs : List V) (ws : List (Option V)) (Q : VK) (E : XK), Room k (A.deeper (envF F f s.heap.objs.size)) → ws.length = fr.length → sp ws vs H Q E →
      ∃ t, PSs (ncx L2.CX0 P w K mg base N F f A outer s H E).nox F.body t ∧ t { nx := fun _ H' => Q .non H', rt := Q } (startF N vs ws) H) : NOk P w K mg base L2.CX0 (k + 1) f F ps fr sp := by
  refine nok_of S hb len fun A outer s H vs ws Q E hr _ _ hl hsp => ?_
  obtain ⟨t, h, q⟩ := hbody A outer s H vs ws Q E hr hl hsp
  exact ⟨t, PSs.nox h, q⟩
def inBody (st : Stmt) (i : Nat) : Stmt := (defBody st).getD i (.Pass ⟨0, 0, 0, 0⟩)
/-- which table the code object at c has -/
def tabOf (K : PySem.W.Frag) (c : Addr) : Addr := match K.lookup c with
  | some ⟨_, _, .fields vs, _⟩ => match (vs[11]? : Option PySem.Value) with
    | some (.ref p) => p
    | _ => 0
  | _ => 0
theorem tab_is {K : PySem.W.Frag} {c : Addr} (h : PySem.W.codeHdIn K c (tabOf K c) = true) : PySem.W.codeHdIn K c (tabOf K c) = true := h
theorem mem_dec {p : Addr} {l : List Addr} (h : decide (p ∈ l) = true) : p ∈ l := of_decide_eq_true h
end AT

set_option Elab.async false
set_option linter.all false
set_option maxRecDepth 100000
set_option maxHeartbeats 4000000
/-! own words, tenth part: enumerate over a text; sep.join(reversed(a list)) -/
namespace AT
open PySem PySem.Spec PyProof.Rows L2
section
abbrev SgnP (x : Str) : Nat → Value → Prop := fun i v => ∃ c u, x.cps[i]? = some c ∧ v = .str ⟨#[c]⟩ u
theorem draws_sgn {P : Program} {w : World} {B : Around} (calm : B.handled = none) (z : Addr) (x : Str) (t : Tok) : Draws P w B z [z] x.cps.size (SgnP x) (fun i g => g.IsStrIter z (strIterType x) x t i) := by
  unfold strIterType
  cases x.cps.all (· < 128) with
  | true => exact Draws.strAscii calm z x t
  | false => exact Draws.strWide calm z x t
/-- the text x, each sign in a new pair with its place -/
def ItEs (x : Str) : It where
  go := fun i _ => i < x.cps.size
  yld := fun i H v H' => ∃ T c, v = .ref T ∧ H T = none ∧ x.cps[i]? = some c ∧ H' = upd H T (.tup [.int (i : Nat), .str ⟨#[c]⟩])
  stop := fun i _ => x.cps.size ≤ i
theorem turn_enumS {P : Program} {w : World} {K : PySem.W.Frag} {tgs : List Expr} {kk : Nat} {tp : Pos} (x : Str) (t : Tok) (e z : Addr) :
    Turn P w K (.Tuple tgs kk tp) (ItEs x) [e, z] e (fun i g => (∃ old, IsEnum g e z ((i : Nat) : Int) old) ∧ g.IsStrIter z (strIterType x) x t i ∧ e ≠ z ∧ i ≤ x.cps.size) := by
  refine ⟨List.mem_cons_self, fun i g st b hb => ?_, fun i g g' st k => ?_, ?_, ?_, fun B i s Q E st h => ?_⟩
  · obtain ⟨⟨old, he⟩, ⟨o, ho, hc, hd⟩, _⟩ := st
    rcases List.mem_cons.mp hb with y | y
    · rw [y]; exact ⟨_, he, fun v t => nomatch t⟩
    · rw [List.mem_singleton.mp y]; exact ⟨o, ho, fun v t => by rw [hd] at t; cases t⟩
  · obtain ⟨⟨old, he⟩, ⟨o, ho, r⟩, ne, hi⟩ := st
    exact ⟨⟨old, k e List.mem_cons_self _ he⟩, ⟨o, k z (List.mem_cons_of_mem _ List.mem_cons_self) _ ho, r⟩, ne, hi⟩
  · intro X hP hw hK hc i pins s σ H E I hf st hg
    subst hP hw hK
    obtain ⟨⟨old, he⟩, hz, ne, hi⟩ := st
    have lt : i < x.cps.size := hg
    have heL : e < s.heap.objs.size := Heap.lt_size he
    have hzL : z < s.heap.objs.size := by obtain ⟨_, q, _⟩ := hz; exact Heap.lt_size q
    refine wpAny_pyNext_enum_itemD (draws_sgn (P := X.prog) (w := X.w) (B := X.A.in1) (show X.A.in1.handled = none from I.ok.hd hc) z x t) he hz lt ne (by simp [ne]) fun u' g tk hu' ho st' hT hsz hk => ?_
    obtain ⟨c, tu, hc1, rfl⟩ := hu'
    refine ⟨_, rfl, wpAny_letOwnedTupleGo_enum (s := { s with heap := g, toks := tk + 1 }) ho fun g2 he' sb => ?_⟩
    have hT2 : g2.get? s.heap.objs.size = some { cls := .type "tuple", data := .seq #[.int i tk, .str ⟨#[c]⟩ tu] } := (sb.2 _ (Nat.ne_of_gt heL)).trans hT
    have new : ObjOk X.prog X.w (upd H s.heap.objs.size (.tup [.int (i : Nat), .str ⟨#[c]⟩])) g2 s.heap.objs.size (.tup [.int (i : Nat), .str ⟨#[c]⟩]) :=
      ⟨by show 2 ≤ sizeLine; decide, [.int i tk, .str ⟨#[c]⟩ tu], .cons ⟨_, rfl⟩ (.cons ⟨_, rfl⟩ .nil), ⟨_, hT2, rfl, _, rfl⟩⟩
    have I1 : Inv X pins σ (upd H s.heap.objs.size (.tup [.int (i : Nat), .str ⟨#[c]⟩])) { s with heap := g2, toks := tk + 1 } :=
      I.turnedNew (ch := [e, z]) (fun b ob hb t => (sb.2 b (fun y => hb (by simp [y]))).trans (hk b ob (fun y => hb (by simp [y])) (fun y => hb (by simp [y])) t)) hf (Nat.le_refl _) new
    refine ⟨.ref s.heap.objs.size, _, I1, rfl, ⟨_, c, rfl, I.hok.fresh (Nat.le_refl _), hc1, rfl⟩, ⟨⟨.str ⟨#[c]⟩ tu, ?_⟩, ?_, ne, lt⟩, fun b hb => ?_⟩
    · have e1 : ((i + 1 : Nat) : Int) = (i : Int) + 1 := by omega
      rw [e1]
      exact he'
    · obtain ⟨o, q, r⟩ := st'
      exact ⟨o, (sb.2 z (Ne.symm ne)).trans q, r⟩
    · have hb' : b < s.heap.objs.size := by
        rcases List.mem_cons.mp hb with y | y
        · exact y ▸ heL
        · exact List.mem_singleton.mp y ▸ hzL
      rw [upd_ne (Nat.ne_of_lt hb')]
      exact (hf b hb).1
  · intro X hP hw hK hc i pins s σ H E I hf st hg
    subst hP hw hK
    obtain ⟨⟨old, he⟩, hz, ne, hi⟩ := st
    obtain ⟨f0, f1, f2, f3, f4, f5⟩ := hf z (List.mem_cons_of_mem _ List.mem_cons_self)
    have hl : i = x.cps.size := Nat.le_antisymm hi hg
    rw [hl] at he hz
    refine wpAny_pyNext_enum_endD (draws_sgn (P := X.prog) (w := X.w) (B := X.A.in1) (show X.A.in1.handled = none from I.ok.hd hc) z x t) he hz fun g eb => ⟨rfl, I.turned (t' := s.toks) (fun b o hb t => eb b o hb t) f0 f1 f3 f4 f5⟩
  · obtain ⟨⟨_, he⟩, _⟩ := st
    exact wpAny_pyIter_enum he h
def iEnumS (ta : TA) : TI := fun σ H R => ta σ H fun vs H1 => ∃ x, vs = [.str x] ∧ R (ItEs x) H1
theorem pi_enumS {X : Cx} {e : Expr} {ta : TA} {p pos tp : Pos} {tgs : List Expr} {kk : Nat} (hg : Gl X "enumerate") (hm : X.mg "enumerate" = none) (ha : PA X [e] ta) (hs : starEach [e] X.env = [(false, eval e X.env)] := by rfl) :
    PI X (.Tuple tgs kk tp) (.Call (.Name "enumerate" p) [e] [] pos) (iEnumS ta) := by
  constructor
  intro pins s σ H R I h
  refine Call_ (ld_blt I hg hm boot_enumerate (PyProof.Rows.callWith_type1 (thn (ha.run pos pins s σ H _ I h) fun us s1 z => ?_) hs rfl))
  obtain ⟨vs, H1, I1, r1, x, ex, q⟩ := z
  subst ex
  obtain ⟨u, rfl, ru⟩ := vals1 r1
  obtain ⟨t, rfl⟩ := ru
  refine call_enumerate_str fun g he hit hsz hk => wpAny_pyIter_enum he ?_
  have I2 : Inv X pins σ H1 { s1 with heap := g } := I1.kept (t' := s1.toks) hk
  refine ⟨s1.heap.objs.size + 1, [s1.heap.objs.size + 1, s1.heap.objs.size], _, _, H1, rfl, I2, turn_enumS x t (s1.heap.objs.size + 1) s1.heap.objs.size, ⟨⟨.none, he⟩, hit, Nat.succ_ne_self _, Nat.zero_le _⟩, fun b hb => ?_, q⟩
  have hle : s1.heap.objs.size ≤ b := by
    rcases List.mem_cons.mp hb with y | y
    · rw [y]; exact Nat.le_succ _
    · rw [List.mem_singleton.mp y]; exact Nat.le_refl _
  exact I1.fpOk hle (I1.hok.fresh hle)
theorem walk_enumS {x : Str} : Walk (ItEs x) x.cps.size (fun _ => True) (fun i H v H' => ∃ T c, v = .ref T ∧ H T = none ∧ x.cps[i]? = some c ∧ H' = upd H T (.tup [.int (i : Nat), .str ⟨#[c]⟩])) :=
  ⟨fun i _ hi _ => hi, fun _ _ => Nat.le_refl _, fun i H v H' _ _ y => y⟩
/-- enumerate of a list, a tuple or a text -/
def iEnumX (K : PySem.W.Frag) (ta : TA) : TI := fun σ H R => iEnumS ta σ H R ∨ iEnumA K ta σ H R
theorem pi_enumX {X : Cx} {e : Expr} {ta : TA} {p pos tp : Pos} {tgs : List Expr} {kk : Nat} (hg : Gl X "enumerate") (hm : X.mg "enumerate" = none) (ha : PA X [e] ta) (hs : starEach [e] X.env = [(false, eval e X.env)] := by rfl) :
    PI X (.Tuple tgs kk tp) (.Call (.Name "enumerate" p) [e] [] pos) (iEnumX X.K ta) := PI.or (pi_enumS hg hm ha hs) (pi_enumA hg hm ha hs)
end
/-! ### sep.join(reversed(a list)) -/
section
variable {P : Program} {w : World} {A : Around} {E : Value → Shared → Prop} {s : Shared}
theorem join_rev {x : Str} {t : Tok} {it l : Addr} {its : Array Value} {ys : List Str} {Q : Value → Shared → Prop} (calm : A.handled = none) (hit : s.heap.IsRevIter it l ((its.size : Int) - 1)) (hl : s.heap.IsList l its) (hne : l ≠ it) (hn : its.size ≤ sizeLine)
    (hP : ∀ acc : Array Value, ItemsOf (fun i v => its[its.size - 1 - i]? = some v) acc its.size → StrsAre acc.toList ys) (hok : (ys.map (·.length)).sum + ys.length * x.length ≤ 16777216)
    (hq : ∀ h' tk t', (∀ b o, b ≠ it → s.heap.get? b = some o → h'.get? b = some o) → Q (.str (Txt.join x ys) t') { s with heap := h', toks := tk }) : wpAny (model P w) A (call (.builtin "str.join") [.str x t, .ref it]) Q E s := by
  refine wpAny_call (codeAny_call_builtin F.slot_str_join.plain F.entry_str_join (F.slot_str_join.check _ _ _ _ _ _ _ _ (typeIs_str _ _ _) (F.args_str_join_2 _ _) ?_))
  rw [join_tree_other]
  have ty : s.TypeIs (.ref it) "list_reverseiterator" := hit.typeIs
  refine wpAny_bind (wpAny_typeOf ty ?_)
  rw [if_neg (by decide)]
  refine wpAny_bind (wpAny_tryCatch (wpAny_pyIter_revIter hit ?_))
  have calm1 : A.in1.in1.handled = none := calm
  refine wpAny_bind (RT.collect_rev (A := A.in1) calm hit hl hne hn fun h' tk acc kp items => ?_)
  obtain ⟨ps, hps, es⟩ := strsAre_values (hP acc items)
  subst es
  rw [hps]
  have fit := joinOk_of hok
  unfold JoinOk at fit
  rw [Bool.not_eq_true'] at fit
  have g : Gives (PySem.joinTail x (strValues ps)) (joinMade x ps) := by
    have made := PySem.gives_joinTail x ps fit
    rcases ps with _ | ⟨one, _ | ⟨two, rest⟩⟩
    · exact made
    · exact made
    · exact made
  exact g P w A (wants Q E) _ (PySem.post_join ps ⟨PySem.joinFit_length fit, fun t' k => hq h' k t' kp⟩)
end
theorem strs_rev {ys : List Str} {its : List Value} {acc : Array Value} (r : Vals (ys.map V.str) its) (h : ItemsOf (fun i v => its.toArray[its.toArray.size - 1 - i]? = some v) acc its.toArray.size) : StrsAre acc.toList ys.reverse := by
  have r2 := RT.vals_rev r h
  rw [← List.map_reverse] at r2
  generalize ys.reverse = zs at r2
  generalize acc.toList = us at r2
  clear h r
  induction zs generalizing us with
  | nil => cases r2; exact .nil
  | cons z zs ih =>
    cases r2 with
    | cons r1 r3 =>
      obtain ⟨t, rfl⟩ := r1
      exact .cons z t (ih _ r3)
def tJoinRev (K : PySem.W.Frag) (to : TE) (ta : TA) : TE := fun σ H Q => to σ H fun v H1 => (∃ a : Str, v = .str a) ∧ ta σ H1 fun vs H2 => ∃ (a : Str) (q : Addr) (ys : List Str), v = .str a ∧ vs = [.ref q] ∧ SqL K H2 q (ys.map V.str) ∧
  (ys.map (·.length)).sum + ys.length * a.length ≤ 16777216 ∧ Q (.str (Txt.join a ys.reverse)) H2
theorem pe_joinRev {X : Cx} {o e : Expr} {to : TE} {ta : TA} {apos pos p2 pos2 : Pos} (calm : X.calm = true) (ho : PE X o to) (hg : Gl X "reversed") (hm : X.mg "reversed" = none) (ha : PA X [e] ta) (hs : starEach [e] X.env = [(false, eval e X.env)] := by rfl)
    (hs1 : starEach [.Call (.Name "reversed" p2) [e] [] pos2] X.env = [(false, eval (.Call (.Name "reversed" p2) [e] [] pos2) X.env)] := by rfl) (hbase : attributeBase o "join" X.env (eval o X.env) = eval o X.env := by rfl) (hline : (apos.endLine == pos.line) = true := by rfl) :
    PE X (.Call (.Attribute o "join" apos) [.Call (.Name "reversed" p2) [e] [] pos2] [] pos) (tJoinRev X.K to ta) := by
  constructor
  intro pins s σ H Q I h
  refine PySem.Call_method1 hbase hs1 hline (thn (ho.run pins s σ H _ I h) fun v s1 z => ?_)
  obtain ⟨x, H1, I1, r1, ⟨a, rfl⟩, q1⟩ := z
  obtain ⟨t, rfl⟩ := _root_.id r1
  refine ⟨"str", _, F.plainAttrs_str, F.slot_str_join, F.type_str_join, typeIs_str _ _ _, (fun _ e => nomatch e), Calls.callWith_builtin rfl (Calls.evalArgs_plain (Calls.spliced_cons ?_))⟩
  refine Call_ (ld_blt I1 hg hm PyProof.Rows.boot_reversed (PyProof.Rows.callWith_type1 (thn (ha.run pos2 pins s1 σ H1 _ I1 q1) fun us s2 z => ?_) hs rfl))
  obtain ⟨vs, H2, I2, r2, a', q, ys, ea, ev, hq, hz, q2⟩ := z
  cases ea
  subst ev
  obtain ⟨u, rfl, ru⟩ := vals1 r2
  cases (show u = Value.ref q from ru)
  obtain ⟨its, rv, p', hl⟩ := I2.list hq
  refine call_reversed_list p'.isList (Calls.spliced_nil ?_)
  have hol : q < s2.heap.objs.size := by obtain ⟨o, z, _⟩ := p'.isList; exact Heap.lt_size z
  have k0 : ∀ b o, s2.heap.get? b = some o → (s2.heap.push (revObj q ((its.toArray.size : Int) - 1))).get? b = some o := fun b o z => Heap.get?_push_of_some _ z
  have J : Inv X pins σ H2 { s2 with heap := s2.heap.push (revObj q ((its.toArray.size : Int) - 1)) } := I2.kept (t' := s2.toks) k0
  obtain ⟨f0, f1, f2, f3, f4, f5⟩ := I2.fpOk (H' := H2) (b := s2.heap.objs.size) (Nat.le_refl _) (I2.hok.fresh (Nat.le_refl _))
  refine join_rev (s := { s2 with heap := s2.heap.push (revObj q ((its.toArray.size : Int) - 1)) }) (ys := ys.reverse) (I2.ok.hd calm) ⟨_, Heap.get?_push_size _ rfl, rfl, rfl⟩ (p'.isList.push _) (Nat.ne_of_lt hol) ?_ (fun acc hi => strs_rev rv hi) ?_ fun h' tk t' kp => ?_
  · rw [List.size_toArray, ← rv.length]; exact hl
  · rw [List.map_reverse, List.sum_reverse, List.length_reverse]; exact hz
  · exact ⟨.str _, H2, J.turned (t' := tk) (fun b o hb z => kp b o hb z) f0 f1 f3 f4 f5, ⟨t', rfl⟩, q2⟩
section
variable {X : Cx} (K : PySem.W.Frag) (hK : X.K = K := by rfl)
include hK
theorem kJr {e : Expr} {to : TE} {ta : TA} (h : PE X e (tJoinRev X.K to ta)) : PE X e (tJoinRev K to ta) := hK ▸ h
end
section
variable {σ : L2.St} {H : Hp} {Q : VK} {D : Ends} {t : TA} {to : TE} {ta : TA} {nm : Nat → Nat → Str} {Ps : List Addr} {P : Addr} {i : Nat} {mk : Addr → NdefX.NF} {X : Cx} {sp : Sp} {R : It → Hp → Prop}
theorem rd_ndf (T : Tbs nm Ps H) (h : ∀ (f c' : Addr) (H1 : Hp), Kp [P] H H1 → Tbs nm Ps H1 → H f = none → H1 f = some (NdefX.FnO f (mk c')) → H1 c' = some (LamX.CodeO c' (mk c').qual) → D.nx (σ.set i (some (.ref f))) H1) : tNdf nm Ps P i mk D σ H := ⟨T, h⟩
theorem rd_callZ (h : t σ H fun vs H1 => ∀ O, OwnC X σ O H1 → sp vs (fz (ca X) O H1) (fun v H2 => Q v (hid (ca X) H2)) L2.E0) : tCallZ X sp t σ H Q := h
theorem rd_enS (h : ta σ H fun vs H1 => ∃ x, vs = [.str x] ∧ R (ItEs x) H1) : iEnumS ta σ H R := h
end
section
variable {X : Cx}
/-- t.index(True), t a tuple of truth values -/
def rIdxB (K : PySem.W.Frag) : V → List V → Hp → VK → Prop := fun x xs H Q => ∃ (p : Addr) (bs : List Bool) (j : Nat), x = .ref p ∧ xs = [.bl true] ∧ SqT K H p (bs.map V.bl) ∧ bs[j]? = some true ∧ (∀ m, m < j → bs[m]? ≠ some true) ∧ Q (.int (j : Nat)) H
theorem flat_bls : ∀ bs : List Bool, (bs.map V.bl).all flatV = true
  | [] => rfl
  | _ :: bs => flat_bls bs
theorem mt_tupIdxB : MtR X "tuple.index" (rIdxB X.K) := by
  intro pins s σ H x xs v us Q I rx rs h
  obtain ⟨p, bs, j, rfl, rfl, hq, hj, no, q⟩ := h
  cases rx
  obtain ⟨u, rfl, ru⟩ := vals1 rs
  cases (show u = Value.bool true from ru)
  obtain ⟨its, r, ⟨⟨cls, dd, dt, sl⟩, ho, hc, n, hd⟩, hz⟩ := I.tuple hq
  simp only at hc hd
  subst hc hd
  have len : its.toArray.size = bs.length := by
    have := r.length
    rw [List.length_map] at this
    rw [List.size_toArray]; exact this.symm
  have jl : j < its.toArray.size := by rw [len]; exact (List.getElem?_eq_some_iff.mp hj).1
  have here : ∀ (m : Nat) (hm : m < its.toArray.size), ∃ b, bs[m]? = some b ∧ its.toArray[m] = Value.bool b := fun m hm => by
    have hm' : m < bs.length := len ▸ hm
    obtain ⟨z, hz1, hz2⟩ := r.get (i := m) (x := .bl bs[m]) (by simp [hm'])
    refine ⟨bs[m], List.getElem?_eq_getElem hm', ?_⟩
    cases (show z = Value.bool bs[m] from hz2)
    simpa using (List.getElem?_eq_some_iff.mp hz1).2
  refine call_meets PySem.F.slot_tuple_index ⟨_, ho, rfl⟩ PySem.F.entry_tuple_index (PySem.F.args_tuple_index_2 _ _) (TI.tuple_indexAt p its.toArray n dd sl (.bool true) (eqU (.bl true)) j jl ?_ ?_) ⟨ho, fun z hz => mem_eqAt (x := .bl true) rfl rfl r (flat_bls bs) z (by simpa using hz), ⟨.int (j : Nat), H, I.tok _, ⟨_, rfl⟩, q⟩⟩
  · obtain ⟨b, h1, h2⟩ := here j jl
    rw [hj] at h1
    cases h1
    rw [h2]
    rfl
  · intro m hm hmj
    obtain ⟨b, h1, h2⟩ := here m hm
    rw [h2]
    cases b with
    | true => exact absurd h1 (no m hmj)
    | false => rfl
end
section
variable {X : Cx} (K : PySem.W.Frag) (hK : X.K = K := by rfl)
include hK
theorem kIdxB : MtR X "tuple.index" (rIdxB K) := hK ▸ mt_tupIdxB
end
theorem PE.or {X : Cx} {e : Expr} {t t' : TE} (h : PE X e t) (h' : PE X e t') : PE X e (fun σ H Q => t σ H Q ∨ t' σ H Q) := by
  constructor
  intro pins s σ H Q I q
  exact q.elim (h.run pins s σ H Q I) (h'.run pins s σ H Q I)
/-! ### what stands still hides no data -/
section
variable {K : PySem.W.Frag} {S : List Addr} {H H' : Hp}
theorem rz_hid : rz S H (hid S H) = H := by
  funext b
  by_cases hb : b ∈ S
  · rw [rz_in hb]
  · rw [rz_at hb, hid_at hb]
/-- all of S are things that no data leans on -/
def NoD (S : List Addr) (H : Hp) : Prop := ∀ b ∈ S, ∀ o, H b = some o → (∀ xs, o ≠ .lst xs) ∧ (∀ xs, o ≠ .tup xs) ∧ (∀ u xs, o ≠ .frz u (.lst xs)) ∧ ∀ u xs, o ≠ .frz u (.tup xs)
theorem NoD.of_fr (W : ∀ b ∈ S, ∃ o, H b = some (frC b o)) : NoD S H := fun b hb o e => by
  obtain ⟨u, z⟩ := W b hb
  rw [z] at e
  cases e
  exact ⟨fun xs z => (nomatch z), fun xs z => (nomatch z), (fun u xs z => by cases z), (fun u xs z => by cases z)⟩
theorem sqt_noD (h : NoD S H) {a : Addr} {vs : List V} (q : SqT K H a vs) : SqT K (hid S H) a vs := by
  rcases q with (q | ⟨o, q⟩) | q
  · exact .inl (.inl (by rw [hid_at fun hb => (h a hb _ q).2.1 _ rfl]; exact q))
  · exact .inl (.inr ⟨o, by rw [hid_at fun hb => (h a hb _ q).2.2.2 _ _ rfl]; exact q⟩)
  · exact .inr q
theorem sql_noD (h : NoD S H) {a : Addr} {vs : List V} (q : SqL K H a vs) : SqL K (hid S H) a vs := by
  rcases q with (q | ⟨o, q⟩) | q
  · exact .inl (.inl (by rw [hid_at fun hb => (h a hb _ q).1 _ rfl]; exact q))
  · exact .inl (.inr ⟨o, by rw [hid_at fun hb => (h a hb _ q).2.2.1 _ _ rfl]; exact q⟩)
  · exact .inr q
mutual
theorem Dp.hidF (h : NoD S H) : ∀ (d : PyData) {v : V}, Dp K H v d → Dp K (hid S H) v d
  | .none, _, q => by cases q; exact .non
  | .bool b, _, q => by cases q; exact .bl b
  | .int i, _, q => by cases q; exact .int i
  | .str x, _, q => by cases q; exact .str x
  | .list ds, _, q => by
    cases q with
    | lst hs ha => exact .lst (sql_noD h hs) (DpAll.hidF h ds ha)
  | .tuple ds, _, q => by
    cases q with
    | tup hs ha => exact .tup (sqt_noD h hs) (DpAll.hidF h ds ha)
  | .dict _, _, q => by cases q
theorem DpAll.hidF (h : NoD S H) : ∀ (ds : List PyData) {vs : List V}, DpAll K H vs ds → DpAll K (hid S H) vs ds
  | [], _, q => by cases q; exact .nil
  | d :: ds, _, q => by
    cases q with
    | cons h1 h2 => exact .cons (Dp.hidF h d h1) (DpAll.hidF h ds h2)
end
end
section
variable {nm : Nat → Nat → Str} {Ps S : List Addr} {H H' : Hp}
/-- the tables are no data -/
theorem Tbs.noD (t : Tbs nm Ps H) : NoD Ps H := fun b hb o e => by
  obtain ⟨ps, z⟩ := TabN.isT (t b hb)
  rw [z] at e
  cases e
  exact ⟨fun xs z => (nomatch z), fun xs z => (nomatch z), fun u xs z => (nomatch z), fun u xs z => (nomatch z)⟩
theorem kp_one {P : Addr} (hP : P ∈ Ps) (k : Kp [P] H H') : Kp Ps H H' := k.sub fun b hb => by rw [List.mem_singleton.mp hb]; exact hP
end
/-! ### made functions, for those who get them -/
section
open LamX NdefX
/-- the promise, the function's cells out of sight -/
def spC (as : List Addr) (sp : Sp) : List V → Hp → VK → Prop := fun vs H Q => (∀ b ∈ as, ∃ o, H b = some (frC b o)) → sp vs (hid as H) (fun v H' => (∀ b ∈ as, H' b = none) → Q v (rz as H H')) L2.E0
theorem FV.weak {P : Program} {w : World} {K : PySem.W.Frag} {mg : Str → Option Value} {base : Heap} {k : Nat} {f : Addr} {G : Hp → Prop} {sp sp' : List V → Hp → VK → Prop} (F : FV P w K mg base k f G sp) (h : ∀ vs H Q, G H → sp' vs H Q → sp vs H Q) : FV P w K mg base k f G sp' :=
  ⟨F.fn, F.st, fun A outer s H us vs Q hr e0 g r q => F.run A outer s H us vs Q hr e0 g r (h vs H Q g q)⟩
variable {X : Cx} {σ : L2.St} {O : Addr → Obj} {H : Hp} {f c : Addr} {name q : Str} {params : Arguments} {scope : Scope} {N ps fr : List Str} {js : List Nat} {k : Nat} {sp : List (Option V) → Sp}
theorem lam_made {body : Expr} (ow : OwnC X σ O H) (hf : H f = some (FnE f ⟨name, q, params, [], scope, cloFrom X.env.cells scope.names [], c⟩ body)) (hc : H c = some (CodeO c q)) (js : List Nat) (hb : ndefB X.env.scope scope fr = true) (hjs : js.map (fun j => X.N[j]?) = fr.map some) (S : NScope N ps fr scope)
    (hbind : ∀ (cl : List (Str × Addr)) (pm ctv : Value) (us : List Value), us.length = ps.length → bindArgs (PySem.W.kla_fn name q params body scope cl pm (.ref c) ctv) ⟨us, []⟩ = pure (ps.zip us)) (len : ∀ ws vs H Q E, sp ws vs H Q E → vs.length = ps.length)
    (hbody : ∀ (cl : List (Str × Addr)) (A : Around) (outer : List Env) (s : Shared) (H : Hp) (vs : List V) (ws : List (Option V)) (Q : VK), Room k (A.deeper (envF ⟨name, q, params, [], scope, cl, c⟩ f s.heap.objs.size)) → ws.length = fr.length → sp ws vs H Q L2.E0 →
      ∃ t, PE (ncx L2.CX0 X.prog X.w X.K X.mg X.base N ⟨name, q, params, [], scope, cl, c⟩ f A outer s H L2.E0) body t ∧ t (startF N vs ws) H Q) :
    ∃ (G : Hp → Prop) (as : List Addr), FV X.prog X.w X.K X.mg X.base (k + 1) f G (spC as (sp (js.map (slotAt σ)))) ∧ G (fz (ca X) O H) := by
  have F := FV.of_lam (P := X.prog) (w := X.w) (K := X.K) (mg := X.mg) (base := X.base) (f := f) (F := ⟨name, q, params, [], scope, cloFrom X.env.cells scope.names [], c⟩) (body := body) (ws := js.map (slotAt σ)) (sp := sp) S (hbind _) len fun A outer s H vs Q hr hl h => hbody _ A outer s H vs _ Q hr hl h
  exact ⟨_, _, F.weak fun vs H' Q g h => h fun b hb => let ⟨u, e, _⟩ := g.cel b hb; ⟨u, e⟩, clo_made ow hf hc hb hjs⟩
theorem ndf_made {body : List Stmt} (ow : OwnC X σ O H) (hf : H f = some (FnO f ⟨name, q, params, body, scope, cloFrom X.env.cells scope.names [], c⟩)) (hc : H c = some (CodeO c q)) (js : List Nat) (hb : ndefB X.env.scope scope fr = true) (hjs : js.map (fun j => X.N[j]?) = fr.map some)
    (Nk : ∀ cl, NOk X.prog X.w X.K X.mg X.base L2.CX0 k f ⟨name, q, params, body, scope, cl, c⟩ ps fr sp) :
    ∃ (G : Hp → Prop) (as : List Addr), FV X.prog X.w X.K X.mg X.base k f G (spC as (sp (js.map (slotAt σ)))) ∧ G (fz (ca X) O H) := by
  have F := FV.of_nok (ws := js.map (slotAt σ)) (Nk (cloFrom X.env.cells scope.names []))
  exact ⟨_, _, F.weak fun vs H' Q g h => h fun b hb => let ⟨u, e, _⟩ := g.cel b hb; ⟨u, e⟩, clo_made ow hf hc hb hjs⟩
end
theorem Tbs.kpX {nm : Nat → Nat → Str} {Ps : List Addr} {P : Addr} {H H' : Hp} (t : Tbs nm Ps H) (hP : P ∈ Ps) (k : Kp [P] H H') {b : Addr} {o : HO} (e : H b = some o) (x : isX o) : H' b = some o := by
  obtain ⟨ps, z⟩ := TabN.isT (t P hP)
  refine k b o (fun m => ?_) e
  rw [List.mem_singleton.mp m, z] at e
  cases e
  exact x
/-- the data that stands while a table grows -/
theorem Tbs.kpD {nm : Nat → Nat → Str} {Ps : List Addr} {P : Addr} {H H' : Hp} (t : Tbs nm Ps H) (hP : P ∈ Ps) (k : Kp [P] H H') {b : Addr} {o : HO} (e : H b = some o) (x : ∀ ps, o ≠ .tbl ps) : H' b = some o := by
  obtain ⟨ps, z⟩ := TabN.isT (t P hP)
  refine k b o (fun m => ?_) e
  rw [List.mem_singleton.mp m, z] at e
  cases e
  exact absurd rfl (x ps)
/-- out of the callee's heap, the cells left behind -/
theorem fz_out {as : List Addr} {O : Addr → Obj} {H H' : Hp} (n : ∀ c ∈ as, H c = none) (e : Ex (fz as O H) H') : Ex H (hid as H') := fun b o z => by
  have nb : b ∉ as := fun m => by rw [n b m] at z; cases z
  rw [hid_at nb]
  exact e b o (by rw [fz_at nb]; exact z)
section
open LamX NdefX
/-- what stands but for the cells -/
def StE (H H' : Hp) : Prop := ∀ b φ, H b = some (.ext φ) → H' b = some (.ext φ)
theorem StE.hid {S : List Addr} {H : Hp} (W : ∀ b ∈ S, ∃ o, H b = some (frC b o)) : StE H (hid S H) := fun b φ e => by
  rw [hid_at fun m => by obtain ⟨o, z⟩ := W b m; rw [z] at e; cases e]
  exact e
theorem StE.of_ex {H H' : Hp} (e : Ex H H') : StE H H' := fun b φ z => e b _ z
theorem StE.trans {H H1 H2 : Hp} (a : StE H H1) (b : StE H1 H2) : StE H H2 := fun x φ z => b x φ (a x φ z)
/-- a lambda that captured nothing -/
theorem lam_free {P : Program} {w : World} {K : PySem.W.Frag} {mg : Str → Option Value} {base : Heap} {f c : Addr} {name q : Str} {params : Arguments} {scope : Scope} {N ps : List Str} {k : Nat} {sp : Sp} {body : Expr} {H : Hp} {cl : List (Str × Addr)} (hf : H f = some (FnE f ⟨name, q, params, [], scope, cl, c⟩ body)) (hc : H c = some (CodeO c q)) (hcl : cl = [])
    (S : NScope N ps [] scope) (hbind : ∀ (pm ctv : Value) (us : List Value), us.length = ps.length → bindArgs (PySem.W.kla_fn name q params body scope [] pm (.ref c) ctv) ⟨us, []⟩ = pure (ps.zip us)) (len : ∀ vs H Q E, sp vs H Q E → vs.length = ps.length)
    (hbody : ∀ (A : Around) (outer : List Env) (s : Shared) (H : Hp) (vs : List V) (Q : VK), Room k (A.deeper (envF ⟨name, q, params, [], scope, [], c⟩ f s.heap.objs.size)) → sp vs H Q L2.E0 →
      ∃ t, PE (ncx L2.CX0 P w K mg base N ⟨name, q, params, [], scope, [], c⟩ f A outer s H L2.E0) body t ∧ t (startF N vs []) H Q) :
    ∃ G : Hp → Prop, FV P w K mg base (k + 1) f G (fun vs H Q => sp vs H Q L2.E0) ∧ G H ∧ ∀ H H', StE H H' → G H → G H' := by
  subst hcl
  have F := FV.of_lam (P := P) (w := w) (K := K) (mg := mg) (base := base) (f := f) (F := ⟨name, q, params, [], scope, [], c⟩) (body := body) (fr := []) (ws := []) (sp := fun _ => sp) S hbind (fun _ => len) fun A outer s H vs Q hr _ h => hbody A outer s H vs Q hr h
  have all : ∀ H, H f = some (FnE f ⟨name, q, params, [], scope, [], c⟩ body) ∧ H c = some (CodeO c q) → Clo H f (FnE f ⟨name, q, params, [], scope, [], c⟩ body) c q [] [] [] := fun H h =>
    ⟨h.1, h.2, (fun a ha => nomatch ha), (fun x y a e => nomatch e), rfl, fun i y e => by rw [List.getElem?_nil] at e; cases e⟩
  refine ⟨fun H => H f = some (FnE f ⟨name, q, params, [], scope, [], c⟩ body) ∧ H c = some (CodeO c q), ⟨fun H h ok g => F.fn H h ok (all H g), fun H H' st g => ⟨st _ _ g.1 True.intro, st _ _ g.2 True.intro⟩, fun A outer s H us vs Q hr e0 g r q => F.run A outer s H us vs Q hr e0 (all H g) r ?_⟩, ⟨hf, hc⟩, fun H H' st g => ⟨st _ _ g.1, st _ _ g.2⟩⟩
  show sp vs (hid [] H) (fun v H' => (∀ b ∈ ([] : List Addr), H' b = none) → Q v (rz [] H H')) L2.E0
  have e1 : (fun (v : V) (H' : Hp) => (∀ b ∈ ([] : List Addr), H' b = none) → Q v (rz [] H H')) = Q := by
    funext v H'
    have e2 : rz [] H H' = H' := by
      funext b
      exact rz_at (by simp)
    rw [e2]
    exact propext ⟨fun h => h fun b hb => (nomatch hb), fun h _ => h⟩
  rw [hid_nil, e1]
  exact q
end
theorem Tbs.hidC {nm : Nat → Nat → Str} {Ps as : List Addr} {H : Hp} (t : Tbs nm Ps H) (W : ∀ b ∈ as, ∃ o, H b = some (frC b o)) : Tbs nm Ps (hid as H) := fun P hP => by
  obtain ⟨ps, e, h1, h2⟩ := t P hP
  refine ⟨ps, by rw [hid_at fun m => by obtain ⟨o, z⟩ := W P m; rw [e] at z; cases z]; exact e, h1, fun pos cv hc => ?_⟩
  obtain ⟨c, e1, e2⟩ := h2 pos cv hc
  exact ⟨c, e1, by rw [hid_at fun m => by obtain ⟨o, z⟩ := W c m; rw [e2] at z; cases z]; exact e2⟩
/-- back from a callee that may make functions -/
theorem out_T {nm : Nat → Nat → Str} {Ps as : List Addr} {O : Addr → Obj} {H H' : Hp} (n : ∀ c ∈ as, H c = none) (t : Tbs nm Ps H) (k : Kp Ps (fz as O H) H') (t' : Tbs nm Ps H') : Kp Ps H (hid as H') ∧ Tbs nm Ps (hid as H') := by
  have np : ∀ b ∈ as, b ∉ Ps := fun b hb hP => by
    obtain ⟨ps, z⟩ := TabN.isT (t b hP)
    rw [n b hb] at z; cases z
  refine ⟨fun b o hb e => ?_, t'.hidC fun b hb => ⟨O b, k b _ (np b hb) (fz_in hb)⟩⟩
  have nb : b ∉ as := fun m => by rw [n b m] at e; cases e
  rw [hid_at nb]
  exact k b o hb (by rw [fz_at nb]; exact e)
theorem rd_neB {K : PySem.W.Frag} {x y : Bool} {H : Hp} {Q : VK} (h : Q (.bl (x != y)) H) : oNe K (.bl x) (.bl y) H Q := .inl ⟨rfl, by
  have e : (!decide (V.bl x = V.bl y)) = (x != y) := by cases x <;> cases y <;> rfl
  rw [e]; exact h⟩
theorem rd_eqB {K : PySem.W.Frag} {x y : Bool} {H : Hp} {Q : VK} (h : Q (.bl (x == y)) H) : oEq K (.bl x) (.bl y) H Q := .inl ⟨rfl, by
  have e : decide (V.bl x = V.bl y) = (x == y) := by cases x <;> cases y <;> rfl
  rw [e]; exact h⟩
/-! ### tuples that are known to the object: their methods -/
/-- a tuple with no dict of its own -/
def TupF (H : Hp) (p : Addr) (xs : List V) : Prop := ∃ o : Obj, H p = some (.frz o (.tup xs)) ∧ o.cls = .type "tuple" ∧ o.dict = none
theorem TupF.sq {K : PySem.W.Frag} {H : Hp} {p : Addr} {xs : List V} (h : TupF H p xs) : SqT K H p xs := let ⟨o, e, _⟩ := h; .inl (.inr ⟨o, e⟩)
theorem TupF.ex {H H' : Hp} {p : Addr} {xs : List V} (h : TupF H p xs) (e : Ex H H') : TupF H' p xs := let ⟨o, z, r⟩ := h; ⟨o, e _ _ z, r⟩
/-- tuple(a list): the new tuple, known to the object -/
def cTupF (K : PySem.W.Frag) : List V → Hp → VK → Prop := fun xs H Q => ∃ p ys, xs = [.ref p] ∧ SqL K H p ys ∧ ∀ l o, H l = none → o.cls = .type "tuple" → o.dict = none → Q (.ref l) (upd H l (.frz o (.tup ys)))
theorem call_tupF {X : Cx} : CallR X (.type "tuple") (cTupF X.K) := by
  intro pins s σ H xs us Q I r h
  obtain ⟨p, ys, rfl, hq, q⟩ := h
  obtain ⟨u, rfl, ru⟩ := vals1 r
  cases (show u = Value.ref p from ru)
  obtain ⟨its, rv, pl, hz⟩ := I.list hq
  have len := rv.length
  refine call_tuple_list pl.isList (fun h' kp => ?_) (by rw [List.size_toArray]; omega)
  have J : Inv X pins σ H { s with heap := h' } := I.kept (t' := s.toks) kp
  have got : (h'.push { cls := .type "tuple", data := .seq its.toArray }).get? h'.objs.size = some { cls := .type "tuple", data := .seq its.toArray } := Heap.get?_push_size _ rfl
  refine ⟨.ref h'.objs.size, _, J.laid (t' := s.toks) (o := .frz { cls := .type "tuple", data := .seq its.toArray } (.tup ys)) (fun b o e => Heap.get?_push_of_some _ e) (Nat.le_refl _) ⟨got, hz, its, rv, IsTup.new _ _⟩, rfl, q _ _ (J.hok.fresh (Nat.le_refl _)) rfl rfl⟩
/-- o.m(..), o a tuple that is known to the object -/
def tBMF (r : V → List V → Hp → VK → Prop) (to : TE) (t : TA) : TE := fun σ H Q => to σ H fun x H1 => (∃ p xs, x = .ref p ∧ TupF H1 p xs) ∧ t σ H1 fun vs H2 => r x vs H2 Q
theorem pe_bmF {X : Cx} {o e : Expr} {es : List Expr} {name : Str} {id : String} {r : V → List V → Hp → VK → Prop} {to : TE} {t : TA} {apos cpos : Pos} (pa : PlainAttrs "tuple") (slot : Slot "tuple" name id) (hty : typeOf (.builtin id) = pure (.type "method_descriptor")) (hm : MtR X id r) (ho : PE X o to) (ha : PA X (e :: es) t)
    (hbase : attributeBase o name X.env (eval o X.env) = eval o X.env := by rfl)
    (hfew : ((backTo cpos (starEach (e :: es) X.env)).all (fun x => !x.1) && (backToKw cpos (keywordEach [] X.env)).all (fun x => x.1.isSome) && decide ((e :: es).length + ([] : List Keyword).length + (if ([] : List Keyword).isEmpty then 0 else 1) < 30)) = true := by rfl)
    (hline : (apos.endLine == cpos.line) = true := by rfl) (hs : starEach (e :: es) X.env = (false, eval e X.env) :: starEach es X.env := by rfl) (hpl : (backTo cpos (starEach es X.env)).any (·.1) = false := by rfl) :
    PE X (.Call (.Attribute o name apos) (e :: es) [] cpos) (tBMF r to t) := by
  constructor
  intro pins s σ H Q I h
  refine wpAny_Call_method_late hbase hfew hline rfl (thn (ho.run pins s σ H _ I h) fun v s1 z => ?_)
  obtain ⟨x, H1, I1, r1, ⟨p, xs, rfl, u, hp, hc, hd⟩, q1⟩ := z
  have hv : v = Value.ref p := r1
  obtain ⟨got, _⟩ := I1.hok p _ hp
  refine ⟨"tuple", id, pa, slot, hty, by rw [hv]; exact ⟨u, got, hc⟩, fun a e => ?_, ?_⟩
  · rw [hv] at e
    cases e
    exact ⟨u, got, hd⟩
  have hA := ha.run cpos pins s1 σ H1 _ I1 q1
  rw [hs] at hA ⊢
  refine Calls.callWith_builtin (by show (false || (backTo cpos (starEach es X.env)).any (·.1)) = false; rw [hpl]; rfl) (Calls.evalArgs_plain ?_)
  exact thn hA fun us s2 z => by
    obtain ⟨vs, H2, I2, r2, q2⟩ := z
    exact hm pins s2 σ H2 _ vs v us Q I2 r1 r2 q2
section
variable {X : Cx} (K : PySem.W.Frag) (hK : X.K = K := by rfl)
include hK
theorem kTupF : CallR X (.type "tuple") (cTupF K) := hK ▸ call_tupF
end
theorem rd_bmF {r : V → List V → Hp → VK → Prop} {to : TE} {t : TA} {σ : L2.St} {H : Hp} {Q : VK} (h : to σ H fun x H1 => (∃ p xs, x = .ref p ∧ TupF H1 p xs) ∧ t σ H1 fun vs H2 => r x vs H2 Q) : tBMF r to t σ H Q := h
end AT

set_option Elab.async false
set_option linter.all false
set_option maxRecDepth 100000
set_option maxHeartbeats 4000000
/-! own words, eleventh part: calls of function values within comprehensions -/
namespace AT
open PySem PySem.Spec PyProof.Rows L2
section
variable {X : Cx} {k i : Nat} {x : Str} {p pos : Pos} {e : Expr} {es : List Expr} {t : TA} {P : Program} {w : World} {K : PySem.W.Frag} {mg : Str → Option Value} {base : Heap}
/-- x(..), x a name that holds a function, its parts named -/
theorem pe_callQB (h1 : X.prog = P) (h2 : X.w = w) (h3 : X.K = K) (h4 : X.mg = mg) (h5 : X.base = base) (hr : Room k X.A) (hN : X.N[i]? = some x) (hv : Vis X.env.scope x) (ha : PA X (e :: es) t) (hd : (x == ("__debug__" : Str)) = false := by decide) (hcd : (x == ("__classdict__" : Str)) = false := by decide)
    (he : starEach (e :: es) X.env = (false, eval e X.env) :: starEach es X.env := by rfl) (hpl : (backTo pos (starEach es X.env)).any (·.1) = false := by rfl) : PE X (.Call (.Name x p) (e :: es) [] pos) (tCallQ P w K mg base k i t) := by
  subst h1 h2 h3 h4 h5
  exact pe_callQ hr hN hv ha hd hcd he hpl
end
/-- o[i] of a tracked list, from its start, as `o[i] += ..` reads it -/
def gGetL : V → V → Hp → VK → Prop := fun x y H Q => ∃ p xs i v, x = .ref p ∧ y = .int i ∧ H p = some (.lst xs) ∧ 0 ≤ i ∧ xs[i.toNat]? = some v ∧ Q v H
theorem pget_list {X : Cx} : PGet X gGetL := by
  intro pins s σ H x y v u Q I rx ry h
  obtain ⟨p, xs, i, z, rfl, rfl, hq, h0, he, q⟩ := h
  cases rx
  obtain ⟨t, rfl⟩ := ry
  obtain ⟨its, r, pl, hz⟩ := I.list (.inl (.inl hq))
  obtain ⟨w, ew, rw'⟩ := r.get he
  have hl := r.length
  have hn := line63
  have hi : i.toNat < xs.length := (List.getElem?_eq_some_iff.mp he).1
  exact wpAny_mono (wpAny_getItem_list (Q := fun r s' => r = w ∧ s' = s) pl.isList h0 (by omega) (by simpa using ew) ⟨rfl, rfl⟩) (fun r s' e => by obtain ⟨rfl, rfl⟩ := e; exact ⟨z, H, I, rw', q⟩) fun _ _ z => z
theorem rd_augS {to ti te : TE} {tget : V → V → Hp → VK → Prop} {tip : TIp} {tset : TSet} {D : Ends} {σ : L2.St} {H : Hp} (h : to σ H fun o H1 => ti σ H1 fun i H2 => tget o i H2 fun x H3 => te σ H3 fun y H4 => tip x y H4 fun z H5 => tset o i z H5 fun H6 => D.nx σ H6) : tAugS to ti te tget tip tset D σ H := h
/-- d.setdefault(k, v), its reading -/
theorem rd_dsetd {td ty tx : TE} {σ : L2.St} {H : Hp} {Q : VK} (h : td σ H fun x H1 => ∃ a, x = .ref a ∧ IsD H1 a ∧ ty σ H1 fun y H2 => tx σ H2 fun z H3 => ∃ (kvs : List (L2.Key × V)) (k : L2.Key), H3 a = some (.dK kvs) ∧ y = kV k ∧ kvs.length < sizeLine ∧
  (∀ v, valV kvs k = some v → Q v H3) ∧ (valV kvs k = none → Q z (upd H3 a (.dK (putK kvs k z))))) : tDSetd td ty tx σ H Q := h
end AT

set_option Elab.async false
set_option linter.all false
set_option maxRecDepth 100000
set_option maxHeartbeats 4000000
/-! own words, twelfth part: dicts whose keys are truth values; setdefault -/
namespace AT
open PySem PySem.Spec PyProof.Rows L2
/-- a dict whose keys are truth values -/
def dB (P : Program) (w : World) (a : Addr) (kvs : List (Bool × V)) : HO := .ext fun h => kvs.length ≤ sizeLine ∧ (a == sysModules) = false ∧ ∃ vs, KV kvs vs ∧ h.DictOf (PpSet.boolK P w) a vs
section
variable {P : Program} {w : World} {H : Hp} {h : Heap} {a : Addr} {kvs : List (Bool × V)}
theorem dB_ok {vs : List (Bool × Value)} (z : kvs.length ≤ sizeLine) (hd : (a == sysModules) = false) (rel : KV kvs vs) (dd : h.DictOf (PpSet.boolK P w) a vs) : ObjOk P w H h a (dB P w a kvs) := by
  have he : ∃ q, h.get? a = some q := let ⟨q, _, _, hq, _⟩ := dd; ⟨q, hq⟩
  exact ⟨⟨z, hd, vs, rel, dd⟩, he, fun h1 h2 x k => by
    obtain ⟨z, y, vs, r, ob, es, ep, e, c⟩ := x
    exact ⟨z, y, vs, r, ob, es, ep, k _ e, c⟩⟩
theorem dB_rd (ok : HOk P w H h) (e : Rd H a (dB P w a kvs)) : kvs.length ≤ sizeLine ∧ (a == sysModules) = false ∧ ∃ vs, KV kvs vs ∧ h.DictOf (PpSet.boolK P w) a vs :=
  (show ObjOk P w H h a (dB P w a kvs) from rd_of ok e).1
theorem dB_of (ok : HOk P w H h) (e : H a = some (dB P w a kvs)) : kvs.length ≤ sizeLine ∧ (a == sysModules) = false ∧ ∃ vs, KV kvs vs ∧ h.DictOf (PpSet.boolK P w) a vs := dB_rd ok (.inl e)
theorem bl_is {k : Bool} {u : Value} (r : RelV (.bl k) u) : (PpSet.boolK P w).is k u = true := by
  obtain rfl : u = Value.bool k := r
  exact PpSet.boolK_is P w k
end
section
variable {X : Cx} {pins : List (Addr × Obj)} {σ : L2.St} {H : Hp} {s : Shared} {a : Addr} {u r : Value} {d : V} {k : Bool} {A : Around} {E : Value → Shared → Prop}
theorem d_setdB {kvs : List (Bool × V)} {Q : Value → Shared → Prop} (I : Inv X pins σ H s) (e : H a = some (dB X.prog X.w a kvs)) (ry : RelV (.bl k) u) (rd : RelV d r) (hl : kvs.length < sizeLine)
    (h1 : ∀ v, valV kvs k = some v → ∀ (w' : Value) (s' : Shared), Inv X pins σ H s' → RelV v w' → Q w' s') (h2 : valV kvs k = none → ∀ (w' : Value) (s' : Shared), Inv X pins σ (upd H a (dB X.prog X.w a (putK kvs k d))) s' → RelV d w' → Q w' s') :
    wpAny (model X.prog X.w) A (call (.builtin "dict.setdefault") [.ref a, u, r]) Q E s := by
  obtain ⟨z, hd, vs, rel, dd⟩ := dB_of I.hok e
  have hz : vs.length ≤ sizeLine := by
    rw [← rel.length]
    exact z
  refine call_meetsIn PySem.F.slot_dict_setdefault dd.typeIs PySem.F.entry_dict_setdefault (PySem.F.args_dict_setdefault_3 _ _ _) (kt_meets_setdefault (PpSet.boolK X.prog X.w) a (bl_is ry) hd r) ⟨vs, dd, hz, fun v hv => ?_, fun hn h' dd' hs => ?_⟩
  · have q := rel.val k
    rw [hv] at q
    cases q0 : valV kvs k with
    | none =>
      rw [q0] at q
      exact (show False from q).elim
    | some v0 =>
      rw [q0] at q
      exact h1 v0 q0 _ _ (I.tok _) q
  · have q := rel.val k
    rw [hn] at q
    cases q0 : valV kvs k with
    | some v0 =>
      rw [q0] at q
      exact (show False from q).elim
    | none =>
      have hl2 : (putK kvs k d).length ≤ sizeLine := by
        have := length_putK kvs k d
        omega
      have he : ∃ q, h'.get? a = some q := let ⟨q, _, _, hq, _⟩ := dd'; ⟨q, hq⟩
      exact h2 q0 _ _ (d_write (t' := s.toks + 1) I (by rw [e]; exact True.intro) hs he (dB_ok hl2 hd (rel.put k rd) dd')) rd
end
def tDNewB (P : Program) (w : World) : TE := fun _ H Q => ∀ p, H p = none → Q (.ref p) (upd H p (dB P w p []))
def tDSetdB (P : Program) (w : World) (td ty tx : TE) : TE := fun σ H Q => td σ H fun x H1 => (∃ a kvs, x = .ref a ∧ H1 a = some (dB P w a kvs)) ∧ ty σ H1 fun y H2 => tx σ H2 fun z H3 => ∃ (a : Addr) (kvs : List (Bool × V)) (k : Bool), x = .ref a ∧ H3 a = some (dB P w a kvs) ∧ y = .bl k ∧ kvs.length < sizeLine ∧
  (∀ v, valV kvs k = some v → Q v H3) ∧ (valV kvs k = none → Q z (upd H3 a (dB P w a (putK kvs k z))))
def tDGetB (P : Program) (w : World) (td ty : TE) : TE := fun σ H Q => td σ H fun x H1 => ty σ H1 fun y H2 => ∃ (a : Addr) (kvs : List (Bool × V)) (k : Bool) (v : V), x = .ref a ∧ Rd H2 a (dB P w a kvs) ∧ y = .bl k ∧ valV kvs k = some v ∧ Q v H2
section
variable {X : Cx} {o e f i : Expr} {td ty tx : TE} {apos cpos pos : Pos} (P : Program) (w : World) (hP : X.prog = P := by rfl) (hw : X.w = w := by rfl)
include hP hw
theorem pe_dnewB : PE X (.Dict [] [] pos) (tDNewB P w) := by
  subst hP hw
  exact ⟨fun pins s σ H Q I h =>
    wpAny_Dict_empty ⟨.ref s.heap.objs.size, _, I.laid (a := s.heap.objs.size) (o := dB X.prog X.w s.heap.objs.size []) (t' := s.toks) (fun _ _ q => Heap.get?_push_of_some _ q) (Nat.le_refl _)
      (dB_ok (Nat.zero_le _) (beq_eq_false_iff_ne.mpr (Ne.symm (Nat.ne_of_lt I.big))) .nil (Heap.DictOf.new s.heap)), rfl, h _ (I.hok.fresh (Nat.le_refl _))⟩⟩
theorem pe_dsetdB (ho : PE X o td) (he : PE X e ty) (hf : PE X f tx) (m : M2 X o "setdefault" apos e f cpos) : PE X (.Call (.Attribute o "setdefault" apos) [e, f] [] cpos) (tDSetdB P w td ty tx) := by
  subst hP hw
  refine ⟨fun pins s σ H Q I h => ?_⟩
  refine wpAny_Call_method m.base m.few m.line PySem.F.plainAttrs_dict PySem.F.slot_dict_setdefault PySem.F.type_dict_setdefault (thn (ho.run pins s σ H _ I h) fun u s1 ⟨x, H1, I1, rx, ⟨a, kvs0, ex, ea0⟩, q1⟩ => ?_)
  subst ex
  obtain rfl : u = Value.ref a := rx
  obtain ⟨_, _, vs, _, dd⟩ := dB_of I1.hok ea0
  refine ⟨dd.typeIs, dd.mapOf.noDict, ?_⟩
  rw [m.trees]
  refine Calls.callWith_builtin rfl (Calls.evalArgs_plain (Calls.spliced_cons (thn (he.run pins s1 σ H1 _ I1 q1) fun iv s2 ⟨y, H2, I2, ry, q2⟩ =>
    Calls.spliced_cons (thn (hf.run pins s2 σ H2 _ I2 q2) fun fv s3 ⟨z, H3, I3, rz, a', kvs, k, ex2, ea, ey, hl, q3, q4⟩ => Calls.spliced_nil ?_))))
  cases ex2
  subst ey
  exact d_setdB I3 ea ry rz hl (fun v hv w' s4 I4 rw' => ⟨v, _, I4, rw', q3 v hv⟩) fun hn w' s4 I4 rw' => ⟨z, _, I4, rw', q4 hn⟩
theorem pe_dgetB (ho : PE X o td) (hi : PE X i ty) (hs : NoSl i) : PE X (.Subscript o i pos) (tDGetB P w td ty) := by
  subst hP hw
  refine ⟨fun pins s σ H Q I h => ?_⟩
  refine subD_of PySem.F.slot_dict_getitem.lookup hs (thn (ho.run pins s σ H _ I h) fun u s1 ⟨x, H1, I1, rx, q1⟩ => thn (hi.run pins s1 σ H1 _ I1 q1) fun iv s2 ⟨y, H2, I2, ry, a, kvs, k, v, ex, g, ey, hv, q2⟩ => ?_)
  subst ex ey
  obtain rfl : u = Value.ref a := rx
  obtain ⟨z, hd, vs, rel, dd⟩ := dB_rd I2.hok g
  obtain ⟨w', hw, rw'⟩ := RelO.some_of (v := v) (o := valueAt vs k) (by rw [← hv]; exact rel.val k)
  exact ⟨dd.typeIs, wpAny_getItem_of (bl_is ry) dd.mapOf hw ⟨v, H2, I2.tok _, rw', q2⟩⟩
end
/-! the keys of a locked dict -/
section
variable {X : Cx} {pins : List (Addr × Obj)} {σ : L2.St} {H : Hp} {s : Shared} {d : Addr} {o : Obj}
theorem frzB {kvs : List (Bool × V)} (I : Inv X pins σ H s) (h : H d = some (.frz o (dB X.prog X.w d kvs))) :
    (d == sysModules) = false ∧ s.heap.get? d = some o ∧ o.ExactDict ∧ ∃ (es : Array DictEntry) (ep : Nat) (vs : List (Bool × Value)), o.data = .dict es ep ∧ es.size = kvs.length ∧ KV kvs vs ∧ s.heap.DictAt (PpSet.boolK X.prog X.w) d vs ep := by
  obtain ⟨hd, ⟨z, hs, vs, kv, o', es, ep, ho, hx, hdt, r⟩, _⟩ := I.hok d _ h
  rw [hd] at ho
  cases ho
  refine ⟨hs, hd, hx, es, ep, vs, hdt, ?_, kv, o, es, hd, hx, hdt, r⟩
  have l1 := r.2.1.length
  have l2 : kvs.length = vs.length := Paired.length kv
  rw [Array.length_toList] at l1
  omega
end
def Itb (P : Program) (w : World) (d : Addr) (o : Obj) (kvs : List (Bool × V)) : It :=
  ⟨fun i H => H d = some (.frz o (dB P w d kvs)) ∧ i < kvs.length, fun i H x H' => H' = H ∧ ∃ k v, kvs[i]? = some (k, v) ∧ x = .bl k, fun i H => H d = some (.frz o (dB P w d kvs)) ∧ kvs.length ≤ i⟩
theorem kvB_get {kvs : List (Bool × V)} {vs : List (Bool × Value)} (r : KV kvs vs) {i : Nat} {k : Bool} {v : V} (h : kvs[i]? = some (k, v)) : ∃ u, vs[i]? = some (k, u) ∧ RelV v u := by
  unfold KV at r
  induction r generalizing i with
  | nil => simp at h
  | @cons p q ps qs h1 t ih =>
    cases i with
    | zero =>
      simp only [List.getElem?_cons_zero, Option.some.injEq] at h
      subst h
      obtain ⟨h1, h2⟩ := h1
      exact ⟨q.2, by simp only [List.getElem?_cons_zero, Option.some.injEq]; exact Prod.ext h1.symm rfl, h2⟩
    | succ i =>
      simp only [List.getElem?_cons_succ] at h ⊢
      exact ih h
section
variable {P : Program} {w : World} {K : PySem.W.Frag} {tg : Expr} {d : Addr} {o : Obj} {es : Array DictEntry} {ep : Nat}
theorem turn_keysB {kvs : List (Bool × V)} (it : Addr) (hod : o.data = .dict es ep) : Turn P w K tg (Itb P w d o kvs) [it] it (fun i h => h.IsKeyIter it d i kvs.length ep) where
  mem := by simp
  obj := fun i h st b hb => by
    have e : b = it := by simpa using hb
    subst e
    obtain ⟨oi, e, c, dd⟩ := st
    exact ⟨oi, e, fun v z => by rw [dd] at z; cases z⟩
  keep := fun i h h' st k => st.at fun oi e => k it (by simp) oi e
  item := by
    intro X hP hw hK hc i pins s σ H E I hf st hg
    subst hP hw hK
    obtain ⟨hd, hi⟩ := hg
    obtain ⟨f0, f1, f2, f3, f4, f5⟩ := hf it (by simp)
    obtain ⟨hs, hgd, hx, es', ep', vs, hdt, hsz, kv, hm⟩ := frzB I hd
    obtain ⟨rfl, rfl⟩ := dict_ep hod hdt
    obtain ⟨⟨k, v⟩, hkv⟩ : ∃ p, kvs[i]? = some p := ⟨kvs[i], List.getElem?_eq_getElem hi⟩
    obtain ⟨u, hu, ru⟩ := kvB_get kv hkv
    have hl : kvs.length = vs.length := Paired.length kv
    rw [hl] at st
    refine wpAny_pyNext_dict_item st hm hu fun key h' hkey st' sb => ?_
    have I1 : Inv X pins σ H { s with heap := h' } := I.turned (t' := s.toks) (fun b ob hb e => (sb.2 b hb).trans e) f0 f1 f3 f4 f5
    obtain ⟨oi, e, c, dd⟩ := id st'
    refine ⟨key, rfl, go_of (s := { s with heap := h' }) e c dd (by decide) ⟨.bl k, H, I1, PpSet.isB_shape hkey, ⟨rfl, k, v, hkv, rfl⟩, ?_, fun b hb => (hf b hb).1⟩⟩
    show h'.IsKeyIter it d (i + 1) kvs.length _
    rw [hl]
    exact st'
  done := by
    intro X hP hw hK hc i pins s σ H E I hf st hg
    subst hP hw hK
    obtain ⟨hd, hi⟩ := hg
    obtain ⟨f0, f1, f2, f3, f4, f5⟩ := hf it (by simp)
    obtain ⟨hs, hgd, hx, es', ep', vs, hdt, hsz, kv, hm⟩ := frzB I hd
    obtain ⟨rfl, rfl⟩ := dict_ep hod hdt
    exact next_key_end (I.ok.hd hc) st hgd hdt hsz hi fun h' eb => ⟨rfl, I.turned (t' := s.toks) (fun b ob hb e => eb b ob hb e) f0 f1 f3 f4 f5⟩
  self := fun A i s Q E st h => wpAny_pyIter_keyiter st h
end
def iKeysB (P : Program) (w : World) (td : TE) : TI := fun σ H R => td σ H fun x H1 => ∃ d o kvs, x = .ref d ∧ H1 d = some (.frz o (dB P w d kvs)) ∧ R (Itb P w d o kvs) H1
theorem pi_keysB {X : Cx} {tg e : Expr} {td : TE} (P : Program) (w : World) (hP : X.prog = P) (hw : X.w = w) (he : PE X e td) : PI X tg e (iKeysB P w td) := by
  subst hP hw
  refine ⟨fun pins s σ H R I h => ?_⟩
  refine thn (he.run pins s σ H _ I h) fun u s1 ⟨x, H1, I1, rx, d, o, kvs, ex, hd, q⟩ => ?_
  subst ex
  obtain rfl : u = Value.ref d := rx
  obtain ⟨hs, hgd, hx, es, ep, vs, hdt, hsz, kv, hm⟩ := frzB I1 hd
  refine iter_keys hs hgd hx hdt (pi_one (tk := s1.toks) I1 _ (turn_keysB _ hdt) ⟨_, Heap.get?_push_size _ rfl, rfl, ?_⟩ q)
  rw [hsz] <;> rfl
theorem walk_keysB {P : Program} {w : World} {d : Addr} {o : Obj} {kvs : List (Bool × V)} : Walk (Itb P w d o kvs) kvs.length (fun H => H d = some (.frz o (dB P w d kvs))) (fun i H x H' => H' = H ∧ ∃ k v, kvs[i]? = some (k, v) ∧ x = .bl k) :=
  ⟨fun _ _ hi q => ⟨q, hi⟩, fun _ q => ⟨q, Nat.le_refl _⟩, fun _ _ _ _ _ _ y => y⟩
/-! reading -/
section
variable {K : PySem.W.Frag} {σ : L2.St} {H : Hp} {Q : VK} {td ty tx : TE} {P : Program} {w : World}
theorem rd_dsetdB (h : td σ H fun x H1 => (∃ a kvs, x = .ref a ∧ H1 a = some (dB P w a kvs)) ∧ ty σ H1 fun y H2 => tx σ H2 fun z H3 => ∃ (a : Addr) (kvs : List (Bool × V)) (k : Bool), x = .ref a ∧ H3 a = some (dB P w a kvs) ∧ y = .bl k ∧ kvs.length < sizeLine ∧
  (∀ v, valV kvs k = some v → Q v H3) ∧ (valV kvs k = none → Q z (upd H3 a (dB P w a (putK kvs k z))))) : tDSetdB P w td ty tx σ H Q := h
theorem rd_dgetB (h : td σ H fun x H1 => ty σ H1 fun y H2 => ∃ (a : Addr) (kvs : List (Bool × V)) (k : Bool) (v : V), x = .ref a ∧ Rd H2 a (dB P w a kvs) ∧ y = .bl k ∧ valV kvs k = some v ∧ Q v H2) : tDGetB P w td ty σ H Q := h
theorem rd_dnB (h : ∀ p, H p = none → Q (.ref p) (upd H p (dB P w p []))) : tDNewB P w σ H Q := h
end
end AT

set_option Elab.async false
set_option linter.all false
set_option maxRecDepth 100000
set_option maxHeartbeats 4000000
/-! own words, thirteenth part: a tuple, several times or once; sorted ints; list of a dict -/
namespace AT
open PySem PySem.Spec PyProof.Rows L2
theorem tuple_mul1 (l : Addr) (items : Array Value) (n : Nat) (dd : Option Addr) (sl : Array (Option Value)) (u : Tok) (c1 : items.isEmpty = false) :
    Meets (Builtin.«tuple.__mul__» ⟨[.ref l, .int 1 u], []⟩) (fun _ R s => s.heap.get? l = some { cls := .type "tuple", dict := dd, data := .seq items n, slots := sl } ∧ R (.ok (.ret (Value.ref l))) s) :=
  .of_wp fun prog w A R s h => by
    obtain ⟨hp, g, d, tk, os⟩ := s
    obtain ⟨hl, h⟩ := h
    have f1 := AutoSeq1.idx_int
    have c0 : (decide ((1 : Int) < -(2 ^ 63)) || decide ((1 : Int) ≥ 2 ^ 63)) = false := by decide
    have c2 : (items.isEmpty || (1 : Int) == 1) = true := by rw [c1]; rfl
    wp_walk using wpAny_loadPart' hl
    exact ⟨_, rfl, h⟩
/-- a tuple, once -/
def rRepT1 (K : PySem.W.Frag) : R2 := fun x y H Q => ∃ l xs, x = .ref l ∧ y = .int 1 ∧ SqT K H l xs ∧ xs ≠ [] ∧ Q (.ref l) H
section
variable {X : Cx}
theorem op_repT1 : OpR X (binaryOp .Mult) (rRepT1 X.K) := by
  intro pins s σ H x y v u Q I rx ry h
  obtain ⟨l, xs, rfl, rfl, hT, hne, q⟩ := h
  cases rx
  obtain ⟨t, rfl⟩ := ry
  obtain ⟨its, r, ⟨⟨cls, dd, data, sl⟩, ho, hc, n, hd⟩, hs⟩ := I.tuple hT
  simp only at hc hd
  subst hc hd
  have hle : its.length = xs.length := r.length.symm
  have hn : its ≠ [] := fun e => hne (by
    rw [e] at hle
    exact List.eq_nil_of_length_eq_zero hle.symm)
  have hi : its.toArray.isEmpty = false := by
    cases its with
    | nil => exact absurd rfl hn
    | cons a b => rfl
  refine wpAny_binaryOp_repeat_ref (T := "tuple") (U := "int") (by decide) ⟨_, ho, rfl⟩ (fun s' => typeIs_int s' 1 t) noFill_tuple_mul F.fills_int_mul F.slot_int_rmul repeat_tuple F.slot_int_index.lookup
    (call_meets F.slot_int_rmul (typeIs_int s 1 t) F.entry_int_rmul (F.args_int_rmul_2 _ _) (int_rmul_tuple 1 t l its.toArray n dd sl)
      ⟨ho, rfl, ⟨_, ho, rfl⟩, call_meets F.slot_tuple_mul ⟨_, ho, rfl⟩ F.entry_tuple_mul (F.args_tuple_mul_2 _ _) (tuple_mul1 l its.toArray n dd sl t hi) ⟨ho, ?_⟩⟩)
  exact ⟨.ref l, H, I, rfl, q⟩
end
/-- a tuple, several times or once -/
def oMulT (K : PySem.W.Frag) : R2 := fun x y H Q => rRepT K x y H Q ∨ rRepT1 K x y H Q
section
variable {X : Cx} (K : PySem.W.Frag) (hK : X.K = K := by rfl)
include hK
theorem kMulT : OpR X (binaryOp .Mult) (oMulT K) := hK ▸ OpR.or op_repT op_repT1
theorem kIndex : MtR X "list.index" (rIndex K) := hK ▸ mt_index
theorem kIsi : CallR X (.builtin "isinstance") (rIsi K) := hK ▸ call_isi
theorem kSortI : CallR X (.builtin "sorted") (rSortedI K) := hK ▸ cr_sortedI
end
section
variable {K : PySem.W.Frag} {H : Hp} {Q : VK}
theorem rd_isiL {a : Addr} {xs : List V} (h : H a = some (.lst xs)) (q : Q (.bl true) H) : rIsi K [.ref a, .ty "list"] H Q := ⟨_, _, _, _, true, rfl, .ty _, .base (.lst h), kit_ty (by decide +kernel), q⟩
theorem rd_lidx {a : Addr} {l : List Nat} {x : Nat} (h : SqL K H a (l.map fun n : Nat => V.int (n : Int))) (hx : x ∈ l) (q : Q (.int ((l.idxOf x : Nat) : Int)) H) : rIndex K (.ref a) [.int (x : Int)] H Q := by
  have hlt := List.idxOf_lt_length_iff.mpr hx
  have hg : l[l.idxOf x]? = some x := by rw [List.getElem?_eq_getElem hlt, List.getElem_idxOf hlt]
  refine ⟨a, _, .int (x : Int), l.idxOf x, .int (x : Int), rfl, rfl, h, rfl, List.all_eq_true.mpr fun y hy => ?_, by rw [List.getElem?_map, hg]; rfl, beq_self_eq_true _, fun m z' hm hz => ?_, q⟩
  · obtain ⟨n, _, rfl⟩ := List.mem_map.mp hy
    rfl
  · rw [List.getElem?_map] at hz
    obtain ⟨n, hn, rfl⟩ := Option.map_eq_some_iff.mp hz
    show (((n : Nat) : Int) == ((x : Nat) : Int)) = false
    refine beq_eq_false_iff_ne.mpr fun e => ?_
    have e : n = x := by omega
    have := List.not_of_lt_findIdx (p := (· == x)) (xs := l) hm
    obtain ⟨h1, h2⟩ := List.getElem?_eq_some_iff.mp hn
    rw [h2, e] at this
    simp at this
/-- (v,) * k -/
theorem rd_tupk {l : Addr} {v : V} {k : Nat} (h : H l = some (.tup [v])) (k0 : 0 < k) (k1 : k ≤ 1000) (q : ∀ p H', Ex H H' → H' p = some (.tup (List.replicate k v)) → (H p = none ∨ p = l) → Q (.ref p) H') : oMulT K (.ref l) (.int (k : Int)) H Q := by
  rcases Nat.lt_or_ge 1 k with z | z
  · refine .inl ⟨l, (k : Int), [v], rfl, rfl, Evl.st_of h, (fun z => nomatch z), by omega, by omega, by show 1 ≤ 1000; decide, fun p hp => ?_⟩
    have e : (List.replicate ((k : Int)).toNat [v]).flatten = List.replicate k v := by
      rw [Int.toNat_natCast, List.flatten_replicate_singleton]
    rw [e]
    exact q p _ (Evl.Ex.new hp) upd_same (.inl hp)
  · obtain rfl : k = 1 := by omega
    exact .inr ⟨l, [v], rfl, rfl, Evl.st_of h, (fun z => nomatch z), q l H (Evl.Ex.refl H) h (.inr rfl)⟩
theorem rd_catT {l m : Addr} {xs : List V} {v : V} (h1 : H l = some (.tup xs)) (h2 : H m = some (.tup [v])) (hx : xs ≠ []) (c : xs.length + 1 ≤ sizeLine) (h : ∀ p, H p = none → Q (.ref p) (upd H p (.tup (xs ++ [v])))) : oAdd K (.ref l) (.ref m) H Q :=
  .inr (.inr (.inr ⟨l, m, xs, [v], rfl, rfl, Evl.st_of h1, Evl.st_of h2, hx, c, fun z => (nomatch z), fun _ => h⟩))
end
end AT

set_option Elab.async false
set_option linter.all false
set_option maxRecDepth 100000
set_option maxHeartbeats 4000000
/-! own words, fourteenth part: dicts whose keys are tuples that may hold tuples -/
namespace AT
open PySem PySem.Spec PyProof.Rows L2
mutual
/-- v is this key, by what is tracked -/
inductive NV : Hp → NestedKey → V → Prop
  | non {H : Hp} : NV H .none .non
  | int {H : Hp} (i : Int) : NV H (.num i) (.int i)
  | str {H : Hp} (x : Str) : NV H (.text x) (.str x)
  | tup {H : Hp} {b : Addr} {vs : List V} {ks : List NestedKey} : H b = some (.tup vs) → NVs H ks vs → NV H (.tup ks) (.ref b)
inductive NVs : Hp → List NestedKey → List V → Prop
  | nil {H : Hp} : NVs H [] []
  | cons {H : Hp} {k : NestedKey} {v : V} {ks : List NestedKey} {vs : List V} : NV H k v → NVs H ks vs → NVs H (k :: ks) (v :: vs)
end
mutual
theorem NV.ex {H H' : Hp} (e : ∀ b xs, H b = some (.tup xs) → H' b = some (.tup xs)) {k : NestedKey} {v : V} : NV H k v → NV H' k v
  | .non => .non
  | .int i => .int i
  | .str x => .str x
  | .tup h r => .tup (e _ _ h) (NVs.ex e r)
theorem NVs.ex {H H' : Hp} (e : ∀ b xs, H b = some (.tup xs) → H' b = some (.tup xs)) {ks : List NestedKey} {vs : List V} : NVs H ks vs → NVs H' ks vs
  | .nil => .nil
  | .cons h r => .cons (NV.ex e h) (NVs.ex e r)
end
mutual
theorem NV.is {P : Program} {w : World} {H : Hp} {h : Heap} (ok : HOk P w H h) {k : NestedKey} {v : V} {u : Value} : NV H k v → RelV v u → NestedIs h k u
  | .non, r => by
    obtain rfl : u = Value.none := r
    exact .none
  | .int i, r => by
    obtain ⟨t, rfl⟩ : ∃ t, u = Value.int i t := r
    exact .int i t
  | .str x, r => by
    obtain ⟨t, rfl⟩ : ∃ t, u = Value.str x t := r
    exact .text x t
  | .tup (b := b) (vs := vs) hb q, r => by
    obtain rfl : u = Value.ref b := r
    obtain ⟨_, its, rel, o, h1, h2, n, h3⟩ := (show ObjOk P w H h b (.tup vs) from ok b _ hb)
    exact .tup h1 h2 h3 (by rw [List.toList_toArray]; exact NVs.is ok q rel)
theorem NVs.is {P : Program} {w : World} {H : Hp} {h : Heap} (ok : HOk P w H h) {ks : List NestedKey} {vs : List V} {us : List Value} : NVs H ks vs → Vals vs us → NestedAll h ks us
  | .nil, r => by
    cases r
    exact .nil
  | .cons q qs, r => by
    cases r with
    | cons r1 r2 => exact .cons (NV.is ok q r1) (NVs.is ok qs r2)
end
section
variable {X : Cx}
theorem PC.or {op : CmpOp} {a b : Expr} {t t' : TE} (h : PC X op a b t) (h' : PC X op a b t') : PC X op a b fun σ H Q => t σ H Q ∨ t' σ H Q :=
  ⟨fun pins s σ H Q I q => q.elim (h.run pins s σ H Q I) (h'.run pins s σ H Q I)⟩
theorem PS.or {st : Stmt} {t t' : TS} (h : PS X st t) (h' : PS X st t') : PS X st fun D σ H => t D σ H ∨ t' D σ H :=
  ⟨fun pins s σ H D I q => q.elim (h.run pins s σ H D I) (h'.run pins s σ H D I)⟩
end
end AT

set_option Elab.async false
set_option linter.all false
set_option maxRecDepth 100000
set_option maxHeartbeats 4000000
/-! own words, fifteenth part: dicts whose keys are None, numbers and tuples together -/
namespace AT
open PySem PySem.Spec PyProof.Rows L2
abbrev KVV := List (NestedKey × Value × Value)
def entV (w : World) (x : NestedKey × Value × Value) : DictEntry := { hash := NestedKey.hash w x.1, key := x.2.1, val := x.2.2 }
/-- no text: the finding of texts goes another way -/
def NoStr (v : Value) : Prop := ∀ x t, v ≠ .str x t
structure KeyVl (h : Heap) (k : NestedKey) (v : Value) : Prop where
  is : NestedIs h k v
  d : k.depth ≤ 8
  n : NoStr v
def DictV (w : World) (h : Heap) (d : Addr) (xs : KVV) : Prop := ∃ o es ep, h.get? d = some o ∧ o.ExactDict ∧ o.data = .dict es ep ∧ es.toList = xs.map (entV w) ∧ (xs.map (·.1)).Nodup
section
variable {P : Program} {w : World} {A : Around} {E : Value → Shared → Prop} {s : Shared}
theorem entV_at {es : Array DictEntry} {xs : KVV} (he : es.toList = xs.map (entV w)) (j : Nat) : es[j]? = xs[j]?.map (entV w) := by
  rw [← Array.getElem?_toList, he, List.getElem?_map]
theorem idV_unique {xs : KVV} (hn : (xs.map (·.1)).Nodup) {i j : Nat} {k : NestedKey} {p q : Value × Value} (hi : xs[i]? = some (k, p)) (hj : xs[j]? = some (k, q)) : i = j := by
  have l1 := (List.getElem?_eq_some_iff.mp hi).1
  refine (List.getElem?_inj (l := xs.map (·.1)) (by rw [List.length_map]; exact l1) hn).mp ?_
  rw [List.getElem?_map, List.getElem?_map, hi, hj]
  rfl
theorem eqV {x y : NestedKey} {a b : Value} {Q : Bool → Shared → Prop} (hx : KeyVl s.heap x a) (hy : KeyVl s.heap y b) (hu : A.units + 8 < cLine) (q : Q (decide (x = y)) s) : wpAny (model P w) A (eqBool a b) Q E s := by
  have h1 := hx.d
  have h2 := hy.d
  exact eqAt_key x y A s _ _ hx.is hy.is (by omega) _ _ _ _ (by rw [← NestedKey.decide_eq]; exact q)
theorem tellV {k : NestedKey} {key : Value} {stored : List Value} {Q : Bool → Shared → Prop} (hk : KeyVl s.heap k key) (hst : ∀ v ∈ stored, ∃ k', KeyVl s.heap k' v) (q : Q false s) : wpAny (model P w) A (tableMayTell key stored) Q E s := by
  unfold tableMayTell
  split
  · exact wpAny_pure q
  · refine wpAny_bind (quiet_key k key 8 s hk.is hk.d A E _ ?_)
    simp only [Bool.not_true, Bool.false_eq_true, if_false]
    refine wpAny_bind ?_
    refine wpAny_forIn_list _ (fun rest r s' => s' = s ∧ r = (none, ()) ∧ ∀ v ∈ rest, ∃ k', KeyVl s.heap k' v) _ ?_ ?_ _ _ ⟨rfl, rfl, hst⟩
    · rintro x rest r s' ⟨rfl, rfl, hr⟩
      obtain ⟨k', hb⟩ := hr x List.mem_cons_self
      refine wpAny_bind (quiet_key k' x 8 s' hb.is hb.d A E _ ?_)
      simp only [Bool.not_true, Bool.false_eq_true, if_false]
      exact wpAny_pure ⟨rfl, rfl, fun v hv => hr v (List.mem_cons_of_mem _ hv)⟩
    · rintro r s' ⟨rfl, rfl, _⟩
      exact wpAny_pure q
/-- found so far -/
def FndV (xs : KVV) (k : NestedKey) (i : Nat) (hit : Option Nat) : Prop := (hit = none ∧ ∀ (j : Nat) p, j < i → xs[j]? ≠ some (k, p)) ∨ ∃ (j : Nat) (p : Value × Value), hit = some j ∧ j < i ∧ xs[j]? = some (k, p)
section
variable {d : Addr} {o : Obj} {es : Array DictEntry} {ep : Nat} {xs : KVV} {k : NestedKey} {key : Value} {Q : Option Nat → Shared → Prop}
abbrev plV (w : World) (es : Array DictEntry) (k : NestedKey) (i : Nat) : List Nat := (List.range' i (es.size - i)).filter fun i => (es[i]?.map (·.hash)) == some (NestedKey.hash w k)
theorem hasV (he : es.toList = xs.map (entV w)) {j : Nat} {p : Value × Value} (hj : xs[j]? = some (k, p)) : ((es[j]?.map (·.hash)) == some (NestedKey.hash w k)) = true := by
  rw [entV_at he j, hj]
  simp [entV]
/-- the next place of this hash -/
theorem nextV (he : es.toList = xs.map (entV w)) {i x : Nat} {rest : List Nat} {hit : Option Nat} (hr : x :: rest = plV w es k i) (hi : i ≤ es.size) (F : FndV xs k i hit) :
    x < es.size ∧ rest = plV w es k (x + 1) ∧ FndV xs k x hit ∧ ∃ k' u v, xs[x]? = some (k', u, v) ∧ es[x]? = some ⟨NestedKey.hash w k', u, v⟩ ∧ (k' ≠ k → FndV xs k (x + 1) hit) := by
  obtain ⟨hix, hxn, hpx, hskip, hrest⟩ := filter_range'_cons _ _ _ _ _ hr.symm
  have hlt : x < es.size := by omega
  have hsz : es.size = xs.length := by rw [← Array.length_toList, he, List.length_map]
  obtain ⟨⟨k', u, v⟩, hkv⟩ : ∃ y, xs[x]? = some y := ⟨xs[x]'(by rw [← hsz]; exact hlt), List.getElem?_eq_getElem _⟩
  have Fx : FndV xs k x hit := by
    rcases F with ⟨h0, hno⟩ | ⟨j, p, h1, hji, hj⟩
    · refine .inl ⟨h0, fun j p hjx hj => ?_⟩
      rcases Nat.lt_or_ge j i with h | h
      · exact hno j p h hj
      · have := hskip j h hjx
        rw [hasV he hj] at this
        cases this
    · exact .inr ⟨j, p, h1, by omega, hj⟩
  refine ⟨hlt, by rw [hrest]; show _ = List.filter _ _; congr 2; omega, Fx, k', u, v, hkv, by rw [entV_at he x, hkv]; rfl, fun ne => ?_⟩
  rcases Fx with ⟨h0, hno⟩ | ⟨j, p, h1, hjx, hj⟩
  · refine .inl ⟨h0, fun j p hjx hj => ?_⟩
    rcases Nat.lt_or_ge j x with h | h
    · exact hno j p h hj
    · obtain rfl : j = x := by omega
      rw [hkv] at hj
      exact ne (congrArg (fun z : NestedKey × Value × Value => z.1) (Option.some.inj hj))
  · exact .inr ⟨j, p, h1, by omega, hj⟩
theorem doneV (he : es.toList = xs.map (entV w)) {i : Nat} {hit : Option Nat} (hr : [] = plV w es k i) (F : FndV xs k i hit)
    (hnone : (∀ (j : Nat) p, xs[j]? ≠ some (k, p)) → Q none s) (hsome : ∀ (j : Nat) p, xs[j]? = some (k, p) → Q (some j) s) : Q hit s := by
  have hsz : es.size = xs.length := by rw [← Array.length_toList, he, List.length_map]
  rcases F with ⟨rfl, hno⟩ | ⟨j, p, rfl, _, hj⟩
  · refine hnone fun j p hj => ?_
    rcases Nat.lt_or_ge j i with h | h
    · exact hno j p h hj
    · have hl := (List.getElem?_eq_some_iff.mp hj).1
      have := List.filter_eq_nil_iff.mp hr.symm j (List.mem_range'_1.mpr ⟨h, by omega⟩)
      exact this (hasV he hj)
  · exact hsome j p hj
theorem walkV (hu : A.units + 8 < cLine) (hkey : KeyVl s.heap k key) (ho : s.heap.get? d = some o) (hd : o.data = .dict es ep) (he : es.toList = xs.map (entV w)) (his : ∀ x ∈ xs, KeyVl s.heap x.1 x.2.1) (hn : (xs.map (·.1)).Nodup)
    (hnone : (∀ (j : Nat) p, xs[j]? ≠ some (k, p)) → Q none s) (hsome : ∀ (j : Nat) p, xs[j]? = some (k, p) → Q (some j) s) :
    wpAny (model P w) A (dictWalkPlain d key (NestedKey.hash w k) es (placesWithHash es.size (fun i => es[i]?.map (·.hash)) (NestedKey.hash w k))) Q E s := by
  unfold dictWalkPlain
  refine wpAny_bind ?_
  refine wpAny_forIn_list _ (fun rest b s' => s' = s ∧ b = (none, ()) ∧ ∃ i, rest = plV w es k i ∧ i ≤ es.size ∧ FndV xs k i none) _ ?_ ?_ _ _
    ⟨rfl, rfl, 0, by rw [placesWithHash, List.range_eq_range', plV, Nat.sub_zero], Nat.zero_le _, .inl ⟨rfl, fun _ _ h => absurd h (Nat.not_lt_zero _)⟩⟩
  · rintro x rest b s' ⟨rfl, rfl, i, hr, hi, F⟩
    obtain ⟨hlt, hrest, Fx, k', u, v, hkv, hex, hstay⟩ := nextV he hr hi F
    have hib := his _ (List.mem_of_getElem? hkv)
    rw [hex]
    dsimp only
    by_cases hh : (NestedKey.hash w k' == NestedKey.hash w k) = true
    · rw [if_pos hh]
      refine wpAny_bind (wpAny_dictEpoch ho hd (wpAny_bind (eqV (x := k') (y := k) hib hkey hu (wpAny_bind (wpAny_dictEpoch ho hd ?_)))))
      show wpAny _ _ (if (ep != ep) = true then _ else _) _ E _
      rw [if_neg (by simp)]
      by_cases hkk : k' = k
      · rw [decide_eq_true hkk]
        subst hkk
        show wpAny _ _ (if true = true then _ else _) _ E _
        rw [if_pos rfl]
        exact wpAny_bind (wpAny_rule (wpAny_pure (wpAny_pure (hsome x _ hkv))))
      · rw [decide_eq_false hkk]
        show wpAny _ _ (if false = true then _ else _) _ E _
        rw [if_neg (by decide)]
        exact wpAny_bind (wpAny_rule (wpAny_pure ⟨rfl, rfl, x + 1, hrest, hlt, hstay hkk⟩))
    · rw [if_neg hh]
      refine wpAny_pure ⟨rfl, rfl, x + 1, hrest, hlt, hstay fun e => ?_⟩
      rw [e] at hh; simp at hh
  · rintro b s' ⟨rfl, rfl, i, hr, hi, F⟩
    exact wpAny_pure (doneV he hr F hnone hsome)
theorem wpIte {α : Type} {M : Model} {c : Prop} [Decidable c] {a b : Sem α} {Q : α → Shared → Prop} (h1 : c → wpAny M A a Q E s) (h2 : ¬ c → wpAny M A b Q E s) : wpAny M A (if c then a else b) Q E s := by
  by_cases h : c
  · rw [if_pos h]; exact h1 h
  · rw [if_neg h]; exact h2 h
theorem findV (hu : A.units + 8 < cLine) (hkey : KeyVl s.heap k key) (ho : s.heap.get? d = some o) (hd : o.data = .dict es ep) (he : es.toList = xs.map (entV w)) (his : ∀ x ∈ xs, KeyVl s.heap x.1 x.2.1) (hn : (xs.map (·.1)).Nodup)
    (hnone : (∀ (j : Nat) p, xs[j]? ≠ some (k, p)) → Q none s) (hsome : ∀ (j : Nat) p, xs[j]? = some (k, p) → Q (some j) s) :
    wpAny (model P w) A (dictFind d key (NestedKey.hash w k)) Q E s := by
  have hmem : ∀ e ∈ es, ∃ x ∈ xs, e = entV w x := by
    intro e hin
    have : e ∈ xs.map (entV w) := he ▸ Array.mem_toList_iff.mpr hin
    obtain ⟨x, hx, rfl⟩ := List.mem_map.mp this
    exact ⟨x, hx, rfl⟩
  have hany : ∀ a, key = .ref a → ¬ (es.any fun e => e.key == Value.ref a && e.hash != NestedKey.hash w k) = true := by
    rintro a rfl
    rw [← Array.any_toList, List.any_eq_true]
    rintro ⟨e, hin, hc⟩
    obtain ⟨x, hx, rfl⟩ := hmem e (Array.mem_toList_iff.mp hin)
    simp only [entV, Bool.and_eq_true, beq_iff_eq, bne_iff_ne, ne_eq] at hc
    obtain ⟨hxa, hne⟩ := hc
    have := (his x hx).is
    rw [hxa] at this
    exact hne (by rw [NestedIs.inj _ _ _ this hkey.is])
  have hst : ∀ v ∈ (placesWithHash es.size (fun i => es[i]?.map (·.hash)) (NestedKey.hash w k)).filterMap (fun i => es[i]?.map (·.key)), ∃ k', KeyVl s.heap k' v := by
    intro v hv
    obtain ⟨i, _, hi⟩ := List.mem_filterMap.mp hv
    cases hei : es[i]? with
    | none => rw [hei] at hi; cases hi
    | some e =>
      rw [hei] at hi
      obtain rfl : e.key = v := by simpa using hi
      obtain ⟨x, hx, rfl⟩ := hmem e (Array.mem_of_getElem? hei)
      exact ⟨x.1, his x hx⟩
  have hW := walkV (P := P) (E := E) (Q := Q) hu hkey ho hd he his hn hnone hsome
  by_cases hr : ∃ a, key = .ref a
  · obtain ⟨a, rfl⟩ := hr
    unfold dictFind
    try with_reducible refine wpAny_holding ?_
    refine wpAny_bind (wpAny_dictEntries ho hd ?_)
    dsimp only
    rw [if_neg (show ¬ ((Value.ref a :: (placesWithHash es.size (fun i => es[i]?.map (·.hash)) (NestedKey.hash w k)).filterMap (fun i => es[i]?.map (·.key))).all carriedByValue) = true by simp [carriedByValue])]
    rw [if_neg (hany a rfl)]
    clear hW
    by_cases hone : (((placesWithHash es.size (fun i => es[i]?.map (·.hash)) (NestedKey.hash w k)).filterMap (fun i => es[i]?.map (·.key))) == [Value.ref a]) = true <;>
    (first | rw [if_pos hone] | rw [if_neg hone]) <;> (first | refine wpAny_bind (wpAny_pure ?_) | refine wpAny_bind (tellV hkey hst ?_)) <;> (
    rw [if_neg (by simp)]
    refine wpAny_bind ?_
    refine wpAny_forIn_list _ (fun rest b s' => s' = s ∧ ∃ i hit, b = (none, hit) ∧ rest = plV w es k i ∧ i ≤ es.size ∧ FndV xs k i hit) _ ?_ ?_ _ _
      ⟨rfl, 0, none, rfl, by rw [placesWithHash, List.range_eq_range', plV, Nat.sub_zero], Nat.zero_le _, .inl ⟨rfl, fun _ _ h => absurd h (Nat.not_lt_zero _)⟩⟩
    · rintro x rest b s' ⟨rfl, i, hit, rfl, hr, hi, F⟩
      obtain ⟨hlt, hrest, Fx, k', u, v, hkv, hex, hstay⟩ := nextV he hr hi F
      have hib := his _ (List.mem_of_getElem? hkv)
      rw [hex]
      dsimp only
      by_cases hh : (NestedKey.hash w k' == NestedKey.hash w k) = true
      · rw [if_pos hh]
        refine wpAny_bind (wpAny_dictEpoch ho hd (wpAny_bind (eqV (x := k') (y := k) hib hkey hu (wpAny_bind (wpAny_dictEpoch ho hd ?_)))))
        show wpAny _ _ (if (ep != ep) = true then _ else _) _ E _
        rw [if_neg (by simp)]
        by_cases hkk : k' = k
        · rw [decide_eq_true hkk]
          subst hkk
          rcases Fx with ⟨rfl, _⟩ | ⟨j, p, _, hjx, hj⟩
          · first | rw [if_pos rfl] | skip
            simp only [Option.isSome_none, Bool.false_eq_true, if_false]
            first | refine wpAny_bind (wpAny_pure ?_) | skip
            refine wpAny_bind (wpAny_rule ?_)
            split
            · exact wpAny_pure (wpAny_pure (hsome x _ hkv))
            · exact wpAny_pure ⟨rfl, x + 1, some x, rfl, hrest, hlt, .inr ⟨x, _, rfl, Nat.lt_succ_self x, hkv⟩⟩
          · exact absurd (idV_unique hn hj hkv) (by omega)
        · rw [decide_eq_false hkk]
          simp only [Bool.false_eq_true, if_false]
          refine wpAny_bind (wpAny_rule ?_)
          first | rw [if_neg (by simp)] | skip
          first
            | exact wpAny_pure ⟨rfl, x + 1, hit, rfl, hrest, hlt, hstay hkk⟩
            | exact wpAny_bind (wpAny_pure (wpAny_pure ⟨rfl, x + 1, hit, rfl, hrest, hlt, hstay hkk⟩))
      · rw [if_neg hh]
        refine wpAny_pure ⟨rfl, x + 1, hit, rfl, hrest, hlt, hstay fun e => ?_⟩
        rw [e] at hh; simp at hh
    · rintro b s' ⟨rfl, i, hit, rfl, hr, hi, F⟩
      exact wpAny_pure (doneV he hr F hnone hsome))
  · by_cases hall : ((key :: (placesWithHash es.size (fun i => es[i]?.map (·.hash)) (NestedKey.hash w k)).filterMap (fun i => es[i]?.map (·.key))).all carriedByValue) = true
    · unfold dictFind
      try with_reducible refine wpAny_holding ?_
      refine wpAny_bind (wpAny_dictEntries ho hd ?_)
      cases key with
      | str x t => exact absurd rfl (hkey.n x t)
      | ref a => exact absurd ⟨a, rfl⟩ hr
      | _ =>
        dsimp only
        rw [if_pos hall]
        exact hW
    · clear hW
      unfold dictFind
      try with_reducible refine wpAny_holding ?_
      refine wpAny_bind (wpAny_dictEntries ho hd ?_)
      cases key with
      | str x t => exact absurd rfl (hkey.n x t)
      | ref a => exact absurd ⟨a, rfl⟩ hr
      | _ =>
        dsimp only
        rw [if_neg hall]
        refine wpIte (fun _ => wpAny_bind (wpAny_pure ?_)) (fun _ => wpAny_bind (tellV hkey hst ?_)) <;> (
    rw [if_neg (by simp)]
    refine wpAny_bind ?_
    refine wpAny_forIn_list _ (fun rest b s' => s' = s ∧ ∃ i hit, b = (none, hit) ∧ rest = plV w es k i ∧ i ≤ es.size ∧ FndV xs k i hit) _ ?_ ?_ _ _
      ⟨rfl, 0, none, rfl, by rw [placesWithHash, List.range_eq_range', plV, Nat.sub_zero], Nat.zero_le _, .inl ⟨rfl, fun _ _ h => absurd h (Nat.not_lt_zero _)⟩⟩
    · rintro x rest b s' ⟨rfl, i, hit, rfl, hr, hi, F⟩
      obtain ⟨hlt, hrest, Fx, k', u, v, hkv, hex, hstay⟩ := nextV he hr hi F
      have hib := his _ (List.mem_of_getElem? hkv)
      rw [hex]
      dsimp only
      by_cases hh : (NestedKey.hash w k' == NestedKey.hash w k) = true
      · rw [if_pos hh]
        refine wpAny_bind (wpAny_dictEpoch ho hd (wpAny_bind (eqV (x := k') (y := k) hib hkey hu (wpAny_bind (wpAny_dictEpoch ho hd ?_)))))
        show wpAny _ _ (if (ep != ep) = true then _ else _) _ E _
        rw [if_neg (by simp)]
        by_cases hkk : k' = k
        · rw [decide_eq_true hkk]
          subst hkk
          rcases Fx with ⟨rfl, _⟩ | ⟨j, p, _, hjx, hj⟩
          · first | rw [if_pos rfl] | skip
            simp only [Option.isSome_none, Bool.false_eq_true, if_false]
            first | refine wpAny_bind (wpAny_pure ?_) | skip
            refine wpAny_bind (wpAny_rule ?_)
            split
            · exact wpAny_pure (wpAny_pure (hsome x _ hkv))
            · exact wpAny_pure ⟨rfl, x + 1, some x, rfl, hrest, hlt, .inr ⟨x, _, rfl, Nat.lt_succ_self x, hkv⟩⟩
          · exact absurd (idV_unique hn hj hkv) (by omega)
        · rw [decide_eq_false hkk]
          simp only [Bool.false_eq_true, if_false]
          refine wpAny_bind (wpAny_rule ?_)
          first | rw [if_neg (by simp)] | skip
          first
            | exact wpAny_pure ⟨rfl, x + 1, hit, rfl, hrest, hlt, hstay hkk⟩
            | exact wpAny_bind (wpAny_pure (wpAny_pure ⟨rfl, x + 1, hit, rfl, hrest, hlt, hstay hkk⟩))
      · rw [if_neg hh]
        refine wpAny_pure ⟨rfl, x + 1, hit, rfl, hrest, hlt, hstay fun e => ?_⟩
        rw [e] at hh; simp at hh
    · rintro b s' ⟨rfl, i, hit, rfl, hr, hi, F⟩
      exact wpAny_pure (doneV he hr F hnone hsome))
end
end
section
variable {P : Program} {w : World} {A : Around} {E : Value → Shared → Prop} {s : Shared} {d : Addr} {xs : KVV} {k : NestedKey} {key : Value}
def atV (xs : KVV) (k : NestedKey) : Option (Value × Value) := (xs.find? fun x => decide (x.1 = k)).map (·.2)
theorem atV_none (h : ∀ (j : Nat) p, xs[j]? ≠ some (k, p)) : atV xs k = none := by
  have : (xs.find? fun x => decide (x.1 = k)) = none := by
    rw [List.find?_eq_none]
    intro x hx hk
    obtain ⟨j, hj⟩ := List.mem_iff_getElem?.mp hx
    exact h j x.2 (by rw [hj, ← of_decide_eq_true hk])
  rw [atV, this]; rfl
theorem atV_some (hn : (xs.map (·.1)).Nodup) {j : Nat} {p : Value × Value} (h : xs[j]? = some (k, p)) : atV xs k = some p := by
  obtain ⟨x, hx⟩ : ∃ x, (xs.find? fun x => decide (x.1 = k)) = some x := by
    cases e : xs.find? fun x => decide (x.1 = k) with
    | some x => exact ⟨x, rfl⟩
    | none => exact absurd (decide_eq_true rfl) (List.find?_eq_none.mp e _ (List.mem_of_getElem? h))
  have h0 := List.find?_some hx
  have h1 : x.1 = k := of_decide_eq_true h0
  obtain ⟨i, hi⟩ := List.mem_iff_getElem?.mp (List.mem_of_find?_eq_some hx)
  obtain ⟨x1, x2⟩ := x
  obtain rfl : x1 = k := h1
  have e := idV_unique hn hi h
  rw [e, h] at hi
  rw [atV, hx]
  exact congrArg (fun z : NestedKey × Value × Value => some z.2) (Option.some.inj hi).symm
theorem atV_out (h : atV xs k = none) : ∀ (j : Nat) p, xs[j]? ≠ some (k, p) := fun j p hj => by
  have h' : (xs.find? fun x => decide (x.1 = k)) = none := by
    cases e : xs.find? fun x => decide (x.1 = k) with
    | none => rfl
    | some x => rw [atV, e] at h; cases h
  exact List.find?_eq_none.mp h' _ (List.mem_of_getElem? hj) (decide_eq_true rfl)
theorem DictV.typeIs (hm : DictV w s.heap d xs) : s.TypeIs (.ref d) "dict" := let ⟨o, _, _, ho, hc, _⟩ := hm; ⟨o, ho, hc.1⟩
theorem getV_ {Q : Option Value → Shared → Prop} (hu : A.units + 8 < cLine) (hkey : KeyVl s.heap k key) (hm : DictV w s.heap d xs) (his : ∀ x ∈ xs, KeyVl s.heap x.1 x.2.1)
    (h : Q ((atV xs k).map (·.2)) { s with toks := s.toks + k.draws }) : wpAny (model P w) A (dictGet d key) Q E s := by
  obtain ⟨o, es, ep, ho, _, hd, he, hn⟩ := hm
  have hdp := hkey.d
  unfold dictGet
  try with_reducible refine wpAny_holding ?_
  refine wpAny_bind (pyHash_key k key A s _ hkey.is (by omega) (wpAny_bind (findV (s := { s with toks := s.toks + k.draws }) hu hkey ho hd he his hn ?_ ?_)))
  · intro hno
    rw [atV_none hno] at h
    exact wpAny_pure h
  · intro j p hj
    rw [atV_some hn hj] at h
    refine wpAny_bind (wpAny_dictEntries (s := { s with toks := s.toks + k.draws }) ho hd ?_)
    rw [entV_at he j, hj]
    exact wpAny_pure h
/-- d[k] = v, k new -/
theorem setV_ {v : Value} {Q : Unit → Shared → Prop} (hu : A.units + 8 < cLine) (hkey : KeyVl s.heap k key) (hm : DictV w s.heap d xs) (his : ∀ x ∈ xs, KeyVl s.heap x.1 x.2.1) (hno : atV xs k = none)
    (hQ : ∀ h', DictV w h' d (xs ++ [(k, key, v)]) → Heap.SameBut d s.heap h' → Q () { s with heap := h', toks := s.toks + k.draws })
    (hsz : xs.length ≤ sizeLine) : wpAny (model P w) A (dictSet d key v) Q E s := by
  obtain ⟨o, es, ep, ho, hc, hd, he, hn⟩ := hm
  have hdp := hkey.d
  have hsize : es.size = xs.length := by rw [← Array.length_toList, he, List.length_map]
  have hno := atV_out hno
  unfold dictSet
  try with_reducible refine wpAny_holding ?_
  refine wpAny_bind (pyHash_key k key A s _ hkey.is (by omega) ?_)
  unfold dictSetHashed
  try with_reducible refine wpAny_holding ?_
  refine wpAny_bind (findV (s := { s with toks := s.toks + k.draws }) hu hkey ho hd he his hn ?_ ?_)
  · intro _
    refine wpAny_bind (wpAny_rule (wpAny_updateDictKeys (hz := by omega) (s := { s with toks := s.toks + k.draws }) ho hd (hQ _ ⟨_, _, ep + 1, Heap.get?_update_self _ ho (Obj.isFreed_of_dict (Obj.data_mapDictKeys hd _)),
      hc.mapDictKeys _, Obj.data_mapDictKeys hd _, ?_, ?_⟩ (Heap.SameBut.update ..))))
    · simp [he, entV]
    · rw [List.map_append, List.nodup_append]
      refine ⟨hn, by simp, ?_⟩
      intro x hx y hy
      simp only [List.map_cons, List.map_nil, List.mem_singleton] at hy
      subst hy
      rintro rfl
      obtain ⟨p, hp, rfl⟩ := List.mem_map.mp hx
      obtain ⟨j, hj⟩ := List.mem_iff_getElem?.mp hp
      exact hno j p.2 (by rw [hj])
  · intro j p hj
    exact absurd hj (hno j p)
theorem getItemV {v : Value} {Q : Value → Shared → Prop} (hu : A.units + 9 < cLine) (hkey : KeyVl s.heap k key) (hm : DictV w s.heap d xs) (his : ∀ x ∈ xs, KeyVl s.heap x.1 x.2.1) (hp : (atV xs k).map (·.2) = some v)
    (h : Q v { s with toks := s.toks + k.draws }) : wpAny (model P w) A (getItem (.ref d) key) Q E s := by
  have hu1 : A.in1.units + 8 < cLine := by show A.units + 1 + 8 < cLine; omega
  unfold getItem
  try with_reducible refine wpAny_holding ?_
  refine wpAny_bind (wpAny_sequenceKey hm.typeIs (by decide) ?_)
  refine wpAny_bind (wpAny_callSpecial?_slot (name := Str.ofString "__getitem__") hm.typeIs slot_dict_getitem
    (wpAny_call_entry slot_dict_getitem hm.typeIs entry_dict_getitem ?_ (args_dict_getitem _ _)))
  show wpAny _ _ (dictGet d key >>= _) _ _ s
  refine wpAny_bind (getV_ hu1 hkey hm his ?_)
  rw [hp]
  exact wpAny_pure ⟨v, rfl, wpAny_pure h⟩
theorem containsV {Q : Bool → Shared → Prop} (hu : A.units + 9 < cLine) (hkey : KeyVl s.heap k key) (hd : (d == sysModules) = false) (hm : DictV w s.heap d xs) (his : ∀ x ∈ xs, KeyVl s.heap x.1 x.2.1)
    (h : Q (atV xs k).isSome { s with toks := s.toks + k.draws }) : wpAny (model P w) A (contains (.ref d) key) Q E s := by
  have hu1 : A.in1.units + 8 < cLine := by show A.units + 1 + 8 < cLine; omega
  unfold contains
  try with_reducible refine wpAny_holding ?_
  refine wpAny_bind (wpAny_specialOf hm.typeIs slot_dict_contains.lookup ?_)
  show wpAny _ _ (if (some (Value.builtin "dict.__contains__") == some Value.none) = true then _ else _) _ E s
  rw [if_neg (by rw [beq_builtin_none]; exact Bool.false_ne_true)]
  refine wpAny_bind (wpAny_callSpecialUnlessNone?_slot (name := Str.ofString "__contains__") hm.typeIs slot_dict_contains
    (wpAny_call_entry slot_dict_contains hm.typeIs entry_dict_contains ?_ (args_dict_contains _ _)))
  show wpAny _ _ (dictGet d key >>= _) _ _ s
  refine wpAny_bind (getV_ hu1 hkey hm his ?_)
  cases hf : atV xs k with
  | some p =>
    rw [hf] at h
    show wpAny _ _ (ret (.bool true)) _ _ _
    exact wpAny_pure ⟨_, rfl, wpAny_truthy_bool h⟩
  | none =>
    rw [hf] at h
    show wpAny _ _ (Builtin.Dict.pendingKey? d key >>= _) _ _ _
    exact wpAny_bind (wpAny_pendingKey_other hd (wpAny_pure ⟨_, rfl, wpAny_truthy_bool h⟩))
theorem notInV {Q : Value → Shared → Prop} (hu : A.units + 9 < cLine) (hkey : KeyVl s.heap k key) (hd : (d == sysModules) = false) (hm : DictV w s.heap d xs) (his : ∀ x ∈ xs, KeyVl s.heap x.1 x.2.1)
    (h : Q (.bool (!(atV xs k).isSome)) { s with toks := s.toks + k.draws }) : wpAny (model P w) A (compareOp .NotIn key (.ref d)) Q E s := by
  show wpAny _ _ (do return .bool (!(← contains (.ref d) key))) Q E s
  exact wpAny_bind (containsV hu hkey hd hm his (wpAny_pure h))
theorem setItemV {v : Value} {Q : Unit → Shared → Prop} (hu : A.units + 9 < cLine) (hkey : KeyVl s.heap k key) (hm : DictV w s.heap d xs) (his : ∀ x ∈ xs, KeyVl s.heap x.1 x.2.1) (hno : atV xs k = none)
    (hQ : ∀ h', DictV w h' d (xs ++ [(k, key, v)]) → Heap.SameBut d s.heap h' → Q () { s with heap := h', toks := s.toks + k.draws }) (hsz : xs.length ≤ sizeLine) :
    wpAny (model P w) A (setItem (.ref d) key v) Q E s := by
  have hu1 : A.in1.units + 8 < cLine := by show A.units + 1 + 8 < cLine; omega
  unfold setItem
  try with_reducible refine wpAny_holding ?_
  refine wpAny_bind (wpAny_sequenceKey hm.typeIs (by decide) ?_)
  refine wpAny_bind (wpAny_callSpecial?_slot (name := Str.ofString "__setitem__") hm.typeIs slot_dict_setitem
    (wpAny_call_entry slot_dict_setitem hm.typeIs entry_dict_setitem ?_ (args_dict_setitem _ _ _)))
  show wpAny _ _ (Builtin.Dict.notOrdered "__setitem__" ⟨[.ref d, key, v], []⟩ >>= _) _ _ s
  refine wpAny_bind (wpAny_notOrdered_dict hm.typeIs ?_)
  show wpAny _ _ (dictSet d key v >>= _) _ _ s
  exact wpAny_bind (setV_ hu1 hkey hm his hno (fun h' hm' hs' => wpAny_pure ⟨.none, rfl, wpAny_pure (hQ h' hm' hs')⟩) hsz)
end
/-! the object, by what is tracked -/
/-- v is the key k -/
structure KyN (H : Hp) (k : NestedKey) (v : V) : Prop where
  nv : NV H k v
  d : k.depth ≤ 8
  n : ∀ x, v ≠ .str x
theorem KyN.ex {H H' : Hp} {k : NestedKey} {v : V} (h : KyN H k v) (e : ∀ b xs, H b = some (.tup xs) → H' b = some (.tup xs)) : KyN H' k v := ⟨h.nv.ex e, h.d, h.n⟩
theorem KyN.is {P : Program} {w : World} {H : Hp} {h : Heap} {k : NestedKey} {v : V} {u : Value} (q : KyN H k v) (ok : HOk P w H h) (r : RelV v u) : KeyVl h k u := by
  refine ⟨q.nv.is ok r, q.d, fun x t e => ?_⟩
  subst e
  have hv := q.nv
  have hn := q.n
  cases hv with
  | non => cases (show Value.str x t = Value.none from r)
  | int i =>
    obtain ⟨t', e⟩ : ∃ t', Value.str x t = Value.int i t' := r
    cases e
  | str y => exact hn y rfl
  | tup h1 h2 => cases (show Value.str x t = Value.ref _ from r)
abbrev KA := List (NestedKey × V × V)
def KX (kvs : KA) (xs : KVV) : Prop := Paired (fun p q => p.1 = q.1 ∧ RelV p.2.1 q.2.1 ∧ RelV p.2.2 q.2.2) kvs xs
/-- a dict whose keys are None, numbers, tuples that may hold tuples -/
def dN (w : World) (a : Addr) (kvs : KA) : HO := .ext fun h => kvs.length ≤ sizeLine ∧ (a == sysModules) = false ∧ ∃ xs, KX kvs xs ∧ DictV w h a xs
def KsN (H : Hp) (kvs : KA) : Prop := ∀ p ∈ kvs, KyN H p.1 p.2.1
theorem KsN.ex {H H' : Hp} {kvs : KA} (h : KsN H kvs) (e : ∀ b xs, H b = some (.tup xs) → H' b = some (.tup xs)) : KsN H' kvs := fun p hp => (h p hp).ex e
def valN : KA → NestedKey → Option V
  | [], _ => none
  | p :: kvs, k => if p.1 = k then some p.2.2 else valN kvs k
section
variable {P : Program} {w : World} {H : Hp} {h : Heap} {a : Addr} {kvs : KA}
theorem KX.val {xs : KVV} (r : KX kvs xs) (k : NestedKey) : RelO (valN kvs k) ((atV xs k).map (·.2)) := by
  induction r with
  | nil => exact True.intro
  | @cons p q ps qs hq t ih =>
    obtain ⟨h1, h2, h3⟩ := hq
    unfold valN
    by_cases e : p.1 = k
    · rw [if_pos e]
      have e2 : q.1 = k := by rw [← h1]; exact e
      have : atV (q :: qs) k = some q.2 := by simp [atV, e2]
      rw [this]
      exact h3
    · rw [if_neg e]
      have e2 : ¬ q.1 = k := by rw [← h1]; exact e
      have : atV (q :: qs) k = atV qs k := by simp [atV, e2]
      rw [this]
      exact ih
theorem KX.mem {xs : KVV} (r : KX kvs xs) (ks : KsN H kvs) (ok : HOk P w H h) : ∀ x ∈ xs, KeyVl h x.1 x.2.1 := by
  unfold KsN at ks
  induction r with
  | nil => intro x hx; cases hx
  | @cons p q ps qs hq t ih =>
    intro x hx
    rcases List.mem_cons.mp hx with e | hx
    · rw [e, ← hq.1]
      exact (ks p List.mem_cons_self).is ok hq.2.1
    · exact ih (fun y hy => ks y (List.mem_cons_of_mem _ hy)) x hx
theorem dN_of (ok : HOk P w H h) (e : H a = some (dN w a kvs)) (ks : KsN H kvs) : kvs.length ≤ sizeLine ∧ (a == sysModules) = false ∧ ∃ xs, KX kvs xs ∧ DictV w h a xs ∧ ∀ x ∈ xs, KeyVl h x.1 x.2.1 := by
  obtain ⟨z, y, xs, r, dd⟩ := (show ObjOk P w H h a (dN w a kvs) from ok a _ e).1
  exact ⟨z, y, xs, r, dd, r.mem ks ok⟩
theorem dN_ok {xs : KVV} (z : kvs.length ≤ sizeLine) (hd : (a == sysModules) = false) (r : KX kvs xs) (dd : DictV w h a xs) : ObjOk P w H h a (dN w a kvs) := by
  refine ⟨⟨z, hd, xs, r, dd⟩, let ⟨o, _, _, h1, _⟩ := dd; ⟨o, h1⟩, fun g1 g2 x k => ?_⟩
  obtain ⟨z, y, xs, r, o, es, ep, h1, h2, h3, h4, h5⟩ := x
  exact ⟨z, y, xs, r, o, es, ep, k _ h1, h2, h3, h4, h5⟩
theorem dN_new {h : Heap} (hb : sysModules < h.objs.size) : ObjOk P w H (h.push { cls := .type "dict", data := .dict #[] }) h.objs.size (dN w h.objs.size []) := by
  obtain ⟨o, es, ep, h1, h2, h3, h4, _, h5⟩ := Heap.DictOfH.new (knd := nestedKind P w) h
  exact dN_ok (Nat.zero_le _) (beq_eq_false_iff_ne.mpr (Ne.symm (Nat.ne_of_lt hb))) .nil ⟨o, es, ep, h1, h2, h3, by rw [h4]; rfl, h5⟩
end
/-- what is asked of the dict and of the key -/
def AtN (w : World) (H : Hp) (a : Addr) (kvs : KA) (y : V) (k : NestedKey) : Prop := H a = some (dN w a kvs) ∧ KsN H kvs ∧ KyN H k y
/-- in a dict of ints, texts, flat tuples, or of keys of any kind -/
def DGX (w : World) (H : Hp) (a : Addr) (y : V) (r : Option V) : Prop := DGet H a y r ∨ ∃ kvs k, AtN w H a kvs y k ∧ r = valN kvs k
def DPX (w : World) (H : Hp) (a : Addr) (y v : V) (H' : Hp) : Prop := DPut H a y v H' ∨ ∃ kvs k, AtN w H a kvs y k ∧ valN kvs k = none ∧ kvs.length < sizeLine ∧ H' = upd H a (dN w a (kvs ++ [(k, y, v)]))
def tDGetX (w : World) (td ty : TE) : TE := fun σ H Q => td σ H fun x H1 => ty σ H1 fun y H2 => ∃ a v, x = .ref a ∧ DGX w H2 a y (some v) ∧ Q v H2
def tDNotInX (w : World) (ty td : TE) : TE := fun σ H Q => ty σ H fun y H1 => td σ H1 fun x H2 => ∃ a o, x = .ref a ∧ DGX w H2 a y o ∧ Q (.bl (!o.isSome)) H2
def sDPutX (w : World) (td ty tv : TE) : TS := fun D σ H => tv σ H fun v H1 => td σ H1 fun x H2 => ty σ H2 fun y H3 => ∃ a H4, x = .ref a ∧ DPX w H3 a y v H4 ∧ D.nx σ H4
/-- {k: v}, k a tuple -/
def tDisp1N (w : World) (tk tv : TE) : TE := fun σ H Q => ∀ p, H p = none → tk σ (upd H p (dN w p [])) fun x H1 => tv σ H1 fun y H2 => H2 p = some (dN w p []) ∧ ∃ (b : Addr) (k : NestedKey), x = .ref b ∧ KyN H2 k (.ref b) ∧ Q (.ref p) (upd H2 p (dN w p [(k, .ref b, y)]))
def tDNewN (w : World) : TE := fun _ H Q => ∀ p, H p = none → Q (.ref p) (upd H p (dN w p []))
section
variable {X : Cx} {i o e value k v : Expr} {pos pos' : Pos} {td ty tv tk : TE} (w : World) (hw : X.w = w := by rfl)
include hw
theorem pe_dgetX (hu : X.A.units + 40 < cLine) (ho : PE X o td) (hi : PE X i ty) (hs : NoSl i) : PE X (.Subscript o i pos) (tDGetX w td ty) := by
  subst hw
  refine ⟨fun pins s σ H Q I h => ?_⟩
  refine subD_of PySem.F.slot_dict_getitem.lookup hs (thn (ho.run pins s σ H _ I h) fun u s1 ⟨x, H1, I1, rx, q1⟩ => thn (hi.run pins s1 σ H1 _ I1 q1) fun iv s2 ⟨y, H2, I2, ry, a, v, ex, g, q2⟩ => ?_)
  subst ex
  obtain rfl : u = Value.ref a := rx
  rcases g with g | ⟨kvs, k, ⟨e, ks, kb⟩, hv⟩
  · exact ⟨dict_typeIs I2 g, d_getItem (by omega) I2 g ry fun w' s3 I3 rw' => ⟨v, H2, I3, rw', q2⟩⟩
  obtain ⟨z, hd, xs, rel, dd, his⟩ := dN_of I2.hok e ks
  obtain ⟨w', hw, rw'⟩ := RelO.some_of (v := v) (o := (atV xs k).map (·.2)) (by rw [hv]; exact rel.val k)
  exact ⟨dd.typeIs, getItemV (by omega) (kb.is I2.hok ry) dd his hw ⟨v, H2, I2.tok _, rw', q2⟩⟩
theorem pc_dnotinX (hu : X.A.units + 40 < cLine) (hi : PE X i ty) (ho : PE X o td) : PC X .NotIn i o (tDNotInX w ty td) := by
  subst hw
  refine ⟨fun pins s σ H Q I h => ?_⟩
  refine thn (hi.run pins s σ H _ I h) fun iv s1 ⟨y, H1, I1, ry, q1⟩ => thn (ho.run pins s1 σ H1 _ I1 q1) fun u s2 ⟨x, H2, I2, rx, a, ov, ex, g, q2⟩ => ?_
  subst ex
  obtain rfl : u = Value.ref a := rx
  rcases g with g | ⟨kvs, k, ⟨e, ks, kb⟩, hv⟩
  · exact d_notIn (by omega) I2 g ry fun s3 I3 => ⟨.bl (!ov.isSome), H2, I3, rfl, q2⟩
  obtain ⟨z, hd, xs, rel, dd, his⟩ := dN_of I2.hok e ks
  refine notInV (by omega) (kb.is I2.hok ry) hd dd his ?_
  have q := (rel.val k).isSome_eq
  rw [Option.isSome_map, ← hv] at q
  rw [← q]
  exact ⟨.bl (!ov.isSome), H2, I2.tok _, rfl, q2⟩
theorem ps_dputX (hu : X.A.units + 40 < cLine) (ho : PE X o td) (hi : PE X i ty) (hv : PE X value tv) (hs : swapsWith value (some (.Subscript o i pos')) pos.line X.env = pure false) :
    PS X (.Assign [.Subscript o i pos'] value pos) (sDPutX w td ty tv) := by
  subst hw
  refine ⟨fun pins s σ H D I h => ?_⟩
  refine wpAny_Assign_Subscript (thn (hv.run pins s σ H _ I h) fun r s1 ⟨v, H1, I1, rv, q1⟩ => thn (ho.run pins s1 σ H1 _ I1 q1) fun u s2 ⟨x, H2, I2, rx, q2⟩ => thn (hi.run pins s2 σ H2 _ I2 q2) fun iv s3 ⟨y, H3, I3, ry, a, H4, ex, g, q3⟩ => ?_) hs
  subst ex
  obtain rfl : u = Value.ref a := rx
  rcases g with g | ⟨kvs, k, ⟨e, ks, kb⟩, hn, hl, rfl⟩
  · exact d_setItem (by omega) I3 g ry rv fun s4 I4 => ⟨σ, H4, I4, q3⟩
  obtain ⟨z, hd, xs, rel, dd, his⟩ := dN_of I3.hok e ks
  have hz : xs.length ≤ sizeLine := by rw [← Paired.length rel]; exact z
  have hl2 : (kvs ++ [(k, y, v)]).length ≤ sizeLine := by rw [List.length_append, List.length_singleton]; omega
  have q := (rel.val k).isSome_eq
  rw [hn, Option.isSome_map] at q
  have hno : atV xs k = none := by
    cases e : atV xs k with
    | none => rfl
    | some p => rw [e] at q; cases q
  refine setItemV (by omega) (kb.is I3.hok ry) dd his hno (fun h' dd' hs => ?_) hz
  have he : ∃ q, h'.get? a = some q := let ⟨q, _, _, hq, _⟩ := dd'; ⟨q, hq⟩
  exact ⟨σ, _, d_write I3 (by rw [e]; exact True.intro) hs he (dN_ok hl2 hd (Paired.snoc rel ⟨rfl, ry, rv⟩) dd'), q3⟩
theorem pe_dnewN : PE X (.Dict [] [] pos) (tDNewN w) := by
  subst hw
  exact ⟨fun pins s σ H Q I h =>
    wpAny_Dict_empty ⟨.ref s.heap.objs.size, _, I.laid (a := s.heap.objs.size) (o := dN X.w s.heap.objs.size []) (t' := s.toks) (fun _ _ q => Heap.get?_push_of_some _ q) (Nat.le_refl _) (dN_new I.big), rfl, h _ (I.hok.fresh (Nat.le_refl _))⟩⟩
theorem pe_disp1N (hu : X.A.units + 40 < cLine) (hk : PE X k tk) (hv : PE X v tv) : PE X (.Dict [some k] [v] pos) (tDisp1N w tk tv) := by
  subst hw
  refine ⟨fun pins s σ H Q I q => ?_⟩
  have hn := I.hok.fresh (Nat.le_refl s.heap.objs.size)
  have I1 := I.laid (a := s.heap.objs.size) (o := dN X.w s.heap.objs.size []) (t' := s.toks) (fun _ _ z => Heap.get?_push_of_some _ z) (Nat.le_refl _) (dN_new I.big)
  have hz := zip_pairTrees [some k] [v] X.env pos rfl rfl
  have hl : (pairTrees [some k] [v] X.env pos).length = 1 := pairTrees_length [some k] [v] X.env pos rfl rfl
  have hne : pairTrees [some k] [v] X.env pos ≠ [] := fun z => by rw [z] at hl; cases hl
  have room : (nestedKind X.prog X.w).room X.A := by show X.A.units + 8 < cLine; omega
  rw [arm_eval_Dict, hz, dictDisplay_pairs _ hne (by rw [hl]; decide)]
  refine wpAny_bind (wpAny_standAt (wpAny_bind ?_))
  refine wpAny_subDictH (knd := nestedKind X.prog X.w) room (by rw [hl]; decide) ?_
  refine pairTrees_cons_walk (thn (hk.run pins _ σ _ _ I1 (q _ hn)) fun u s1 ⟨x, H1, I1', rx, q1⟩ => thn (hv.run pins s1 σ H1 _ I1' q1) fun w2 s2 ⟨y, H2, I2, ry, q2⟩ => pairTrees_nil_walk ?_)
  obtain ⟨e, b, ks, rfl, kb, q3⟩ := q2
  cases (show u = Value.ref b from rx)
  obtain ⟨z, hd, xs0, r0, dd, _⟩ := dN_of I2.hok e (fun p hp => nomatch hp)
  cases r0
  have kb2 := kb.is I2.hok (u := .ref b) rfl
  obtain ⟨o0, es0, ep0, d1, d2, d3, d4, d5⟩ := dd
  refine ⟨[(ks, b, w2)], ⟨rfl, rfl, ⟨kb2.is, kb2.d⟩, True.intro⟩, ⟨o0, es0, ep0, d1, d2, d3, by rw [d4]; rfl, (fun x hx => nomatch hx), List.nodup_nil⟩, fun h' tk dd' hs => wpAny_pure ⟨.ref s.heap.objs.size, _, ?_, rfl, q3⟩⟩
  have e1 : storedAllH [] [(ks, b, w2)] = [(ks, b, w2)] := rfl
  rw [e1] at dd'
  obtain ⟨o, es, ep, ho, h2, h3, h4, h5, h6⟩ := dd'
  exact d_write I2 (by rw [e]; exact True.intro) hs ⟨o, ho⟩ (dN_ok (xs := [(ks, .ref b, w2)]) (by show 1 ≤ sizeLine; decide) hd (.cons ⟨rfl, (rfl : Value.ref b = Value.ref b), ry⟩ .nil) ⟨o, es, ep, ho, h2, h3, by rw [h4]; rfl, h6⟩)
end
section
variable {w : World} {σ : L2.St} {H : Hp} {Q : VK} {td ty tv tk : TE} {D : Ends}
theorem rd_dgetX (h : td σ H fun x H1 => ty σ H1 fun y H2 => ∃ a v, x = .ref a ∧ DGX w H2 a y (some v) ∧ Q v H2) : tDGetX w td ty σ H Q := h
theorem rd_dninX (h : ty σ H fun y H1 => td σ H1 fun x H2 => ∃ a o, x = .ref a ∧ DGX w H2 a y o ∧ Q (.bl (!o.isSome)) H2) : tDNotInX w ty td σ H Q := h
theorem rd_dputX (h : tv σ H fun v H1 => td σ H1 fun x H2 => ty σ H2 fun y H3 => ∃ a H4, x = .ref a ∧ DPX w H3 a y v H4 ∧ D.nx σ H4) : sDPutX w td ty tv D σ H := h
theorem rd_disp1N (h : ∀ p, H p = none → tk σ (upd H p (dN w p [])) fun x H1 => tv σ H1 fun y H2 => H2 p = some (dN w p []) ∧ ∃ (b : Addr) (k : NestedKey), x = .ref b ∧ KyN H2 k (.ref b) ∧ Q (.ref p) (upd H2 p (dN w p [(k, .ref b, y)]))) : tDisp1N w tk tv σ H Q := h
end
theorem hu40 {k : Nat} {A : Around} (r : Room k A) : A.units + 40 < cLine := by have := r.un; omega
end AT

set_option Elab.async false
set_option linter.all false
set_option maxRecDepth 100000
set_option maxHeartbeats 4000000
/-! own words, sixteenth part: nested defs with cells of their own; sets made of lists of numbers -/
namespace AT
open PySem PySem.Spec PyProof.Rows L2 LamX NdefX
/-! ### a def within a def, some of whose parameters are captured in their turn -/
theorem cellsFrom_acc (cl : List (Str × Addr)) : ∀ (names : List (Str × NameKind)) (n : Nat) (a : List (Str × Addr)), cellsFrom n names (a ++ cl) = cellsFrom n names a ++ cl
  | [], _, _ => rfl
  | (x, k) :: r, n, a => by
    unfold cellsFrom
    split
    · exact cellsFrom_acc cl r (n + 1) ((x, n) :: a)
    · exact cellsFrom_acc cl r n a
theorem cellsFrom_cl (cl : List (Str × Addr)) (names : List (Str × NameKind)) (n : Nat) : cellsFrom n names cl = cellsFrom n names [] ++ cl := cellsFrom_acc cl names n []
theorem cellsFrom_mem' : ∀ {names : List (Str × NameKind)} {n : Nat} {a : List (Str × Addr)} {p : Str × Addr}, p ∈ cellsFrom n names a → p ∈ a ∨ (p.1, NameKind.cell) ∈ names
  | [], _, _, _, h => .inl h
  | (x, k) :: r, n, a, p, h => by
    unfold cellsFrom at h
    split at h
    · rename_i hk
      rcases cellsFrom_mem' h with z | z
      · rcases List.mem_cons.mp z with z | z
        · right
          rw [z, show k = .cell from eq_of_beq hk]
          exact List.mem_cons_self
        · exact .inl z
      · exact .inr (List.mem_cons_of_mem _ z)
    · rcases cellsFrom_mem' h with z | z
      · exact .inl z
      · exact .inr (List.mem_cons_of_mem _ z)
section
variable {M : Model} {A : Around} {E : Value → Shared → Prop} {s₀ s : Shared} {m cm : Str → Option Value} {env : Env} {cs : List (Str × Addr)}
/-- a parameter stored: an own local, or a cell of cs -/
theorem st_par (x : InCallC s₀ env.locals m cs cm s) (hk : env.scope.kind = .function) {n : Str} {v : Value} {Q : Unit → Shared → Prop} (hl : env.kindOf n = some .local ∨ (env.kindOf n = some .cell ∧ ∃ c, env.cells.lookup n = some c ∧ cs.lookup n = some c))
    (h : ∀ s', InCallC s₀ env.locals (if env.kindOf n = some .local then fun y => if y = n then some v else m y else m) cs (if env.kindOf n = some .local then cm else fun y => if y = n then some v else cm y) s' → Q () s') : wpAny M A (storeName env n v) Q E s := by
  obtain ⟨x1, x2, x3, x4⟩ := id x
  rcases hl with hl | ⟨hl, c, hc, hc2⟩
  · rw [if_pos hl, if_pos hl] at h
    refine wpAny_storeName_local hl x1.ns (fun h1 hn hb => h _ ⟨⟨?_, hn, fun b o e => ?_, x1.fresh⟩, fun k a ha => ?_, x3, x4⟩) (by rw [hk]; rfl)
    · obtain ⟨g, tk, rfl⟩ := x1.same
      exact ⟨h1, _, rfl⟩
    · have hlt := Nat.lt_of_lt_of_le (Heap.lt_size e) x1.fresh
      exact hb.extBut b o (Nat.ne_of_lt hlt) (x1.keep b o e)
    · have hlt := x4 k a (PySem.mem_of_lookup ha)
      exact (x2 k a ha).sameBut hb (Nat.ne_of_gt hlt)
  · have nl : ¬ env.kindOf n = some .local := by rw [hl]; decide
    rw [if_neg nl, if_neg nl] at h
    have hlt := x4 n c (PySem.mem_of_lookup hc2)
    refine wpAny_storeName_cell hk hl hc (x2 n c hc2) fun h1 hn hb => h _ ⟨⟨?_, x1.ns.sameBut hb (Nat.ne_of_lt hlt), fun b o e => ?_, x1.fresh⟩, fun k a ha => ?_, x3, x4⟩
    · obtain ⟨g, tk, rfl⟩ := x1.same
      exact ⟨h1, _, rfl⟩
    · have hl2 := Nat.lt_trans (Nat.lt_of_lt_of_le (Heap.lt_size e) x1.fresh) hlt
      exact hb.extBut b o (Nat.ne_of_lt hl2) (x1.keep b o e)
    · by_cases ek : k = n
      · rw [ek, hc2] at ha
        cases ha
        rw [ek, if_pos rfl]
        exact hn
      · rw [if_neg ek]
        refine (x2 k a ha).sameBut hb fun e => ek (name_of_addr x3 (PySem.mem_of_lookup ha) ?_)
        rw [e]
        exact PySem.mem_of_lookup hc2
theorem st_pars (f : Str × Value → PUnit → Sem (ForInStep PUnit)) (hf : ∀ n v u, f (n, v) u = (do storeName env n v; pure (.yield ⟨⟩))) (hk : env.scope.kind = .function) :
    ∀ (bs : List (Str × Value)) (m cm : Str → Option Value) (s : Shared) (Q : PUnit → Shared → Prop), InCallC s₀ env.locals m cs cm s → (∀ x ∈ bs, env.kindOf x.1 = some .local ∨ (env.kindOf x.1 = some .cell ∧ ∃ c, env.cells.lookup x.1 = some c ∧ cs.lookup x.1 = some c)) →
      (∀ s', InCallC s₀ env.locals (bindL env.kindOf bs m) cs (bindC env.kindOf bs cm) s' → Q ⟨⟩ s') → wpAny M A (forIn bs ⟨⟩ f) Q E s
  | [], m, cm, s, Q, x, _, h => by
    rw [List.forIn_nil]
    exact wpAny_pure (h s x)
  | (n, v) :: r, m, cm, s, Q, x, hl, h => by
    rw [List.forIn_cons, hf]
    refine wpAny_bind (wpAny_bind (st_par x hk (hl _ List.mem_cons_self) fun s1 x1 => wpAny_pure ?_))
    refine st_pars f hf hk r _ _ s1 Q x1 (fun y hy => hl y (List.mem_cons_of_mem _ hy)) fun s2 x2 => h s2 ?_
    unfold bindL bindC
    exact x2
end
section
variable {M : Model} {A : Around} {E : Value → Shared → Prop} {s : Shared}
theorem new_env_cl {scope : Scope} {globals : Addr} {cl : List (Str × Addr)} {bs : List (Str × Value)} {qual : Str} {func : Option Addr} {code : Value} {builtins : Addr} {Q : Env → Shared → Prop} (hk : scope.kind = .function)
    (hl : ∀ x ∈ bs, scope.names.lookup x.1 = some .local ∨ (scope.names.lookup x.1 = some .cell ∧ ∃ c, (cellsFrom (s.heap.objs.size + 1) scope.names []).lookup x.1 = some c))
    (hQ : ∀ s', InCallC s s.heap.objs.size (bindL (fun y => scope.names.lookup y) bs fun _ => none) (cellsFrom (s.heap.objs.size + 1) scope.names []) (bindC (fun y => scope.names.lookup y) bs fun _ => none) s' → Q (newEnv scope s.heap.objs.size globals (cellsFrom (s.heap.objs.size + 1) scope.names cl) qual func code none builtins) s') :
    wpAny M A (newFunctionEnv scope globals cl bs qual func code none builtins) Q E s := by
  simp only [newFunctionEnv, Option.isSome_none, Bool.false_eq_true, if_false]
  refine wpAny_bind (wpAny_alloc ?_)
  refine wpAny_bind (wpAny_layCells _ (fun name kind cells => by cases e : kind == NameKind.cell <;> simp [e]) _ _ _ _ ?_)
  have ez : ∀ o : Obj, ({ s with heap := s.heap.push o } : Shared).heap.objs.size = s.heap.objs.size + 1 := fun o => Heap.size_push ..
  have ok := cellsFrom_ok scope.names (s.heap.push { cls := .type "frame", data := .dict #[] }) (s.heap.objs.size + 1) [] ⟨fun _ _ z => (nomatch z), List.Pairwise.nil⟩ (Nat.le_of_eq (ez _).symm)
  rw [show (s.heap.push { cls := .type "frame", data := .dict #[] }).objs.size = s.heap.objs.size + 1 from ez _] at ok
  rw [ez]
  refine wpAny_bind (st_pars (s₀ := s) (cs := cellsFrom (s.heap.objs.size + 1) scope.names []) (env := newEnv scope s.heap.objs.size globals (cellsFrom (s.heap.objs.size + 1) scope.names cl) qual func code none builtins) _ (fun _ _ _ => rfl) hk bs (fun _ => none) (fun _ => none) _ _
    ⟨⟨⟨_, _, rfl⟩, (Heap.Ns.new s.heap (.type "frame")).keeps (pushCells_keeps _ _), fun b o e => pushCells_keeps _ _ b o (Heap.get?_push_of_some _ e), Nat.le_refl _⟩, fun n c hc => (ok.empty n c (PySem.mem_of_lookup hc)).1, ok.apart, fun n c z => (ok.empty n c z).2⟩
    (fun x hx => ?_) fun s' x => wpAny_pure (hQ s' x))
  rcases hl x hx with z | ⟨z, c, hc⟩
  · exact .inl z
  · refine .inr ⟨z, c, ?_, hc⟩
    show (cellsFrom (s.heap.objs.size + 1) scope.names cl).lookup x.1 = some c
    rw [cellsFrom_cl, List.lookup_append, hc]
    rfl
end
/-- its names: the parameters, then the captured ones, then its locals; some parameters are cells -/
structure NScopeC (N ps fr : List Str) (sc : Scope) : Prop where
  kind : sc.kind = .function
  co : sc.isCoroutine = false
  gen : sc.isGenerator = false
  nd : N.Nodup
  pre : N.take (ps.length + fr.length) = ps ++ fr
  par : ∀ x ∈ ps, sc.names.lookup x = some .local ∨ sc.names.lookup x = some .cell
  own : ∀ y ∈ sc.names, y.2 = .cell → y.1 ∈ ps
  free : ∀ y ∈ sc.names, y.2 = .free → y.1 ∈ fr
  frk : ∀ x ∈ fr, sc.names.lookup x = some .free
def nscCB (N ps fr : List Str) (sc : Scope) : Bool :=
  decide (sc.kind = .function) && (!sc.isCoroutine && (!sc.isGenerator && (decide N.Nodup && (decide (N.take (ps.length + fr.length) = ps ++ fr) && (ps.all (fun x => decide (sc.names.lookup x = some .local) || decide (sc.names.lookup x = some .cell)) &&
    (sc.names.all (fun y => !decide (y.2 = .cell) || decide (y.1 ∈ ps)) && (sc.names.all (fun y => !decide (y.2 = .free) || decide (y.1 ∈ fr)) && fr.all (fun x => decide (sc.names.lookup x = some .free)))))))))
theorem nscopeC_by {N ps fr : List Str} {sc : Scope} (h : nscCB N ps fr sc = true) : NScopeC N ps fr sc := by
  unfold nscCB at h
  simp only [Bool.and_eq_true, Bool.not_eq_true', decide_eq_true_eq, List.all_eq_true, Bool.or_eq_true, decide_eq_false_iff_not] at h
  obtain ⟨h1, h2, h3, h4, h5, h6, h7, h8, h9⟩ := h
  exact ⟨h1, h2, h3, h4, h5, h6, fun y hy e => (h7 y hy).elim (fun z => absurd e z) id, fun y hy e => (h8 y hy).elim (fun z => absurd e z) id, h9⟩
abbrev envFC (F : NF) (f L : Addr) : Env := PySem.W.envX F.qual F.scope L f (.ref F.c) (cellsFrom (L + 1) F.scope.names F.cl)
def ncxC (CX : CXT) (P : Program) (w : World) (K : PySem.W.Frag) (mg : Str → Option Value) (base : Heap) (N : List Str) (F : NF) (f : Addr) (A : Around) (outer : List Env) (s : Shared) (H : Hp) (E : XK) : Cx :=
  { ncx CX P w K mg base N F f A outer s H E with
    A := A.deeper (envFC F f s.heap.objs.size), env := envFC F f s.heap.objs.size, stack := envFC F f s.heap.objs.size :: outer,
    xe := fun e s' => wpAny (model P w) (A.deeper (envFC F f s.heap.objs.size)) (leaving (envFC F f s.heap.objs.size) e) (fun _ s'' => CX outer H s E e s'') (fun e' s'' => CX outer H s E e' s'') s' }
section
variable {CX : CXT} {P : Program} {w : World} {K : PySem.W.Frag} {mg : Str → Option Value} {base : Heap} {N ps fr : List Str} {F : NF} {f : Addr} {A : Around} {outer : List Env} {s s1 : Shared} {H : Hp} {E : XK} {us : List Value} {vs : List V} {ws : List (Option V)}
theorem inv_startC (S : NScopeC N ps fr F.scope) (hd : A.handled = none) (e0 : Env0 P w K mg base A outer s H) (hl : vs.length = ps.length) (r : Vals vs us) (C : CellsAt F.cl fr ws s.heap H)
    (x : InCallC s s.heap.objs.size (bindL (fun y => F.scope.names.lookup y) (ps.zip us) fun _ => none) (cellsFrom (s.heap.objs.size + 1) F.scope.names []) (bindC (fun y => F.scope.names.lookup y) (ps.zip us) fun _ => none) s1) :
    Inv (ncxC CX P w K mg base N F f A outer s H E) [] (startF N vs ws) H s1 := by
  obtain ⟨h₁, tk, rfl, kp⟩ := x.done
  have hpl : ps.length + fr.length ≤ N.length := by
    have q := congrArg List.length S.pre
    rw [List.length_take, List.length_append] at q
    omega
  have noA : ∀ b : Addr, b ∉ (ncxC CX P w K mg base N F f A outer s H E).ex := fun b z => absurd (show b ∈ ([] : List Addr) from z) (by simp)
  have cellK : ∀ {c : Addr} {v : Option Value}, s.heap.IsCell c v → h₁.IsCell c v := fun {c v} ⟨o, ho, hd⟩ => ⟨o, kp _ _ ho, hd⟩
  have look : ∀ y, (cellsFrom (s.heap.objs.size + 1) F.scope.names F.cl).lookup y = ((cellsFrom (s.heap.objs.size + 1) F.scope.names []).lookup y).or (F.cl.lookup y) := fun y => by rw [cellsFrom_cl, List.lookup_append]
  have cut : ∀ {y c}, (cellsFrom (s.heap.objs.size + 1) F.scope.names F.cl).lookup y = some c → (cellsFrom (s.heap.objs.size + 1) F.scope.names []).lookup y = some c ∨ (F.cl.lookup y = some c) := fun {y c} e => by
    rw [look] at e
    cases z : (cellsFrom (s.heap.objs.size + 1) F.scope.names []).lookup y with
    | none => rw [z] at e; exact .inr e
    | some c' => rw [z] at e; exact .inl e
  have hi : ∀ {y c}, (cellsFrom (s.heap.objs.size + 1) F.scope.names []).lookup y = some c → s.heap.objs.size < c := fun e => x.above _ _ (PySem.mem_of_lookup e)
  have lo : ∀ {y c}, F.cl.lookup y = some c → c < s.heap.objs.size := fun e => by
    obtain ⟨_, v, o, ho, _⟩ := C.all _ _ e
    exact Heap.lt_size ho
  have ndA : (ps ++ fr).Nodup := by
    rw [← S.pre]
    exact S.nd.sublist (List.take_sublist _ _)
  have frn : ∀ {y}, y ∈ fr → (cellsFrom (s.heap.objs.size + 1) F.scope.names []).lookup y = none := fun {y} hy => by
    cases z : (cellsFrom (s.heap.objs.size + 1) F.scope.names []).lookup y with
    | none => rfl
    | some c =>
      rcases cellsFrom_mem' (PySem.mem_of_lookup z) with q | q
      · cases q
      · exact absurd (rfl : y = y) ((List.nodup_append.mp ndA).2.2 y (S.own _ q rfl) y hy)
  refine ⟨⟨e0.mod, S.kind, rfl, rfl, Nat.le_refl _, fun y z c h1 h2 => ?_, fun y hy => ?_, fun y c z _ => ?_, fun _ => hd, Around.frames_deeper e0.frames, .inr ⟨rfl, rfl⟩, fun b z => absurd z (noA b), e0.bs, e0.bsz, fun b _ _ => noA b,
      fun b z => absurd z (noA b), e0.funs, e0.frf⟩,
    rfl, e0.bare, Un.kept kp, ⟨_, x.toInCall.ns, fun i y v e1 e2 e3 => ?_⟩, fun y c e => ?_, e0.hok.fresh (Nat.le_refl _), fun y c e => ?_, fun q hq => absurd (show q ∈ ([] : List (Addr × Obj)) ++ [] from hq) (by simp), e0.hok.kept kp, ?_⟩
  · rcases cut h1 with a | a <;> rcases cut h2 with b | b
    · exact name_of_addr x.apart (PySem.mem_of_lookup a) (PySem.mem_of_lookup b)
    · exact absurd (Nat.lt_trans (hi a) (lo b)) (Nat.lt_irrefl _)
    · exact absurd (Nat.lt_trans (hi b) (lo a)) (Nat.lt_irrefl _)
    · exact C.inj y z c a b
  · have hy : F.scope.names.lookup y = some .cell ∨ F.scope.names.lookup y = some .free := hy
    rcases hy with hy | hy
    · obtain ⟨c, hc⟩ := cell_has (n := s.heap.objs.size + 1) hy
      exact ⟨c, by show (cellsFrom _ _ _).lookup y = _; rw [look, hc]; rfl⟩
    · have hf := S.free _ (PySem.mem_of_lookup hy) rfl
      obtain ⟨i, hi⟩ := List.mem_iff_getElem?.mp hf
      obtain ⟨c, hc, _⟩ := C.has i y hi
      exact ⟨c, by show (cellsFrom _ _ _).lookup y = _; rw [look, frn hf, hc]; rfl⟩
  · have z : false = true := z
    cases z
  · have e1 : N[i]? = some y := e1
    have clen := C.len
    unfold startF at e2
    by_cases h1 : i < ps.length
    · have hq : (ps ++ fr)[i]? = some y := by
        rw [← S.pre, List.getElem?_take_of_lt (by omega)]
        exact e1
      rw [List.getElem?_append_left h1] at hq
      rw [List.getElem?_append_left (by rw [List.length_map]; omega), List.getElem?_map] at e2
      have ha : vs[i]? = some v := by
        cases e : vs[i]? with
        | none => rw [e] at e2; cases e2
        | some a => rw [e] at e2; cases e2; rfl
      obtain ⟨u, hu, rv⟩ := r.get ha
      have ndP : ps.Nodup := (List.nodup_append.mp ndA).1
      refine ⟨u, rv, ?_⟩
      rcases S.par y (List.mem_of_getElem? hq) with k | k
      · exact .inl ⟨k, bindL_get ndP hq hu k⟩
      · obtain ⟨c, e⟩ := cell_has (n := s.heap.objs.size + 1) k
        refine .inr ⟨.inl k, c, by show (cellsFrom _ _ _).lookup y = _; rw [look, e]; rfl, ?_⟩
        have q := x.cell y c e
        rw [bindC_get ndP hq hu (by rw [k]; decide)] at q
        exact q
    · rw [List.getElem?_append_right (by rw [List.length_map]; omega), List.length_map] at e2
      by_cases h2 : i < ps.length + fr.length
      · have hq : (ps ++ fr)[i]? = some y := by
          rw [← S.pre, List.getElem?_take_of_lt (by omega)]
          exact e1
        rw [List.getElem?_append_right (by omega)] at hq
        rw [List.getElem?_append_left (by omega), hl] at e2
        obtain ⟨c, hc, hv⟩ := C.has (i - ps.length) y hq
        obtain ⟨u, ru, hu⟩ := hv v e2
        have hf := List.mem_of_getElem? hq
        exact ⟨u, ru, .inr ⟨.inr (S.frk y hf), c, by show (cellsFrom _ _ _).lookup y = _; rw [look, frn hf, hc]; rfl, cellK hu⟩⟩
      · rw [List.getElem?_append_right (by omega), List.getElem?_replicate] at e2
        split at e2 <;> cases e2
  · rcases cut e with z | z
    · exact ⟨_, x.cell y c z⟩
    · obtain ⟨v, q⟩ := (C.all y c z).2
      exact ⟨v, cellK q⟩
  · rcases cut e with z | z
    · exact e0.hok.fresh (Nat.le_of_lt (hi z))
    · exact (C.all y c z).1
  · have clen := C.len
    unfold startF
    show _ = N.length
    rw [List.length_append, List.length_append, List.length_map, List.length_replicate]
    omega
theorem nokC_of {k : Nat} {sp : List (Option V) → Sp} (S : NScopeC N ps fr F.scope) (hb : ∀ (doc pm ctv : Value) (us : List Value), us.length = ps.length → bindArgs (F.fd doc pm ctv) ⟨us, []⟩ = pure (ps.zip us)) (len : ∀ ws vs H Q E, sp ws vs H Q E → vs.length = ps.length)
    (hbody : ∀ (A : Around) (outer : List Env) (s : Shared) (H : Hp) (vs : List V) (ws : List (Option V)) (Q : VK) (E : XK), Room k (A.deeper (envFC F f s.heap.objs.size)) → ws.length = fr.length → sp ws vs H Q E →
      ∃ t, PSs (ncxC CX P w K mg base N F f A outer s H E).nox F.body t ∧ t { nx := fun _ H' => Q .non H', rt := Q } (startF N vs ws) H) :
    NOk P w K mg base CX (k + 1) f F ps fr sp := by
  refine ⟨len, fun A outer s H us vs ws Q E hr e0 hf hc C r hsp => ?_⟩
  have hl := len _ _ _ _ _ hsp
  have lim : s.heap.NoLimit := e0.mod.nolimit.keeps fun b o e => (e0.bs b o e).1
  obtain ⟨od, sl, doc, pm, ctv, ho⟩ := fnO_at e0.hok hf
  have hul : us.length = ps.length := by rw [← r.length]; exact hl
  refine codeAny_call_function hr.depth ho rfl S.co S.gen rfl (codeO_at e0.hok hc) ?_
  rw [hb doc pm ctv us hul]
  refine wpAny_pure (new_env_cl S.kind (fun ⟨n, v⟩ hy => ?_) fun s1 x => ⟨lim.keeps x.toInCall.keep, ?_⟩)
  · rcases S.par n (List.of_mem_zip hy).1 with q | q
    · exact .inl q
    · exact .inr ⟨q, cell_has q⟩
  show codeAny _ _ (.func F.body (envFC F f s.heap.objs.size)) _ _
  refine codeAny_func ?_
  obtain ⟨t, ht, hq⟩ := hbody A outer s H vs ws Q E (hr.deeper _) C.len hsp
  have I := inv_startC (CX := CX) (E := E) (f := f) (N := N) S hr.hd e0 hl r C x
  have ht := PSs.nox ht
  refine wpAny_mono (ht.run [] _ (startF N vs ws) H _ I hq) (fun fl s' hs => ?_) fun e s' hs => hs
  have fin : ∀ {σ' : L2.St} {H' : Hp} {v : V} {u : Value}, Inv (ncxC CX P w K mg base N F f A outer s H E) [] σ' H' s' → L2.RelV v u → Q v H' → CE outer P w H s Q u s' :=
    fun {σ' H' v u} J rv q => ⟨v, H', J.os, J.bare, J.base, J.hok, rv, q⟩
  cases fl with
  | ret u =>
    obtain ⟨v, σ', H', J, rv, q⟩ := hs
    exact fin J rv q
  | next =>
    obtain ⟨σ', H', J, q⟩ := hs
    exact fin (v := V.non) (u := Value.none) J rfl q
  | brk =>
    obtain ⟨_, _, _, q⟩ := hs
    exact q.elim
  | cont =>
    obtain ⟨_, _, _, q⟩ := hs
    exact q.elim
end
end AT

set_option Elab.async false
set_option linter.all false
set_option maxRecDepth 100000
set_option maxHeartbeats 4000000
/-! own words, seventeenth part: sorted(set(a list of numbers)) -/
namespace AT
open PySem PySem.Spec PyProof.Rows L2
/-- the set that is just made -/
abbrev eSet (w : World) : Obj := { cls := .type "set", dict := none, data := .set #[] 0 (.fresh 0 0 (!w.params.followText "set-order")) }
section
variable {P : Program} {w : World} {A : Around} {E : Value → Shared → Prop} {s : Shared}
set_option maxHeartbeats 6400000 in
theorem call_setL {l : Addr} {its : Array Value} (ns : List Int) {Q : Value → Shared → Prop} (calm : A.handled = none) (hl : s.heap.IsList l its) (hi : IntsAre its.toList ns) (few : ns.length + 1 < scanBound)
    (q : ∀ (h' : Heap) (tk c : Nat), SetR w h' s.heap.objs.size (fun j => decide (j ∈ ns)) c → c ≤ ns.length → (∀ b o, s.heap.get? b = some o → h'.get? b = some o) → Q (.ref s.heap.objs.size) { s with heap := h', toks := tk }) :
    wpAny (model P w) A (call (.type "set") [.ref l]) Q E s := by
  have sz : its.size = ns.length := by have e := IntsAre.length hi; rwa [Array.length_toList] at e
  have hC := F.called_set
  obtain ⟨c0, tl0, mro0⟩ := hC.mro
  have a1 := hC.made
  have a2 := hC.sub
  have a3 := hC.notType
  have a4 := hC.canCreate
  have a5 := F.typeCall_set_1 (.ref l)
  refine wpAny_call (codeAny_of_tree ?_)
  show wpAny _ _ (callAny (.type "set") _) _ _ _
  refine wpAny_pure ⟨Code.quiet_builtin _ (by decide +kernel), codeAny_builtin F.entry_type_call ?_⟩
  rw [Around.under_plain (weight_type_call_type "set" [.ref l] []) rfl]
  repeat (any_goals (first | assumption | wp_step))
  refine codeAny_mono (code_set_led1 (.ref l) (E := E) (Q₁ := fun v s1 => v = .ref s.heap.objs.size ∧ s1 = { s with heap := s.heap.push (eSet w) }) ⟨rfl, rfl⟩) fun r1 s1 z1 => ?_
  rcases r1 with e1 | f1
  · exact z1
  cases f1 with
  | next => exact z1.elim
  | brk => exact z1.elim
  | cont => exact z1.elim
  | ret v1 =>
    obtain ⟨rfl, rfl⟩ := z1
    have gS : (s.heap.push (eSet w)).get? s.heap.objs.size = some (eSet w) := Heap.get?_push_size _ rfl
    have tS : Shared.TypeIs { s with heap := s.heap.push (eSet w) } (.ref s.heap.objs.size) "set" := ⟨_, gS, rfl⟩
    have b1 := hC.init.lookup
    have b2 := hC.init.bind (.ref s.heap.objs.size)
    repeat (any_goals (first | assumption | wp_step))
    refine codeAny_mono (codeAny_call_builtin (R := wants (fun v s2 => v = .none ∧ ∃ g tk c, s2 = { s with heap := g, toks := tk } ∧ SetR w g s.heap.objs.size (fun j => decide (j ∈ ns)) c ∧ c ≤ ns.length ∧ (∀ b o, s.heap.get? b = some o → g.get? b = some o)) E)
      hC.init.plain F.entry_set_init (check_set_init_1 tS ?_)) fun r2 s2 z2 => ?_
    · obtain ⟨⟨oc, od, odt, osl⟩, ho, e1, n1, e2⟩ := hl
      simp only at e1 e2
      subst e1
      subst e2
      have ho1 : (s.heap.push (eSet w)).get? l = some { cls := .type "list", dict := od, data := .seq its n1, slots := osl } := Heap.get?_push_of_some _ ho
      have c1 := F.sub_list_set
      have c2 := F.sub_list_frozenset
      have c3 : (Value.type "list" == Value.type "dict") = false := by decide
      have isl : (s.heap.push (eSet w)).IsList l its := ⟨_, ho1, rfl, n1, rfl⟩
      unfold Builtin.«set.__init__» noKeywords Builtin.Frozenset.updateFrom
      generalize eI : pyIter = it0
      wp_walk
      subst eI
      refine wpAny_pyIter_list isl (wpAny_bind (wpAny_runValue ?_))
      have l1 : l < s.heap.objs.size := Heap.lt_size ho
      have zz : (s.heap.push (eSet w)).objs.size = s.heap.objs.size + 1 := Heap.size_push ..
      have calm3 : A.in1.in1.in1.handled = none := by simp [calm]
      have n2 : l ≠ (s.heap.push (eSet w)).objs.size := by rw [zz]; exact Nat.ne_of_lt (Nat.lt_succ_of_lt l1)
      have n3 : s.heap.objs.size ∉ [(s.heap.push (eSet w)).objs.size, l] := by
        rw [zz]
        simp only [List.mem_cons, List.not_mem_nil, or_false, not_or]
        exact ⟨Nat.ne_of_lt (Nat.lt_succ_self _), Nat.ne_of_gt l1⟩
      have vals : ∀ (i : Nat) (v : Value), its[i]? = some v → ∃ k t, ns[i]? = some k ∧ v = .int k t := fun i v hv => by
        have hlt : i < ns.length := by rw [← sz]; exact (Array.getElem?_eq_some_iff.mp hv).1
        obtain ⟨t, e⟩ := PyProof.Rows.IntsAre.int_at hi i v (by rw [Array.getElem?_toList]; exact hv)
        have e3 : ns[i]? = some ns[i] := List.getElem?_eq_getElem hlt
        exact ⟨ns[i], t, e3, by rw [e, List.getD_eq_getElem?_getD, e3]; rfl⟩
      refine set_update_ints ((Walks.list calm3 _ l n2 its).toS) s.heap.objs.size n3 ns sz few vals (its.size - 0) 0 _ (by omega) (Nat.zero_le _) ⟨⟨_, Heap.get?_push_size _ rfl, rfl, rfl⟩, isl.push _⟩ ⟨0, Nat.le_refl 0, setR_new_at (Heap.get?_push_of_some _ gS)⟩ fun s3 c hm hc hS => ?_
      obtain ⟨g, g2, d, tk, os⟩ := s3
      obtain rfl : g2 = s.gens := hm.gens
      obtain rfl : d = s.drawn := hm.drawn
      obtain rfl : os = s.os := hm.os
      show wpAny _ _ _ _ _ _
      refine wpAny_pure ?_
      show wpAny _ _ (ret Value.none) _ _ _
      rw [sz] at hc
      refine wpAny_pure ⟨rfl, g, tk, c, rfl, hS, hc, fun b o e => hm.heap b o ?_ (Heap.get?_push_of_some _ (Heap.get?_push_of_some _ e))⟩
      have lb : b < s.heap.objs.size := Heap.lt_size e
      rw [zz]
      simp only [List.mem_cons, List.not_mem_nil, or_false, not_or]
      exact ⟨Nat.ne_of_lt lb, Nat.ne_of_lt (Nat.lt_succ_of_lt lb)⟩
    · rcases r2 with e2 | f2
      · exact z2
      cases f2 with
      | ret v2 =>
        obtain ⟨rfl, g, tk, c, rfl, hS, hc, hk⟩ := z2
        repeat (any_goals (first | assumption | wp_step))
        exact q g tk c hS hc hk
      | next => exact z2.elim
      | brk => exact z2.elim
      | cont => exact z2.elim
end
/-- set(a list of numbers) -/
def rSetOfL (K : PySem.W.Frag) (w : World) : List V → Hp → VK → Prop := fun vs H Q => ∃ (l : Addr) (ns : List Int), vs = [.ref l] ∧ SqL K H l (ns.map V.int) ∧ ns.length ≤ 1000 ∧ ∀ (a : Addr) (c : Nat), H a = none → c ≤ ns.length → Q (.ref a) (upd H a (SetO w a (fun j => decide (j ∈ ns)) c))
theorem cr_setL {X : Cx} (hc : X.calm = true) : CallR X (.type "set") (rSetOfL X.K X.w) := by
  intro pins s σ H vs us Q I r h
  obtain ⟨l, ns, rfl, hs, hn, q⟩ := h
  rw [Vals.ref1 r]
  obtain ⟨its, rv, pl, hz⟩ := I.list hs
  refine call_setL ns (I.ok.hd hc) pl.isList (by rw [List.toList_toArray]; exact ints_of_vals rv) (by unfold scanBound; omega) fun h' tk c hS hl hk => ?_
  exact ⟨.ref _, _, I.laid (t' := tk) hk (Nat.le_refl _) (setO_new hS), rfl, q _ c (I.hok.fresh (Nat.le_refl _)) hl⟩
section
variable {X : Cx} (K : PySem.W.Frag) (w : World) (hK : X.K = K := by rfl) (hw : X.w = w := by rfl) (hc : X.calm = true := by rfl)
include hK hw hc
theorem kSetL : CallR X (.type "set") (rSetOfL K w) := hK ▸ hw ▸ cr_setL hc
omit hK in
theorem kSortSet : CallR X (.builtin "sorted") (rSortedSet w) := hw ▸ cr_sortedSet hc
end
/-- the places below n that are in xs -/
def lotN (n : Nat) (p : Nat → Bool) : List Nat := (List.range n).filter p
theorem mem_lotN {n : Nat} {p : Nat → Bool} {i : Nat} : i ∈ lotN n p ↔ i < n ∧ p i = true := by
  unfold lotN
  rw [List.mem_filter, List.mem_range]
theorem pw_ext : ∀ {a b : List Int}, a.Pairwise (· < ·) → b.Pairwise (· < ·) → (∀ k, k ∈ a ↔ k ∈ b) → a = b
  | [], [], _, _, _ => rfl
  | [], y :: _, _, _, h => absurd ((h y).mpr List.mem_cons_self) (by simp)
  | x :: _, [], _, _, h => absurd ((h x).mp List.mem_cons_self) (by simp)
  | x :: a, y :: b, ha, hb, h => by
    obtain ⟨a1, a2⟩ := List.pairwise_cons.mp ha
    obtain ⟨b1, b2⟩ := List.pairwise_cons.mp hb
    have e : x = y := by
      rcases List.mem_cons.mp ((h x).mp List.mem_cons_self) with z | z
      · exact z
      · rcases List.mem_cons.mp ((h y).mpr List.mem_cons_self) with z2 | z2
        · exact z2.symm
        · have := a1 _ z2
          have := b1 _ z
          omega
    subst e
    rw [pw_ext a2 b2 fun k => ⟨fun hk => ?_, fun hk => ?_⟩]
    · rcases List.mem_cons.mp ((h k).mp (List.mem_cons_of_mem _ hk)) with z | z
      · have := a1 _ hk; omega
      · exact z
    · rcases List.mem_cons.mp ((h k).mpr (List.mem_cons_of_mem _ hk)) with z | z
      · have := b1 _ hk; omega
      · exact z
theorem lotN_pw (n : Nat) (p : Nat → Bool) : ((lotN n p).map fun i : Nat => (i : Int)).Pairwise (· < ·) := by
  rw [List.pairwise_map]
  refine (List.pairwise_lt_range (n := n)).sublist List.filter_sublist |>.imp fun h => ?_
  exact Int.ofNat_lt.mpr h
/-- tuple(sorted(set(xs))) -/
theorem rd_sortSet {K : PySem.W.Frag} {w : World} {n : Nat} {xs : List Nat} {l : Addr} {H : Hp} {Q : VK} (hl : SqL K H l (xs.map fun i : Nat => V.int (i : Int))) (hn : xs.length < 64) (hb : ∀ x ∈ xs, x < n)
    (q : ∀ (p : Addr) (H' : Hp), Ex H H' → H' p = some (.lst ((lotN n fun i => decide (i ∈ xs)).map fun i : Nat => V.int (i : Int))) → Q (.ref p) H') : rSetOfL K w [.ref l] H fun v H1 => rSortedSet w [v] H1 Q := by
  refine ⟨l, xs.map fun i : Nat => (i : Int), rfl, by rw [List.map_map]; exact hl, by rw [List.length_map]; omega, fun a c ha hc => ?_⟩
  rw [List.length_map] at hc
  refine ⟨a, _, c, rfl, upd_same, by omega, fun ns p h1 h2 h3 hp => ?_⟩
  have e : ns = (lotN n fun i => decide (i ∈ xs)).map fun i : Nat => (i : Int) := pw_ext h1 (lotN_pw _ _) fun k => by
    rw [h2 k, decide_eq_true_eq, List.mem_map, List.mem_map]
    exact ⟨fun ⟨i, hi, e⟩ => ⟨i, mem_lotN.mpr ⟨hb i hi, decide_eq_true hi⟩, e⟩, fun ⟨i, hi, e⟩ => ⟨i, of_decide_eq_true (mem_lotN.mp hi).2, e⟩⟩
  refine q p _ ((Evl.Ex.new ha).trans (Evl.Ex.new hp)) ?_
  rw [upd_same, e, List.map_map]
  rfl
end AT

set_option Elab.async false
set_option linter.all false
set_option maxRecDepth 100000
set_option maxHeartbeats 4000000
/-! own words, eighteenth part: x or y of a tuple -/
namespace AT
open PySem PySem.Spec PyProof.Rows L2
theorem kOrT {X : Cx} (K : PySem.W.Frag) (hK : X.K = K) {a : Expr} {ta tb : TE} (h : PE X a (tOrT X.K ta tb)) : PE X a (tOrT K ta tb) := hK ▸ h
theorem rd_orT {K : PySem.W.Frag} {ta tb : TE} {σ : L2.St} {H : Hp} {Q : VK} (h : ta σ H fun x H1 => ∃ k, TruV K x H1 k ∧ if k = true then Q x H1 else tb σ H1 Q) : tOrT K ta tb σ H Q := h
end AT

set_option Elab.async false
set_option linter.all false
set_option maxRecDepth 100000
set_option maxHeartbeats 4000000
/-! own words, nineteenth part: a text turned round -/
namespace AT
open PySem PySem.Spec PyProof.Rows L2
/-- z[::-1] -/
def revS (z : Str) : Str := ⟨z.cps.toList.reverse.toArray⟩
theorem pick_rev (z : Str) : (Builtin.Str.strSliceIndices none none (-1) z.length).filterMap (z.cps[·]?) = z.cps.toList.reverse := by
  show (sliceRange ((z.cps.size : Int) - 1) (-1) (-1)).filterMap (z.cps[·]?) = _
  rw [PySem.W.krv_sliceRange, PySem.W.krv_range, List.filterMap_reverse, PySem.W.krv_all]
def tRevS (te : TE) : TE := fun σ H Q => te σ H fun x H1 => ∃ z : Str, x = .str z ∧ z.length ≤ sizeLine ∧ Q (.str (revS z)) H1
theorem pe_revS {X : Cx} {e : Expr} {te : TE} {k : Nat} {p1 p2 p3 pos : Pos} (he : PE X e te) : PE X (.Subscript e (.Slice none none (some (.UnaryOp .USub (.Constant (.int 1) k p1) p2)) p3) pos) (tRevS te) := by
  constructor
  intro pins s σ H Q I q
  refine Subscript_ (thn (he.run pins s σ H _ I q) fun v s1 ⟨x, H1, I1, rx, z, ex, hz, q1⟩ => ?_)
  subst ex
  obtain ⟨t, rfl⟩ : ∃ t, v = Value.str z t := rx
  have step : PO X (some (.UnaryOp .USub (.Constant (.int 1) k p1) p2)) (tPart (tUn (rU fun i => .int (-i)) (tC (.int 1)))) := po_some (pe_un un_neg pe_int)
  refine wpAny_Slice (thn (po_none.run pins s1 σ H1 (fun o H2 => o = none ∧ H2 = H1) I1 ⟨rfl, rfl⟩) fun va s2 ⟨a, H2, I2, pa, ea, e2⟩ => ?_)
  subst ea e2
  refine thn (po_none.run pins s2 σ H2 (fun o H3 => o = none ∧ H3 = H2) I2 ⟨rfl, rfl⟩) fun vb s3 ⟨b, H3, I3, pb, eb, e3⟩ => ?_
  subst eb e3
  refine thn (step.run pins s3 σ H3 (fun o H4 => o = some (-1) ∧ H4 = H3) I3 ⟨1, rfl, -1, rfl, rfl, rfl⟩) fun vc s4 ⟨c, H4, I4, pc, ec, e4⟩ => ?_
  subst ec e4
  obtain ⟨la, rfl, ha⟩ := IsPart.raw pa
  obtain ⟨lb, rfl, hb⟩ := IsPart.raw pb
  obtain ⟨lc, rfl, hc⟩ := IsPart.raw pc
  have I5 : Inv X pins σ H4 { s4 with heap := s4.heap.push { cls := .type "slice", data := .fields #[partValue la, partValue lb, partValue lc] } } := I4.kept (t' := s4.toks) fun b ob q => Heap.get?_push_of_some _ q
  have made : (slicePicked z la lb lc).filterMap (z.cps[·]?) = z.cps.toList.reverse := by
    unfold slicePicked
    rw [ha, hb, hc]
    exact pick_rev z
  refine tail_any (ops := [.ref s4.heap.objs.size, .str z t]) (typeIs_str _ _ _) (F.slot_str_getitem.lookup) ?_ (by with_unfolding_all rfl)
  refine wpAny_getItem_str_slice (l := la) (u := lb) (st := lc) ⟨_, Heap.get?_push_size _ rfl, rfl, rfl⟩ (by rw [hc]; rfl) ?_
  have em : sliceMade z t la lb lc = .str (revS z) := by
    unfold sliceMade
    rw [made, hc]
    rfl
  rw [em]
  refine ⟨?_, .str _, H4, I5.tok _, ⟨_, rfl⟩, q1⟩
  show (z.cps.toList.reverse.toArray).size ≤ sizeLine
  rw [List.size_toArray, List.length_reverse, Array.length_toList]
  exact hz
theorem rd_revS {te : TE} {σ : L2.St} {H : Hp} {Q : VK} (h : te σ H fun x H1 => ∃ z : Str, x = .str z ∧ z.length ≤ sizeLine ∧ Q (.str (revS z)) H1) : tRevS te σ H Q := h
end AT

set_option Elab.async false
set_option linter.all false
set_option maxRecDepth 100000
set_option maxHeartbeats 4000000
/-! own words: text += text, on a name -/
namespace AT
open PySem L2
theorem ip_addS {X : Cx} : PIp X .Add rAddS := fun pins s σ H x y u v Q I rx ry h => in_addS pins s σ H x y u v Q I rx ry h
theorem rd_aug {i : Nat} {te : TE} {ti : TIp} {D : Ends} {σ : L2.St} {H : Hp} {x : V} (e : σ[i]? = some (some x)) (h : te σ H fun y H1 => ti x y H1 fun z H2 => D.nx (σ.set i (some z)) H2) : tAug i te ti D σ H := ⟨x, e, h⟩
theorem rd_augAS {x y : Str} {H : Hp} {Q : VK} (c : x.length + y.length ≤ sizeLine) (q : Q (.str (x ++ y)) H) : rAddS (.str x) (.str y) H Q := ⟨x, y, rfl, rfl, c, q⟩
end AT

set_option Elab.async false
set_option linter.all false
set_option maxRecDepth 100000
set_option maxHeartbeats 4000000
/-! own words: try, with several clauses that name the exception -/
namespace AT
open PySem PySem.Spec PyProof.Rows L2
abbrev Clz := List (Value × Nat × (Addr → Value → Option Addr → TS))
abbrev EndsN (D : Ends) (i : Nat) : Ends := { nx := fun t G => D.nx (t.set i none) G, rt := D.rt, bk := fun t G => D.bk (t.set i none) G, ct := fun t G => D.ct (t.set i none) G }
/-- what the clauses ask of what is raised, one behind another; each has the slot of its name -/
def wAll (F : PySem.W.Frag) (out : WX) (D : Ends) : Clz → WX
  | [] => out
  | (k, i, t) :: more => fun cl dd st G => ∃ yes, PySem.W.exmOne F cl k = some yes ∧ (yes = true → ∀ a, G a = none → t a cl dd (EndsN D i) (st.set i (some (.ref a))) G) ∧ (yes = false → wAll F out D more cl dd st G)
inductive ClsOk (X : Cx) : List ExceptHandler → Clz → Prop
  | nil : ClsOk X [] []
  | cons {y m : Str} {k : Value} {i : Nat} {t : Addr → Value → Option Addr → TS} {s₀ : Stmt} {ss : List Stmt} {p1 p2 : Pos} {hs : List ExceptHandler} {l : Clz} (hi : X.N[i]? = some m) (hm : X.env.kindOf m = some .local) (hk : Names X y k)
      (hS : ∀ (a : Addr) (ob : Obj) (cl : Value) (dd : Option Addr) (ps : List (Addr × Obj)), Zc cl dd ob → (∃ fs, ob.data = .fields fs) → PSs (X.suite a ((a, ob) :: ps)) (s₀ :: ss) (t a cl dd)) (rest : ClsOk X hs l) :
      ClsOk X (.ExceptHandler (some (.Name y p1)) (some m) (s₀ :: ss) p2 :: hs) ((k, i, t) :: l)
section
variable {X : Cx} {body : List Stmt} {h₀ : ExceptHandler} {hds : List ExceptHandler} {l : Clz} {pos : Pos} {tb : WX → TS} {out : WX}
theorem ps_try_names (hN : X.N.Nodup) (e1 : X.stack = X.env :: X.outer) (e2 : X.env.frame = some X.env.locals) (tk : Takes X out)
    (hB : ∀ (W : WX) (ps : List (Addr × Obj)) (xe : Value → Shared → Prop), Takes (X.tr ps xe) W → PassesOwn (model X.prog X.w) X.A X.env xe → PSs (X.tr ps xe) body (tb W))
    (hC : ClsOk X (h₀ :: hds) l) : PS X (.Try body (h₀ :: hds) [] [] pos) (fun D st G => tb (wAll X.K out D l) D st G) := by
  refine ⟨fun pz s₁ st G D J h => ?_⟩
  have jok := J.ok
  have fr : X.A.frames = some (X.env :: X.outer) := by rw [jok.frames, e1]
  let catch_ : Value → Shared → Prop := fun ev t₁ => wpAny (model X.prog X.w) X.A (noteFrame ev X.env) (fun _ t₂ => wpAny (model X.prog X.w) X.A (setFlight ev none) (fun _ t₃ =>
    wpAny (model X.prog X.w) X.A (handleBy ev X.env (h₀ :: hds)) (SP X pz D) X.xe t₃) X.xe t₂) X.xe t₁
  have body_ := (hB (wAll X.K out D l) (X.pn ++ pz) catch_ (fun ev t₁ z => ?tk) PassesOwn.looking).run [] s₁ st G D (J.toTry _) h
  case tk =>
    obtain ⟨a, B, sB, _, st1, G1, cl, dd, rfl, JB, nb, up, sky, na, os, ag, asked⟩ := z
    have J1 : Inv X pz st1 G1 sB := JB.ofTry jok
    rw [e1] at sky
    refine Sky.land Zc.steady fr e2 sky fun g3 f3 u3 => ?_
    have J3 : Inv X pz st1 G1 { t₁ with heap := g3 } := J1.landed nb f3.1 (up.trans u3) os ag
    obtain ⟨ob3, fs3, at3, zc3, da3⟩ := f3.there
    have out3 : a ∉ frs (X.env :: X.outer) := fun hm => by
      obtain ⟨_, o', eo, none'⟩ := f3.2.2.1.mem hm
      rw [at3] at eo
      cases eo
      exact none' _ da3
    have aL : a ≠ X.env.locals := fun z => out3 (List.mem_filterMap.mpr ⟨X.env, List.mem_cons_self, by rw [e2, z]⟩)
    have aF : a ∉ X.fs := fun hm => by
      obtain ⟨en, hen, q⟩ := List.mem_filterMap.mp hm
      exact out3 (List.mem_filterMap.mpr ⟨en, List.mem_cons_of_mem _ hen, q⟩)
    have S3 := J3.suite at3 da3 na aL aF
    have through : ∀ {hs : List ExceptHandler} {l' : Clz}, ClsOk X hs l' → wAll X.K out D l' cl dd st1 G1 → wpAny (model X.prog X.w) X.A (handleBy (.ref a) X.env hs) (SP X pz D) X.xe { t₁ with heap := g3 } := by
      intro hs l' hl
      induction hl with
      | nil =>
        intro asked
        refine wpAny_handleBy_nil ?_
        obtain ⟨_, _, _, ob, fs, T, oT, tt, eo, _, ed, hT, _⟩ := id f3
        unfold PySem.passOn
        refine wpAny_bind (wpAny_field eo ed hT ?_)
        have nT : ¬ ((Value.ref T == Value.none) = true) := by simp
        rw [if_neg nT]
        have go : wpAny (model X.prog X.w) X.A (setFlight (.ref a) X.env.frame) (fun _ t₄ => wpAny (model X.prog X.w) X.A (throw (.ref a) : Sem Flow) (SP X pz D) X.xe t₄) X.xe { t₁ with heap := g3 } := by
          rw [e2]
          refine HandSPX.setFlight_upZ f3 fun g4 sk4 u4 => wpAny_throw (tk _ _ ?_)
          refine ⟨a, B, sB, pz, st1, G1, cl, dd, rfl, J1, nb, (up.trans u3).trans u4, .inr (.inr ?_), na, os, ag, asked⟩
          rw [e1]
          exact sk4
        first | exact wpAny_bind (wpAny_pure (wpAny_bind go)) | exact wpAny_bind go
      | @cons y m k i t s₀ ss p1 p2 hs2 l2 hi hm hk hS rest ih =>
        intro asked
        obtain ⟨yes, hb, on, off⟩ := asked
        refine wpAny_handleBy_cons (codeAny_handlers_test ?_) (by intro z; cases z)
        have look : PySem.W.Looks (model X.prog X.w) g3 (typeOf (.ref a)) cl := fun A Q E t c q => wpAny_typeOf_ref (c _ _ at3) (by rw [zc3.1]; exact q)
        have one := PySem.W.exm_one (M := model X.prog X.w) (J3.kIn) look hb
        have named : ∀ {Q E : Value → Shared → Prop}, Q k { t₁ with heap := g3 } → wpAny (model X.prog X.w) (X.A.mark (some (.ref a))) (eval (.Name y p1) X.env) Q E { t₁ with heap := g3 } := fun {Q E} q => by
          obtain ⟨gl, dbg, own | ⟨no, blt, nn⟩⟩ := hk
          · exact ld_glob (X := X.suite a ((a, ob3) :: (X.pn ++ pz))) S3 gl own q dbg
          · exact ld_blt (X := X.suite a ((a, ob3) :: (X.pn ++ pz))) S3 gl no blt q nn dbg
        refine named (one.here ?_)
        cases yes with
        | true =>
          refine codeAny_handlers_suite_as ?_
          refine HandSPX.lands_againZ f3 fun g4 f4 u4 => ?_
          have J4 : Inv X pz st1 G1 { t₁ with heap := g4 } := J1.landed nb f4.1 ((up.trans u3).trans u4) os ag
          obtain ⟨ob4, fs4, at4, zc4, da4⟩ := f4.there
          have S4 := J4.suite at4 da4 na aL aF
          refine store_ok (X := X.suite a ((a, ob4) :: (X.pn ++ pz))) (v := .ref a) S4 hN hi (.inl hm) rfl (fun t₅ S5 => ?_) (.inr hm)
          have gone : ∀ {st6 : L2.St} {G6 : Hp} {t₆ : Shared} {Q : Shared → Prop}, Inv (X.suite a ((a, ob4) :: (X.pn ++ pz))) [] st6 G6 t₆ → (∀ t₇, Inv X pz (st6.set i none) G6 t₇ → Q t₇) → wpAny (model X.prog X.w) X.A (do bindName X.env m .none; unbindBehindTheSuite X.env m p2) (fun _ t₇ => Q t₇) X.xe t₆ :=
            fun S6 q => gone_ok (S6.unsuite jok) hN hi hm q
          refine wpAny_mono ((hS a ob4 cl dd (X.pn ++ pz) zc4 ⟨_, da4⟩).run [] t₅ _ G1 _ S5 (on rfl a na)) (fun flow t₆ fin => ?_) (fun _ _ z => z.elim)
          cases flow with
          | next => obtain ⟨_, _, S6, q6⟩ := fin; exact gone S6 fun t₇ J7 => ⟨_, _, J7, q6⟩
          | brk => obtain ⟨_, _, S6, q6⟩ := fin; exact gone S6 fun t₇ J7 => ⟨_, _, J7, q6⟩
          | cont => obtain ⟨_, _, S6, q6⟩ := fin; exact gone S6 fun t₇ J7 => ⟨_, _, J7, q6⟩
          | ret u => obtain ⟨_, _, _, S6, r6, q6⟩ := fin; exact gone S6 fun t₇ J7 => ⟨_, _, _, J7, r6, q6⟩
        | false =>
          show wpAny _ X.A (handleBy (.ref a) X.env hs2) _ _ _
          exact ih (off rfl)
    exact through hC asked
  refine wpAny_Try_except (wpAny_mono body_ (fun flow t₁ fin => ?_) fun ev t₁ q => q)
  cases flow with
  | next => obtain ⟨_, _, J1, q⟩ := fin; exact wpAny_execs_nil ⟨_, _, J1.ofTry jok, q⟩
  | brk => obtain ⟨_, _, J1, q⟩ := fin; exact ⟨_, _, J1.ofTry jok, q⟩
  | cont => obtain ⟨_, _, J1, q⟩ := fin; exact ⟨_, _, J1.ofTry jok, q⟩
  | ret u => obtain ⟨_, _, _, J1, r, q⟩ := fin; exact ⟨_, _, _, J1.ofTry jok, r, q⟩
end
end AT

set_option Elab.async false
set_option linter.all false
set_option maxRecDepth 100000
set_option maxHeartbeats 4000000
/-! own words: del xs[i:] -/
namespace AT
open PySem PySem.Spec PyProof.Rows L2
def selOwn (start stop step : Int) (i : Nat) : Bool :=
  if step > 0 then start ≤ i && i < stop && (i - start) % step == 0
  else stop < i && i ≤ start && (start - i) % (-step) == 0
theorem sel_one (a n i : Nat) : selOwn (a : Int) (n : Int) 1 i = decide (a ≤ i ∧ i < n) := by
  have h1 : (1 : Int) > 0 := by decide
  unfold selOwn
  rw [if_pos h1, Int.emod_one, Bool.eq_iff_iff]
  simp
theorem keep_take {α : Type} (a : Nat) : ∀ (xs : List α) (k n : Nat), n = k + xs.length → ((xs.zipIdx k).filterMap fun p => if selOwn (a : Int) (n : Int) 1 p.2 then none else some p.1) = xs.take (a - k)
  | [], k, n, _ => by simp
  | x :: xs, k, n, hn => by
    have hn' : n = k + 1 + xs.length := by rw [hn, List.length_cons]; omega
    rw [List.zipIdx_cons, List.filterMap_cons]
    by_cases h : a ≤ k
    · have e : selOwn (a : Int) (n : Int) 1 k = true := by rw [sel_one]; exact decide_eq_true ⟨h, by rw [hn, List.length_cons]; omega⟩
      have ih := keep_take a xs (k + 1) n hn'
      have z1 : a - (k + 1) = 0 := by omega
      have z2 : a - k = 0 := by omega
      rw [z1, List.take_zero] at ih
      rw [z2, List.take_zero]
      simp only [e, if_true]
      exact ih
    · have e : selOwn (a : Int) (n : Int) 1 k = false := by rw [sel_one]; exact decide_eq_false fun z => h z.1
      have ih := keep_take a xs (k + 1) n hn'
      have z : a - k = (a - (k + 1)) + 1 := by omega
      rw [z, List.take_succ_cons]
      simp only [e]
      rw [← ih]
      rfl
section
variable {prog : Program} {w : World} {A : Around} {E : Value → Shared → Prop} {s : Shared}
theorem tail_bounds {a n : Nat} (h : a ≤ n) : sliceBounds (some (a : Int)) none none n = ((a : Int), (n : Int), 1) := by
  have h1 : ¬ ((a : Int) < 0) := by omega
  have h2 : (1 : Int) > 0 := by decide
  simp only [sliceBounds, Option.getD_none, h1, if_false, h2, if_true]
  congr 1
  omega
theorem del_tail {l sl : Addr} {items : Array Value} {n a : Nat} {vl : Value} {Q : Unit → Shared → Prop} (e : s.heap.get? l = some { cls := .type "list", data := .seq items n }) (hs : s.heap.IsSliceOf sl vl .none .none) (pl : IsPart vl (some (a : Int))) (ha : a ≤ items.size) (hz : items.size ≤ sizeLine)
    (h : ∀ f : Array Value → Array Value, f items = (items.toList.take a).toArray → Q () { s with heap := s.heap.update l (Obj.mapSeq f) }) : wpAny (model prog w) A (delItem (.ref l) (.ref sl)) Q E s := by
  have lst : s.heap.IsList l items := PySem.IsL.isList e
  obtain ⟨so, gs, cs, ds⟩ := id hs
  have isS : s.TypeIs (.ref sl) "slice" := ⟨so, gs, cs⟩
  have st0 : ¬ ((rawPart none == rawInt 0) = true) := Bool.false_ne_true
  unfold delItem
  try with_reducible refine wpAny_holding ?_
  first | refine wpAny_bind (wpAny_pure ?_) | skip
  refine wpAny_bind (wpAny_sequenceKey lst.typeIs (by decide) ?_)
  have entry := wpAny_call_entry (prog := prog) (w := w) (A := A) (E := E) F.slot_list_delitem lst.typeIs F.entry_list_delitem (Q := fun _ t => Q () t) ?k (F.args_list_delitem_2 (.ref l) (.ref sl))
  · refine wpAny_bind (wpAny_callSpecial?_slot (name := Str.ofString "__delitem__") lst.typeIs F.slot_list_delitem ?_)
    exact wpAny_mono entry (fun _ _ q => wpAny_pure q) fun _ _ q => q
  case k =>
    show wpAny _ _ (Builtin.List.listSubscript? (.ref sl) >>= _) _ _ s
    refine wpAny_bind ?_
    unfold Builtin.List.listSubscript?
    refine wpAny_bind (wpAny_specialOf isS slice_no_index ?_)
    simp only [Option.isNone_none, if_true]
    refine wpAny_pure ?_
    show wpAny _ _ (typeOf (.ref sl) >>= _) _ _ s
    refine wpAny_bind (wpAny_typeOf isS ?_)
    first | rw [if_neg (by decide)] | refine PySem.W.KFB.if_not (by decide) ?_
    rw [listSliceParts_eq]
    refine wpAny_bind (wpAny_bind (wpAny_field gs ds (x := .none) rfl (wpAny_bind (wpAny_listPart .none ?_))))
    rw [if_neg st0]
    refine wpAny_bind (wpAny_field gs ds (x := vl) rfl (wpAny_bind (wpAny_listPart pl ?_)))
    refine wpAny_bind (wpAny_field gs ds (x := .none) rfl (wpAny_bind (wpAny_listPart .none (wpAny_pure ?_))))
    unfold Builtin.List.listItems
    refine wpAny_bind (wpAny_bind (wpAny_seqItems e rfl (wpAny_pure ?_)))
    refine wpAny_bind (wpAny_of_eq ((sliceIndices_raw (some (a : Int)) none none items.size (by simp)).trans (congrArg (pure : Int × Int × Int → Sem (Int × Int × Int)) (tail_bounds ha))) ?_)
    refine wpAny_bind (wpAny_rule ?_)
    have ef : (fun xs : Array Value => (xs.toList.zipIdx.filterMap fun p => if selOwn (a : Int) (items.size : Int) 1 p.2 then none else some p.1).toArray) items = (items.toList.take a).toArray := by
      have := keep_take a items.toList 0 items.size (by simp)
      rw [Nat.sub_zero] at this
      exact congrArg List.toArray this
    show wpAny _ _ (updateSeq l (fun xs : Array Value => (xs.toList.zipIdx.filterMap fun p => if selOwn (a : Int) (items.size : Int) 1 p.2 then none else some p.1).toArray) >>= _) _ _ s
    have hz2 : ((fun xs : Array Value => (xs.toList.zipIdx.filterMap fun p => if selOwn (a : Int) (items.size : Int) 1 p.2 then none else some p.1).toArray) items).size ≤ sizeLine + 1 := by
      rw [ef, List.size_toArray, List.length_take]
      have := items.length_toList
      omega
    refine wpAny_bind (wpAny_updateSeq (hz := hz) (_hz' := hz2) e rfl ?_)
    refine wpAny_bind (wpAny_letGo ?_)
    first
      | exact wpAny_bind (wpAny_pure (wpAny_pure ⟨.none, rfl, h _ ef⟩))
      | exact wpAny_pure ⟨.none, rfl, h _ ef⟩
end
section
variable {X : Cx}
/-- del o[lo:] of a list -/
def tDelTl (to ti : TE) : TS := fun D σ H => to σ H fun x H1 => ti σ H1 fun y H2 => ∃ (l : Addr) (xs : List V) (a : Nat), x = .ref l ∧ y = .int (a : Int) ∧ H2 l = some (.lst xs) ∧ a ≤ xs.length ∧ D.nx σ (upd H2 l (.lst (xs.take a)))
theorem ps_delTl {o i : Expr} {to ti : TE} {pos tpos ip : Pos} (ho : PE X o to) (hi : PE X i ti) : PS X (.Delete [.Subscript o (.Slice (some i) none none ip) tpos] pos) (tDelTl to ti) := by
  refine ⟨fun pins s σ H D I h => ?_⟩
  refine wpAny_Delete (wpAny_deleteEach_cons (wpAny_delete_Subscript (thn (ho.run pins s σ H _ I h) fun u s1 ⟨x, H1, I1, rx, q1⟩ => ?_)))
  refine wpAny_Slice (thn (hi.run pins s1 σ H1 _ I1 q1) fun iv s2 ⟨y, H2, I2, ry, q2⟩ => ?_)
  rw [evalPart_none]
  refine wpAny_pure (wpAny_pure ?_)
  obtain ⟨l, xs, a, ex, ey, hH, ha, q2⟩ := q2
  subst ex
  subst ey
  cases (show u = Value.ref l from rx)
  obtain ⟨t, rfl⟩ := (show ∃ t, iv = Value.int (a : Int) t from ry)
  have I3 : Inv X pins σ H2 { s2 with heap := s2.heap.push { cls := .type "slice", data := .fields #[.int (a : Int) t, .none, .none] } } := I2.kept (t' := s2.toks) fun b u k => Heap.get?_push_of_some _ k
  obtain ⟨z, its, n, r, hl, e⟩ := I3.lstM hH
  refine del_tail (a := a) e (Heap.IsSliceOf.new ..) (.int _ t) (by rw [List.size_toArray, ← hl]; exact ha) (by rw [List.size_toArray]; omega) fun f hf => wpAny_deleteEach_nil ⟨σ, _, ?_, q2⟩
  refine I3.lset (its' := its.take a) (t' := s2.toks) hH e hf (r.take a) ?_
  rw [List.length_take]
  omega
theorem rd_delTl {to ti : TE} {D : Ends} {σ : L2.St} {H : Hp} (h : to σ H fun x H1 => ti σ H1 fun y H2 => ∃ (l : Addr) (xs : List V) (a : Nat), x = .ref l ∧ y = .int (a : Int) ∧ H2 l = some (.lst xs) ∧ a ≤ xs.length ∧ D.nx σ (upd H2 l (.lst (xs.take a)))) : tDelTl to ti D σ H := h
end
end AT

set_option Elab.async false
set_option linter.all false
set_option maxRecDepth 100000
set_option maxHeartbeats 4000000
/-! own words: setdefault, len, list of a dict whose keys are tuples of any kind -/
namespace AT
open PySem PySem.Spec PyProof.Rows L2
section
variable {P : Program} {w : World} {A : Around} {E : Value → Shared → Prop} {s : Shared} {d : Addr} {xs : KVV} {k : NestedKey} {key : Value}
theorem setDefV {dv : Value} {Q : Value → Shared → Prop} (hu : A.units + 8 < cLine) (hkey : KeyVl s.heap k key) (hm : DictV w s.heap d xs) (his : ∀ x ∈ xs, KeyVl s.heap x.1 x.2.1) (hsz : xs.length ≤ sizeLine)
    (h1 : ∀ v, (atV xs k).map (·.2) = some v → Q v { s with toks := s.toks + k.draws })
    (h2 : atV xs k = none → ∀ h', DictV w h' d (xs ++ [(k, key, dv)]) → Heap.SameBut d s.heap h' → Q dv { s with heap := h', toks := s.toks + k.draws }) : wpAny (model P w) A (dictSetDefault d key dv) Q E s := by
  obtain ⟨o, es, ep, ho, hc, hd, he, hn⟩ := hm
  have deep := hkey.d
  have many : es.size = xs.length := by rw [← Array.length_toList, he, List.length_map]
  unfold dictSetDefault
  try with_reducible refine wpAny_holding ?_
  refine wpAny_bind (pyHash_key k key A s _ hkey.is (by omega) (wpAny_bind (findV (s := { s with toks := s.toks + k.draws }) hu hkey ho hd he his hn ?_ ?_)))
  · intro out
    have none' := atV_none out
    refine wpAny_bind (wpAny_rule (wpAny_bind (wpAny_updateDictKeys (hz := by omega) (s := { s with toks := s.toks + k.draws }) ho hd (wpAny_pure (h2 none' _ ⟨_, _, ep + 1, Heap.get?_update_self _ ho (Obj.isFreed_of_dict (Obj.data_mapDictKeys hd _)),
      hc.mapDictKeys _, Obj.data_mapDictKeys hd _, ?_, ?_⟩ (Heap.SameBut.update ..))))))
    · simp [he, entV]
    · rw [List.map_append, List.nodup_append]
      refine ⟨hn, by simp, fun x hx y hy => ?_⟩
      have ey : y = k := by simpa using hy
      rw [ey]
      intro ex
      obtain ⟨q, hq, eq⟩ := List.mem_map.mp hx
      obtain ⟨j, hj⟩ := List.mem_iff_getElem?.mp hq
      exact out j q.2 (by rw [hj, ← ex, ← eq])
  · intro j p hj
    have there := atV_some hn hj
    refine wpAny_bind (wpAny_dictEntries (s := { s with toks := s.toks + k.draws }) ho hd ?_)
    rw [entV_at he j, hj]
    exact wpAny_bind (wpAny_rule (wpAny_pure (h1 p.2 (by rw [there]; rfl))))
theorem callSetDefV {dv : Value} {Q : Value → Shared → Prop} (hu : A.units + 9 < cLine) (hkey : KeyVl s.heap k key) (lo : (d == sysModules) = false) (hm : DictV w s.heap d xs) (his : ∀ x ∈ xs, KeyVl s.heap x.1 x.2.1) (hsz : xs.length ≤ sizeLine)
    (h1 : ∀ v, (atV xs k).map (·.2) = some v → Q v { s with toks := s.toks + k.draws })
    (h2 : atV xs k = none → ∀ h', DictV w h' d (xs ++ [(k, key, dv)]) → Heap.SameBut d s.heap h' → Q dv { s with heap := h', toks := s.toks + k.draws }) : wpAny (model P w) A (call (.builtin "dict.setdefault") [.ref d, key, dv]) Q E s := by
  have hu1 : A.in1.units + 8 < cLine := by show A.units + 1 + 8 < cLine; omega
  refine wpAny_call_entry PySem.F.slot_dict_setdefault hm.typeIs PySem.F.entry_dict_setdefault ?_ (PySem.F.args_dict_setdefault_3 _ _ _)
  unfold Builtin.«dict.setdefault»
  refine wpAny_bind ?_
  unfold Builtin.Dict.keyAndDefault
  refine wpAny_bind (wpAny_notOrdered_dict hm.typeIs ?_)
  show wpAny _ _ (pure (d, key, some dv)) _ _ s
  refine wpAny_pure ?_
  show wpAny _ _ (if (d == sysModules) = true then _ else (dictSetDefault d key dv >>= _)) _ _ s
  rw [if_neg (by rw [lo]; exact Bool.false_ne_true)]
  exact wpAny_bind (setDefV hu1 hkey hm his hsz (fun v hv => wpAny_pure ⟨v, rfl, h1 v hv⟩) fun hn h' dd hs => wpAny_pure ⟨dv, rfl, h2 hn h' dd hs⟩)
theorem paired_at {α β : Type} {F : α → β → Prop} {l₁ : List α} {l₂ : List β} (h : Paired F l₁ l₂) {i : Nat} {a : α} {b : β} (ha : l₁[i]? = some a) (hb : l₂[i]? = some b) : F a b := by
  induction h generalizing i with
  | nil => simp at ha
  | cons f _ ih =>
    cases i with
    | zero =>
      simp at ha hb
      rw [← ha, ← hb]
      exact f
    | succ i => exact ih (i := i) (by simpa using ha) (by simpa using hb)
/-- a dict of so many entries, whatever its keys -/
def RawD (h : Heap) (d : Addr) (es : Array DictEntry) (ep : Nat) : Prop := ∃ o, h.get? d = some o ∧ o.ExactDict ∧ o.data = .dict es ep
theorem RawD.type {es : Array DictEntry} {ep : Nat} (h : RawD s.heap d es ep) : s.TypeIs (.ref d) "dict" := let ⟨o, e, c, _⟩ := h; ⟨o, e, c.1⟩
theorem raw_len_meets (d : Addr) (lo : (d == sysModules) = false) :
    MeetsIn P w (Builtin.«dict.__len__» ⟨[.ref d], []⟩) (fun _ R t => ∃ es ep, RawD t.heap d es ep ∧ R (.ok (.ret (.int es.size t.toks))) { t with toks := t.toks + 1 }) :=
  .of_wp fun A R t ⟨es, ep, ⟨o, ho, hc, hd⟩, q⟩ => by
    show wpAny _ _ (dictSize d >>= _) _ _ t
    unfold dictSize
    refine wpAny_bind (wpAny_bind (wpAny_dictEntries ho hd (wpAny_pure ?_)))
    show wpAny _ _ (Builtin.Dict.pendingCount d >>= _) _ _ t
    refine wpAny_bind (wpAny_pendingCount_other lo ?_)
    refine wpAny_ret_mkInt ?_
    rw [Nat.add_zero]
    exact q
theorem call_raw_len {es : Array DictEntry} {ep : Nat} {Q : Value → Shared → Prop} (lo : (d == sysModules) = false) (hm : RawD s.heap d es ep) (fit : (es.size : Int) < 2 ^ 63)
    (h : Q (.int es.size (s.toks + 1)) { s with toks := s.toks + 1 + 1 }) : wpAny (model P w) A (call (.builtin "len") [.ref d]) Q E s := by
  refine Calls.call_function_entry kind_len plain_len entry_len (args_len1 _) ?_
  unfold Builtin.«len»
  refine wpAny_bind (m := oneArg "len" _) (wpAny_pure ?_)
  have meets := raw_len_meets (P := P) (w := w) d lo
  refine wpAny_bind (m := callSpecial? (.ref d) (Str.ofString "__len__")) (wpAny_callSpecial?_slot (name := Str.ofString "__len__") hm.type F.slot_dict_len
    (call_meetsIn F.slot_dict_len hm.type F.entry_dict_len (F.args_dict_len_1 _) meets ⟨es, ep, hm, ?_⟩))
  show wpAny _ _ _ _ _ { s with toks := s.toks + 1 }
  refine wpAny_bind (wpAny_holding (wpAny_pure ?_))
  refine wpAny_bind (wpAny_letGo ?_)
  have n0 : ¬ ((es.size : Nat) : Int) < 0 := by omega
  have n1 : ¬ ((es.size : Nat) : Int) ≥ 2 ^ 63 := by omega
  show wpAny _ _ (if ((es.size : Nat) : Int) < 0 then _ else _) _ _ _
  rw [if_neg n0]
  show wpAny _ _ (if ((es.size : Nat) : Int) ≥ 2 ^ 63 then _ else _) _ _ _
  rw [if_neg n1]
  exact wpAny_bind (wpAny_mkInt (wpAny_pure ⟨_, rfl, h⟩))
theorem raw_src {es : Array DictEntry} {ep : Nat} (lo : (d == sysModules) = false) : PySem.W.KdlSrc P w "dict" d d es.size (fun i v => ∃ en, es[i]? = some en ∧ v = en.key) (fun h => RawD h d es ep) where
  type := fun _ hm => hm.type
  there := fun _ hm => let ⟨_, e, _⟩ := hm; ⟨Heap.lt_size e, Heap.lt_size e⟩
  keep := fun _ _ hm hk => let ⟨o, e, x⟩ := hm; ⟨o, hk d (.inl rfl) o e, x⟩
  notList := by decide
  notTuple := by decide
  hint := fun _ _ _ _ hm hq => PySem.W.kdl_hint_dict hm.type hq
  iter := fun B t hh hm => by
    obtain ⟨o, ho, hc, hd⟩ := id hm
    have ne : d ≠ t.heap.objs.size := Nat.ne_of_lt (Heap.lt_size ho)
    refine ⟨_, fun i h => h.IsKeyIter t.heap.objs.size d i es.size ep ∧ RawD h d es ep, fun E Q q => iter_keys lo ho hc hd q, ?_, ⟨_, Heap.get?_push_size _ rfl, rfl, rfl⟩, ⟨o, Heap.get?_push_of_some _ ho, hc, hd⟩⟩
    exact {
      sub := fun b hb => by simp at hb; simp [hb]
      frame := fun i h h' st k => ⟨st.1.at fun u e => k t.heap.objs.size (by simp) u e, let ⟨u, e, x⟩ := st.2; ⟨u, k d (by simp) u e, x⟩⟩
      item := fun i t' Q E hi st q => by
        obtain ⟨it, u, e, c, x⟩ := st
        have hx : es[i]? = some es[i] := Array.getElem?_eq_getElem hi
        refine next_key_item it e x rfl hx fun h' it' sb => ?_
        refine q _ h' t'.toks ⟨_, hx, rfl⟩ ⟨it', u, (sb.2 d ne).trans e, c, x⟩ fun b ob hb eb => (sb.2 b fun z => hb (by simp [z])).trans eb
      done := fun t' Q E st q => by
        obtain ⟨it, u, e, c, x⟩ := st
        exact next_key_end hh it e x rfl (Nat.le_refl _) fun h' eb => q h' t'.toks fun b ob hb z => eb b ob (fun y => hb (by simp [y])) z
      self := fun i t' Q E st q => wpAny_pyIter_keyiter st.1 q }
end
section
variable {X : Cx} (w : World) (hw : X.w = w := by rfl)
include hw
/-- len(d) -/
def rLenN (w : World) : List V → Hp → VK → Prop := fun xs H Q => ∃ (p : Addr) (kvs : KA), xs = [.ref p] ∧ H p = some (dN w p kvs) ∧ KsN H kvs ∧ Q (.int ((kvs.length : Nat) : Int)) H
theorem dictV_raw {h : Heap} {d : Addr} {xs : KVV} (hm : DictV w h d xs) : ∃ es ep, RawD h d es ep ∧ es.size = xs.length ∧ es.toList = xs.map (entV w) := by
  obtain ⟨o, es, ep, ho, hc, hd, he, _⟩ := hm
  exact ⟨es, ep, ⟨o, ho, hc, hd⟩, by rw [← Array.length_toList, he, List.length_map], he⟩
theorem call_len_dN : CallR X (.builtin "len") (rLenN w) := by
  subst hw
  intro pins s σ H xs us Q I r h
  obtain ⟨p, kvs, rfl, hp, ks, q⟩ := h
  obtain ⟨u, rfl, rx⟩ := vals1 r
  obtain rfl : u = .ref p := rx
  obtain ⟨z, lo, ys, rel, dd, _⟩ := dN_of I.hok hp ks
  have hl : kvs.length = ys.length := Paired.length rel
  obtain ⟨es, ep, rd, sz, _⟩ := dictV_raw X.w rfl dd
  refine call_raw_len lo rd (by rw [sz, ← hl]; rw [sizeLine_eq] at z; omega) ?_
  rw [sz, ← hl]
  exact ⟨.int _, H, (I.tok _), ⟨_, rfl⟩, q⟩
/-- list(d): its keys -/
def rListN (w : World) : List V → Hp → VK → Prop := fun xs H Q => ∃ p kvs, xs = [.ref p] ∧ H p = some (dN w p kvs) ∧ KsN H kvs ∧ ∀ q, H q = none → Q (.ref q) (upd H q (.lst (kvs.map fun kv => kv.2.1)))
theorem call_list_dN (hc : X.calm = true) : CallR X (.type "list") (rListN w) := by
  subst hw
  intro pins s σ H xs us Q I r h
  obtain ⟨p, kvs, e, hk, ks, q⟩ := h
  subst e
  obtain ⟨u, eu, rx⟩ := vals1 r
  subst eu
  obtain rfl : u = Value.ref p := rx
  obtain ⟨z, lo, ys, rel, dd, _⟩ := dN_of I.hok hk ks
  have hl : kvs.length = ys.length := Paired.length rel
  obtain ⟨es, ep, rd, sz, he⟩ := dictV_raw X.w rfl dd
  refine PySem.W.kdl_call (raw_src (P := X.prog) (w := X.w) (ep := ep) lo) (I.ok.hd hc) rd (by rw [sz, ← hl]; exact z) fun h' tk acc c' keep hS items => ?_
  refine ⟨.ref s.heap.objs.size, upd H s.heap.objs.size (.lst (kvs.map fun kv => kv.2.1)), I.laid keep (Nat.le_refl _) (show ObjOk X.prog X.w _ _ _ (.lst (kvs.map fun kv => kv.2.1)) from ⟨?_, acc.toList, c', ?_, ?_⟩), rfl, q _ (I.hok.fresh (Nat.le_refl _))⟩
  · rw [List.length_map]; exact z
  · have el : acc.toList.length = acc.size := by simp
    refine vals_of_at (by rw [List.length_map, el, items.1, sz, hl]) fun j x v h1 h2 => ?_
    obtain ⟨en, hen, rfl⟩ := items.2 j v (by rw [← Array.getElem?_toList]; exact h2)
    rw [List.getElem?_map] at h1
    cases h3 : kvs[j]? with
    | none => rw [h3] at h1; cases h1
    | some kv =>
      rw [h3] at h1
      cases h1
      obtain ⟨y, hy, hyr⟩ : ∃ y, ys[j]? = some y ∧ RelV kv.2.1 y.2.1 := by
        have hj : j < ys.length := by rw [← hl]; exact (List.getElem?_eq_some_iff.mp h3).1
        refine ⟨ys[j], List.getElem?_eq_getElem hj, ?_⟩
        exact (paired_at rel h3 (List.getElem?_eq_getElem hj)).2.1
      have : es[j]? = some (entV X.w y) := by rw [← Array.getElem?_toList, he, List.getElem?_map, hy]; rfl
      rw [hen] at this
      cases this
      exact hyr
  · rw [Array.toArray_toList]; exact hS
end
/-- d.setdefault(y, z) -/
def tDSetdX (w : World) (td ty tx : TE) : TE := fun σ H Q => td σ H fun x H1 => (∃ a kvs, x = .ref a ∧ H1 a = some (dN w a kvs) ∧ KsN H1 kvs) ∧ ty σ H1 fun y H2 => tx σ H2 fun z H3 => ∃ (a : Addr) (kvs : KA) (k : NestedKey), x = .ref a ∧ AtN w H3 a kvs y k ∧ kvs.length < sizeLine ∧
  (∀ v, valN kvs k = some v → Q v H3) ∧ (valN kvs k = none → Q z (upd H3 a (dN w a (kvs ++ [(k, y, z)]))))
section
variable {X : Cx} {o e f : Expr} {td ty tx : TE} {apos cpos : Pos} (w : World) (hw : X.w = w := by rfl)
include hw
theorem pe_dsetdX (hu : X.A.units + 40 < cLine) (ho : PE X o td) (he : PE X e ty) (hf : PE X f tx) (m : M2 X o "setdefault" apos e f cpos) : PE X (.Call (.Attribute o "setdefault" apos) [e, f] [] cpos) (tDSetdX w td ty tx) := by
  subst hw
  refine ⟨fun pins s σ H Q I h => ?_⟩
  refine wpAny_Call_method m.base m.few m.line PySem.F.plainAttrs_dict PySem.F.slot_dict_setdefault PySem.F.type_dict_setdefault (thn (ho.run pins s σ H _ I h) fun u s1 ⟨x, H1, I1, rx, ⟨a, kvs0, ex, ea0, ks0⟩, q1⟩ => ?_)
  subst ex
  obtain rfl : u = Value.ref a := rx
  obtain ⟨_, _, _, _, dd, _⟩ := dN_of I1.hok ea0 ks0
  refine ⟨dd.typeIs, ?_, ?_⟩
  · obtain ⟨ob, _, _, h1, h2, _⟩ := dd
    intro a1 ea1
    cases ea1
    exact ⟨ob, h1, h2.2.1⟩
  rw [m.trees]
  refine Calls.callWith_builtin rfl (Calls.evalArgs_plain (Calls.spliced_cons (thn (he.run pins s1 σ H1 _ I1 q1) fun iv s2 ⟨y, H2, I2, ry, q2⟩ =>
    Calls.spliced_cons (thn (hf.run pins s2 σ H2 _ I2 q2) fun fv s3 ⟨z, H3, I3, rz, a', kvs, k, ex2, ⟨ea, ks, kb⟩, hl, q3, q4⟩ => Calls.spliced_nil ?_))))
  cases ex2
  obtain ⟨z', lo, xs, rel, dd, his⟩ := dN_of I3.hok ea ks
  have hz : xs.length ≤ sizeLine := by rw [← Paired.length rel]; exact z'
  refine callSetDefV (by omega) (kb.is I3.hok ry) lo dd his hz (fun v hv => ?_) fun hn h' dd' hs => ?_
  · have q := rel.val k
    rw [hv] at q
    cases q0 : valN kvs k with
    | none => rw [q0] at q; exact (show False from q).elim
    | some v0 =>
      rw [q0] at q
      exact ⟨v0, H3, I3.tok _, q, q3 v0 q0⟩
  · have q := (rel.val k).isSome_eq
    rw [hn] at q
    have q0 : valN kvs k = none := by
      cases e0 : valN kvs k with
      | none => rfl
      | some v => rw [e0] at q; cases q
    have hl2 : (kvs ++ [(k, y, z)]).length ≤ sizeLine := by rw [List.length_append, List.length_singleton]; omega
    have he : ∃ q, h'.get? a = some q := let ⟨q, _, _, hq, _⟩ := dd'; ⟨q, hq⟩
    exact ⟨z, _, d_write I3 (by rw [ea]; exact True.intro) hs he (dN_ok hl2 lo (Paired.snoc rel ⟨rfl, ry, rz⟩) dd'), rz, q4 q0⟩
end
theorem rd_dsetdX {w : World} {td ty tx : TE} {σ : L2.St} {H : Hp} {Q : VK} (h : td σ H fun x H1 => (∃ a kvs, x = .ref a ∧ H1 a = some (dN w a kvs) ∧ KsN H1 kvs) ∧ ty σ H1 fun y H2 => tx σ H2 fun z H3 => ∃ (a : Addr) (kvs : KA) (k : NestedKey), x = .ref a ∧ AtN w H3 a kvs y k ∧ kvs.length < sizeLine ∧
  (∀ v, valN kvs k = some v → Q v H3) ∧ (valN kvs k = none → Q z (upd H3 a (dN w a (kvs ++ [(k, y, z)]))))) : tDSetdX w td ty tx σ H Q := h
end AT

set_option Elab.async false
set_option linter.all false
set_option maxRecDepth 100000
set_option maxHeartbeats 4000000
/-! own words: a dict of the module: d.get(key, other), d[key] -/
namespace AT
open PySem PySem.Spec PyProof.Rows L2
def tKGet2 (K : PySem.W.Frag) (w : World) (td ty tx : TE) : TE := fun σ H Q => td σ H fun x H1 => ∃ (d : Addr), x = .ref d ∧ (∃ es n, K.lookup d = some ⟨.type "dict", none, .dict es n, #[]⟩ ∧ PySem.W.KeysLit w.params es.toList) ∧ ty σ H1 fun y H2 => tx σ H2 fun z H3 => ∃ (s : Str), y = .str s ∧ (d == sysModules) = false ∧
  ((∃ v, KDct K w d s v ∧ Q v H3) ∨ (KMiss K w d s ∧ Q z H3))
section
variable {X : Cx} {o e f : Expr} {td ty tx : TE} {apos cpos : Pos} (K : PySem.W.Frag) (w : World) (hK : X.K = K := by rfl) (hw : X.w = w := by rfl)
include hK hw
theorem pe_kget2 (ho : PE X o td) (he : PE X e ty) (hf : PE X f tx) (m : M2 X o "get" apos e f cpos) : PE X (.Call (.Attribute o "get" apos) [e, f] [] cpos) (tKGet2 K w td ty tx) := by
  subst hK hw
  refine ⟨fun pins s σ H Q I h => ?_⟩
  refine wpAny_Call_method m.base m.few m.line PySem.F.plainAttrs_dict PySem.F.slot_dict_get PySem.F.type_dict_get (thn (ho.run pins s σ H _ I h) fun u s1 ⟨x, H1, I1, rx, d, ex, ⟨es, n, hl, hk⟩, q1⟩ => ?_)
  subst ex
  obtain rfl : u = Value.ref d := rx
  have mp := PySem.W.mapOf_K (prog := X.prog) (w := X.w) I1.kIn hl hk
  refine ⟨mp.typeIs, ?_, ?_⟩
  · obtain ⟨ob, _, _, h1, h2, _⟩ := mp
    intro a1 ea1
    cases ea1
    exact ⟨ob, h1, h2.2.1⟩
  rw [m.trees]
  refine Calls.callWith_builtin rfl (Calls.evalArgs_plain (Calls.spliced_cons (thn (he.run pins s1 σ H1 _ I1 q1) fun iv s2 ⟨y, H2, I2, ry, q2⟩ =>
    Calls.spliced_cons (thn (hf.run pins s2 σ H2 _ I2 q2) fun fv s3 ⟨z, H3, I3, rz, t, ey, lo, q3⟩ => Calls.spliced_nil ?_))))
  subst ey
  obtain ⟨tk, rfl⟩ := (show ∃ tk, iv = Value.str t tk from ry)
  have mp3 := PySem.W.mapOf_K (prog := X.prog) (w := X.w) I3.kIn hl hk
  have meets := meets_dict_get_default (strKind X.prog X.w) d (strKind_is X.prog X.w t tk) lo fv
  refine call_meetsIn PySem.F.slot_dict_get mp3.typeIs PySem.F.entry_dict_get (PySem.F.args_dict_get_3 _ _ _) meets ⟨_, mp3, ?_⟩
  rcases q3 with ⟨v, ⟨_, _, u0, _, _, e, ru⟩, q⟩ | ⟨⟨_, _, _, _, _, e⟩, q⟩
  · have fe := PySem.W.find_K hl e
    rw [fe]
    exact ⟨v, H3, I3.tok _, ru, q⟩
  · have fe := PySem.W.find_K hl e
    rw [fe]
    exact ⟨z, H3, I3.tok _, rz, q⟩
theorem kIxD : IxR X (rIxD K w) := by
  subst hK hw
  exact ix_kdict
end
theorem rd_kget2 {K : PySem.W.Frag} {w : World} {td ty tx : TE} {σ : L2.St} {H : Hp} {Q : VK} (h : td σ H fun x H1 => ∃ (d : Addr), x = .ref d ∧ (∃ es n, K.lookup d = some ⟨.type "dict", none, .dict es n, #[]⟩ ∧ PySem.W.KeysLit w.params es.toList) ∧ ty σ H1 fun y H2 => tx σ H2 fun z H3 => ∃ (s : Str), y = .str s ∧ (d == sysModules) = false ∧
  ((∃ v, KDct K w d s v ∧ Q v H3) ∨ (KMiss K w d s ∧ Q z H3))) : tKGet2 K w td ty tx σ H Q := h
end AT
namespace AT
open PySem L2
theorem kRevA (K : PySem.W.Frag) {X : Cx} (hK : X.K = K := by rfl) {tg e : Expr} {p pos : Pos} {te : TE} (hg : Gl X "reversed") (hm : X.mg "reversed" = none) (he : PE X e te) (hs : PySem.starEach [e] X.env = (false, PySem.eval e X.env) :: PySem.starEach [] X.env := by rfl) : PI X tg (.Call (.Name "reversed" p) [e] [] pos) (RT.iRevA K te) := by
  subst hK
  exact RT.pi_revA hg hm he hs
end AT

set_option Elab.async false
set_option linter.all false
set_option maxRecDepth 100000
set_option maxHeartbeats 4000000
/-! own words: xs.extend(a tuple) -/
namespace AT
open PySem PySem.Spec PyProof.Rows L2
section

theorem meets_ext_tup (l : Addr) (items : Array Value) (n : Nat) (b : Addr) (items2 : Array Value) (hs0 : ¬(!items.isEmpty && Builtin.List.listTooLong (items.size + items2.size)) = true) (hs1 : items.size ≤ sizeLine) (hs2 : items.size + items2.size ≤ sizeLine + 1) :
    Meets (Builtin.«list.extend» ⟨[.ref l, .ref b], []⟩) (fun _ R s => s.heap.get? l = some { cls := .type "list", dict := none, data := .seq items n, slots := #[] } ∧ IsTup s.heap b items2 ∧ R (.ok (.ret Value.none)) { s with heap := s.heap.update l (Obj.mapSeq fun x => x ++ items2), toks := s.toks }) :=
  .of_wp fun prog w A R s h => by
    obtain ⟨hp, g, d, tk, os⟩ := s
    obtain ⟨hl, ⟨⟨oc, od, oz, os2⟩, hb, hc, n2, hd⟩, h⟩ := h
    cases hc
    cases hd
    have f1 := AutoSeq1.idx_int
    have f2 := AutoSeq1.sub_tuple_tuple
    have f3 := AutoSeq1.sub_list_list
    have f4 := AutoSeq1.sub_tuple_list
    have f5 := AutoSeq1.sub_list_tuple
    have hz' : (items ++ items2).size ≤ sizeLine + 1 := by rw [Array.size_append]; exact hs2
    wp_walk using (wpAny_updateSeq hl rfl (hz := hs1) (_hz' := hz')), wpAny_loadPart' hl, wpAny_loadPart' hb
    exact ⟨_, rfl, h⟩
end
def rExtendT (K : PySem.W.Frag) : V → List V → Hp → VK → Prop := fun x vs H Q => ∃ l b xs zs, x = .ref l ∧ vs = [.ref b] ∧ H l = some (.lst xs) ∧ SqT K H b zs ∧ xs.length + zs.length ≤ sizeLine ∧ Q .non (upd H l (.lst (xs ++ zs)))
section
variable {X : Cx}
theorem mt_extendT (K : PySem.W.Frag) (hK : X.K = K := by rfl) : MtM X "list.extend" (rExtendT K) := by
  subst hK
  intro pins s σ H x vs v us Q I rx rv h
  obtain ⟨l, b, xs, zs, rfl, rfl, hH, hB, hz, q⟩ := h
  cases rx
  obtain ⟨u, rfl, ru⟩ := rv.one
  cases ru
  obtain ⟨z, its, n, r, hl, e⟩ := I.lstM hH
  obtain ⟨its2, r2, p2, _⟩ := I.tuple hB
  have hl2 := r2.length
  have hsz : its.toArray.size + its2.toArray.size ≤ sizeLine := by rw [List.size_toArray, List.size_toArray]; omega
  have hlong : ¬ (!its.toArray.isEmpty && Builtin.List.listTooLong (its.toArray.size + its2.toArray.size)) = true := by
    rw [notLongL hsz, Bool.and_false]
    exact Bool.false_ne_true
  refine call_meets PySem.F.slot_list_extend ⟨_, e, rfl⟩ PySem.F.entry_list_extend (PySem.F.args_list_extend_2 _ _)
    (meets_ext_tup l its.toArray n b its2.toArray hlong (by rw [List.size_toArray]; omega) (by omega)) ⟨e, p2, ?_⟩
  refine ⟨.non, _, I.lset (its' := its ++ its2) hH e (by simp) (r.append r2) ?_, rfl, q⟩
  rw [List.length_append]
  omega
end
end AT

set_option Elab.async false
set_option linter.all false
set_option maxRecDepth 100000
set_option maxHeartbeats 4000000
local macro_rules | `(tactic| walk_at "rd1") => `(tactic| with_reducible first
  | refine AT.rd_seq ?_ | refine AT.rd_is ?_ | refine AT.rd_asg ?_ | refine AT.rd_name ?_ | refine AT.rd_var (by with_unfolding_all rfl) ?_ | refine AT.rd_c ?_ | refine AT.rd_op ?_ | refine AT.rd_ret ?_ | refine AT.rd_retN ?_ | refine AT.rd_if ?_ | refine AT.rd_ife ?_ | refine AT.rd_next ?_ | refine AT.rd_drop ?_
  | refine AT.rd_test ?_ | refine AT.rd_tB ?_ | refine AT.rd_bl ?_ | refine AT.rd_not ?_ | refine AT.rd_and ?_ | refine AT.rd_or ?_ | refine AT.rd_nil ?_ | refine AT.rd_cons ?_ | refine AT.rd_lst ?_ | refine AT.rd_tup ?_ | refine AT.rd_cb ?_ | refine AT.rd_chain ?_
  | refine AT.rd_called ?_ | refine AT.rd_calledR ?_ | refine AT.rd_raised ?_ | refine AT.rd_iteT ?_ | refine AT.rd_iteF ?_ | refine AT.rd_iteNF ?_ | refine AT.rd_iteNT ?_ | refine AT.rd_addI ?_ | refine AT.rd_subI ?_ | refine AT.rd_lt ?_ | refine AT.rd_le ?_ | refine AT.rd_gt ?_ | refine AT.rd_ge ?_ | refine AT.rd_eqI ?_ | refine AT.rd_neI ?_ | refine AT.rd_eqS ?_ | refine AT.rd_neS ?_
  | refine AT.rd_int ?_ | refine AT.rd_abs ?_ | refine AT.rd_inS ?_ | refine AT.rd_niS ?_ | refine AT.rd_rng1 ?_ | refine AT.rd_rng2 ?_ | refine AT.rd_bm ?_ | refine AT.rd_fld ?_ | refine AT.rd_sfld ?_ | refine AT.rd_makeR ?_ | refine AT.rd_methR ?_ | refine AT.rd_meth ?_ | refine AT.rd_notV ?_ | refine AT.rd_xf ?_ | refine AT.rd_andV ?_ | refine AT.rd_orV ?_ | refine AT.rd_sl ?_ | refine AT.rd_noPart ?_ | refine AT.rd_part ?_ | refine AT.rd_intv ?_ | refine AT.rd_raised1 ?_ | refine AT.rd_gsub ?_ | refine AT.rd_gN ?_ | refine AT.rd_par3 ?_ | refine AT.rd_dget ?_ | refine AT.rd_din ?_ | refine AT.rd_dnin ?_ | refine AT.rd_dput ?_ | refine AT.rd_disp1T ?_ | refine AT.rd_dnK ?_ | refine AT.rd_dnT ?_ | refine AT.rd_v3 ?_ | refine AT.rd_gE ?_ | refine AT.rd_for ?_ | refine AT.rd_lc ?_ | refine AT.rd_lenL (by assumption) ?_ | refine AT.rd_dsetd ?_ | refine AT.rd_dgetX ?_ | refine AT.rd_dninX ?_ | refine AT.rd_dputX ?_ | refine AT.rd_dsetdB ?_ | refine AT.rd_dgetB ?_ | refine AT.rd_dnB ?_ | refine AT.rd_lenT (by assumption) ?_)
local macro_rules | `(tactic| walk_at "rd") => `(tactic| (repeat walk_at "rd1"))
local macro_rules | `(tactic| walk_at "rc1") => `(tactic| with_reducible first
  | refine AT.rd_seqA ?_ | refine AT.rd_is ?_ | refine AT.rd_seqD ?_ | refine AT.rd_asg ?_ | refine AT.rd_name ?_ | refine AT.rd_var (by with_unfolding_all rfl) ?_ | refine AT.rd_c ?_ | refine AT.rd_op ?_ | refine AT.rd_ret ?_ | refine AT.rd_retN ?_ | refine AT.rd_if ?_ | refine AT.rd_next ?_ | refine AT.rd_drop ?_
  | refine AT.rd_test ?_ | refine AT.rd_tB ?_ | refine AT.rd_bl ?_ | refine AT.rd_not ?_ | refine AT.rd_and ?_ | refine AT.rd_or ?_ | refine AT.rd_nil ?_ | refine AT.rd_cons ?_ | refine AT.rd_lst ?_ | refine AT.rd_tup ?_ | refine AT.rd_cb ?_ | refine AT.rd_chain ?_
  | refine AT.rd_called ?_ | refine AT.rd_calledR ?_ | refine AT.rd_raised ?_ | refine AT.rd_iteT ?_ | refine AT.rd_iteF ?_ | refine AT.rd_iteNF ?_ | refine AT.rd_iteNT ?_ | refine AT.rd_addI ?_ | refine AT.rd_subI ?_ | refine AT.rd_lt ?_ | refine AT.rd_le ?_ | refine AT.rd_gt ?_ | refine AT.rd_ge ?_ | refine AT.rd_eqI ?_ | refine AT.rd_neI ?_ | refine AT.rd_eqS ?_ | refine AT.rd_neS ?_
  | refine AT.rd_int ?_ | refine AT.rd_abs ?_ | refine AT.rd_inS ?_ | refine AT.rd_niS ?_ | refine AT.rd_rng1 ?_ | refine AT.rd_rng2 ?_ | refine AT.rd_bm ?_ | refine AT.rd_fld ?_ | refine AT.rd_sfld ?_ | refine AT.rd_makeR ?_ | refine AT.rd_methR ?_ | refine AT.rd_meth ?_ | refine AT.rd_notV ?_ | refine AT.rd_xf ?_ | refine AT.rd_sl ?_ | refine AT.rd_noPart ?_ | refine AT.rd_part ?_ | refine AT.rd_intv ?_ | refine AT.rd_raised1 ?_ | refine AT.rd_gsub ?_ | refine AT.rd_gN ?_ | refine AT.rd_par3 ?_ | refine AT.rd_dget ?_ | refine AT.rd_din ?_ | refine AT.rd_dnin ?_ | refine AT.rd_dput ?_ | refine AT.rd_disp1T ?_ | refine AT.rd_dnK ?_ | refine AT.rd_dnT ?_ | refine AT.rd_v3 ?_ | refine AT.rd_gE ?_ | refine AT.rd_for ?_ | refine AT.rd_lc ?_ | refine AT.rd_lenL (by assumption) ?_ | refine AT.rd_dsetd ?_ | refine AT.rd_dgetX ?_ | refine AT.rd_dninX ?_ | refine AT.rd_dputX ?_ | refine AT.rd_dsetdB ?_ | refine AT.rd_dgetB ?_ | refine AT.rd_dnB ?_ | refine AT.rd_lenT (by assumption) ?_)
local macro_rules | `(tactic| walk_at "rc") => `(tactic| ((repeat walk_at "rc1"); (try with_reducible refine AT.rd_idS ?_)))
local macro_rules | `(tactic| walk_at "rs") => `(tactic| with_reducible refine AT.rd_seq ?_)

namespace AT
open PySem L2
def top (i : Nat) : Stmt := PySem.Challenge.pw_anytext_k03_printed_patterns.main.body.getD i (.Pass ⟨0, 0, 0, 0⟩)
abbrev s_parts_of : Stmt := top 2
theorem sc_parts_of : FnScope ["term"] ["term"] (defScope s_parts_of) := ⟨rfl, rfl, rfl, by decide +kernel, rfl, by decide +kernel, by decide +kernel⟩
abbrev s_size : Stmt := top 3
theorem sc_size : FnScope ["pattern", "many", "waiting", "term"] ["pattern"] (defScope s_size) := ⟨rfl, rfl, rfl, by decide +kernel, rfl, by decide +kernel, by decide +kernel⟩
abbrev s_flat_terms : Stmt := top 4
theorem sc_flat_terms : FnScope ["pattern", "numbers", "done", "waiting", "term", "has_parts", "parts", "part", "first", "flat"] ["pattern"] (defScope s_flat_terms) := ⟨rfl, rfl, rfl, by decide +kernel, rfl, by decide +kernel, by decide +kernel⟩
abbrev s_print_pattern : Stmt := top 9
theorem sc_print_pattern : FnScope ["letters", "pattern", "printed", "term", "strength"] ["letters", "pattern"] (defScope s_print_pattern) := ⟨rfl, rfl, rfl, by decide +kernel, rfl, by decide +kernel, by decide +kernel⟩
abbrev s__notation : Stmt := top 10
theorem sc__notation : FnScope ["letters", "term", "strength", "printed", "kind", "first"] ["letters", "term", "strength", "printed"] (defScope s__notation) := ⟨rfl, rfl, rfl, by decide +kernel, rfl, by decide +kernel, by decide +kernel⟩
abbrev s__notation_of_letters : Stmt := top 11
theorem sc__notation_of_letters : FnScope ["letters", "kept"] ["letters", "kept"] (defScope s__notation_of_letters) := ⟨rfl, rfl, rfl, by decide +kernel, rfl, by decide +kernel, by decide +kernel⟩
abbrev s__placed : Stmt := top 12
theorem sc__placed : FnScope ["part", "asked", "notation", "strength"] ["part", "asked"] (defScope s__placed) := ⟨rfl, rfl, rfl, by decide +kernel, rfl, by decide +kernel, by decide +kernel⟩
abbrev s_read_pattern : Stmt := top 24
theorem sc_read_pattern : FnScope ["letters", "text", "term", "many"] ["letters", "text"] (defScope s_read_pattern) := ⟨rfl, rfl, rfl, by decide +kernel, rfl, by decide +kernel, by decide +kernel⟩
abbrev s__over : Stmt := top 25
theorem sc__over : FnScope ["kind", "part"] ["kind", "part"] (defScope s__over) := ⟨rfl, rfl, rfl, by decide +kernel, rfl, by decide +kernel, by decide +kernel⟩
abbrev s__over_two : Stmt := top 26
theorem sc__over_two : FnScope ["kind", "first", "second"] ["kind", "first", "second"] (defScope s__over_two) := ⟨rfl, rfl, rfl, by decide +kernel, rfl, by decide +kernel, by decide +kernel⟩
abbrev s__one_of : Stmt := top 27
theorem sc__one_of : FnScope ["kept"] ["kept"] (defScope s__one_of) := ⟨rfl, rfl, rfl, by decide +kernel, rfl, by decide +kernel, by decide +kernel⟩
abbrev s__times : Stmt := top 28
theorem sc__times : FnScope ["part", "many", "found", "_"] ["part", "many"] (defScope s__times) := ⟨rfl, rfl, rfl, by decide +kernel, rfl, by decide +kernel, by decide +kernel⟩
abbrev s__at_most : Stmt := top 29
theorem sc__at_most : FnScope ["part", "many", "found", "_"] ["part", "many"] (defScope s__at_most) := ⟨rfl, rfl, rfl, by decide +kernel, rfl, by decide +kernel, by decide +kernel⟩
abbrev s__between : Stmt := top 30
theorem sc__between : FnScope ["part", "least", "most"] ["part", "least", "most"] (defScope s__between) := ⟨rfl, rfl, rfl, by decide +kernel, rfl, by decide +kernel, by decide +kernel⟩
abbrev s_cell : Stmt := top 33
theorem sc_cell : FnScope ["script", "k"] ["script", "k"] (defScope s_cell) := ⟨rfl, rfl, rfl, by decide +kernel, rfl, by decide +kernel, by decide +kernel⟩
abbrev s_numbers : Stmt := top 34
theorem sc_numbers : FnScope ["cell", "many", "rest", "whole", "numbers", "k", "mixed"] ["cell", "many"] (defScope s_numbers) := ⟨rfl, rfl, rfl, by decide +kernel, rfl, by decide +kernel, by decide +kernel⟩
abbrev s_state : Stmt := top 35
theorem sc_state : FnScope ["script", "start", "many", "numbers", "k", "cell"] ["script", "start", "many"] (defScope s_state) := ⟨rfl, rfl, rfl, by decide +kernel, rfl, by decide +kernel, by decide +kernel⟩
abbrev s_next : Stmt := top 36
theorem sc_next : FnScope ["state", "many", "numbers", "place"] ["state", "many"] (defScope s_next) := ⟨rfl, rfl, rfl, by decide +kernel, rfl, by decide +kernel, by decide +kernel⟩
abbrev s_letters : Stmt := top 37
theorem sc_letters : FnScope ["state", "most", "pool", "letters", "k", "letter"] ["state", "most"] (defScope s_letters) := ⟨rfl, rfl, rfl, by decide +kernel, rfl, by decide +kernel, by decide +kernel⟩
abbrev s_pattern : Stmt := top 38
theorem sc_pattern : FnScope ["letters", "state", "deep", "kind", "pick", "bits", "kept", "k", "first", "word"] ["letters", "state", "deep"] (defScope s_pattern) := ⟨rfl, rfl, rfl, by decide +kernel, rfl, by decide +kernel, by decide +kernel⟩
abbrev s_strength : Stmt := top 39
theorem sc_strength : FnScope ["pattern"] ["pattern"] (defScope s_strength) := ⟨rfl, rfl, rfl, by decide +kernel, rfl, by decide +kernel, by decide +kernel⟩
abbrev s_part : Stmt := top 40
theorem sc_part : FnScope ["letters", "pattern", "asked", "text"] ["letters", "pattern", "asked"] (defScope s_part) := ⟨rfl, rfl, rfl, by decide +kernel, rfl, by decide +kernel, by decide +kernel⟩
abbrev s_print : Stmt := top 41
theorem sc_print : FnScope ["letters", "pattern", "word"] ["letters", "pattern"] (defScope s_print) := ⟨rfl, rfl, rfl, by decide +kernel, rfl, by decide +kernel, by decide +kernel⟩
abbrev s_count : Stmt := top 42
theorem sc_count : FnScope ["pattern", "part"] ["pattern"] (defScope s_count) := ⟨rfl, rfl, rfl, by decide +kernel, rfl, by decide +kernel, by decide +kernel⟩
abbrev s_open : Stmt := top 43
theorem sc_open : FnScope ["text", "most", "now", "letter"] ["text"] (defScope s_open) := ⟨rfl, rfl, rfl, by decide +kernel, rfl, by decide +kernel, by decide +kernel⟩
abbrev s_law : Stmt := top 44
theorem sc_law : FnScope ["script", "state", "letters", "k", "pattern", "turn", "text"] ["script"] (defScope s_law) := ⟨rfl, rfl, rfl, by decide +kernel, rfl, by decide +kernel, by decide +kernel⟩
abbrev s_init : Stmt := inClass (top 14) 0
theorem sc_init : FnScope ["self", "what"] ["self", "what"] (defScope s_init) := ⟨rfl, rfl, rfl, by decide +kernel, rfl, by decide +kernel, by decide +kernel⟩
abbrev s_PatternReader_init : Stmt := inClass (top 31) 0
theorem sc_PatternReader_init : FnScope ["self", "letters", "text"] ["self", "letters", "text"] (defScope s_PatternReader_init) := ⟨rfl, rfl, rfl, by decide +kernel, rfl, by decide +kernel, by decide +kernel⟩
abbrev s_PatternReader_faces : Stmt := inClass (top 31) 1
theorem sc_PatternReader_faces : FnScope ["self", "signs"] ["self", "signs"] (defScope s_PatternReader_faces) := ⟨rfl, rfl, rfl, by decide +kernel, rfl, by decide +kernel, by decide +kernel⟩
abbrev s_PatternReader_take : Stmt := inClass (top 31) 2
theorem sc_PatternReader_take : FnScope ["self", "signs"] ["self", "signs"] (defScope s_PatternReader_take) := ⟨rfl, rfl, rfl, by decide +kernel, rfl, by decide +kernel, by decide +kernel⟩
abbrev s_PatternReader_whole : Stmt := inClass (top 31) 3
theorem sc_PatternReader_whole : FnScope ["self", "found"] ["self"] (defScope s_PatternReader_whole) := ⟨rfl, rfl, rfl, by decide +kernel, rfl, by decide +kernel, by decide +kernel⟩
abbrev s_PatternReader_pattern : Stmt := inClass (top 31) 4
theorem sc_PatternReader_pattern : FnScope ["self", "found"] ["self"] (defScope s_PatternReader_pattern) := ⟨rfl, rfl, rfl, by decide +kernel, rfl, by decide +kernel, by decide +kernel⟩
abbrev s_PatternReader_meets : Stmt := inClass (top 31) 5
theorem sc_PatternReader_meets : FnScope ["self", "found"] ["self"] (defScope s_PatternReader_meets) := ⟨rfl, rfl, rfl, by decide +kernel, rfl, by decide +kernel, by decide +kernel⟩
abbrev s_PatternReader_row : Stmt := inClass (top 31) 6
theorem sc_PatternReader_row : FnScope ["self", "beginnings", "found"] ["self"] (defScope s_PatternReader_row) := ⟨rfl, rfl, rfl, by decide +kernel, rfl, by decide +kernel, by decide +kernel⟩
abbrev s_PatternReader_unary : Stmt := inClass (top 31) 7
theorem sc_PatternReader_unary : FnScope ["self", "nots", "found", "_"] ["self"] (defScope s_PatternReader_unary) := ⟨rfl, rfl, rfl, by decide +kernel, rfl, by decide +kernel, by decide +kernel⟩
abbrev s_PatternReader_counted : Stmt := inClass (top 31) 8
theorem sc_PatternReader_counted : FnScope ["self", "found", "sign", "least", "most"] ["self"] (defScope s_PatternReader_counted) := ⟨rfl, rfl, rfl, by decide +kernel, rfl, by decide +kernel, by decide +kernel⟩
abbrev s_PatternReader_counts : Stmt := inClass (top 31) 9
theorem sc_PatternReader_counts : FnScope ["self", "digits", "least", "most"] ["self"] (defScope s_PatternReader_counts) := ⟨rfl, rfl, rfl, by decide +kernel, rfl, by decide +kernel, by decide +kernel⟩
abbrev s_PatternReader_simple : Stmt := inClass (top 31) 10
theorem sc_PatternReader_simple : FnScope ["self", "sign"] ["self"] (defScope s_PatternReader_simple) := ⟨rfl, rfl, rfl, by decide +kernel, rfl, by decide +kernel, by decide +kernel⟩
abbrev s_PatternReader_bracketed : Stmt := inClass (top 31) 11
theorem sc_PatternReader_bracketed : FnScope ["self", "found"] ["self"] (defScope s_PatternReader_bracketed) := ⟨rfl, rfl, rfl, by decide +kernel, rfl, by decide +kernel, by decide +kernel⟩
abbrev s_PatternReader_chosen : Stmt := inClass (top 31) 12
theorem sc_PatternReader_chosen : FnScope ["self", "opposite", "named", "letter"] ["self"] (defScope s_PatternReader_chosen) := ⟨rfl, rfl, rfl, by decide +kernel, rfl, by decide +kernel, by decide +kernel⟩
structure Txt (K : PySem.W.Frag) (mg : Str → Option Value) where
  a_parts_of : Addr
  d_parts_of : FuncData
  f_parts_of : Fun K "parts_of" "parts_of" s_parts_of a_parts_of d_parts_of
  o_parts_of : Own K mg "parts_of" a_parts_of d_parts_of ["term"]
  a_size : Addr
  d_size : FuncData
  f_size : Fun K "size" "size" s_size a_size d_size
  o_size : Own K mg "size" a_size d_size ["pattern"]
  a_flat_terms : Addr
  d_flat_terms : FuncData
  f_flat_terms : Fun K "flat_terms" "flat_terms" s_flat_terms a_flat_terms d_flat_terms
  o_flat_terms : Own K mg "flat_terms" a_flat_terms d_flat_terms ["pattern"]
  a_print_pattern : Addr
  d_print_pattern : FuncData
  f_print_pattern : Fun K "print_pattern" "print_pattern" s_print_pattern a_print_pattern d_print_pattern
  o_print_pattern : Own K mg "print_pattern" a_print_pattern d_print_pattern ["letters", "pattern"]
  a__notation : Addr
  d__notation : FuncData
  f__notation : Fun K "_notation" "_notation" s__notation a__notation d__notation
  o__notation : Own K mg "_notation" a__notation d__notation ["letters", "term", "strength", "printed"]
  a__notation_of_letters : Addr
  d__notation_of_letters : FuncData
  f__notation_of_letters : Fun K "_notation_of_letters" "_notation_of_letters" s__notation_of_letters a__notation_of_letters d__notation_of_letters
  o__notation_of_letters : Own K mg "_notation_of_letters" a__notation_of_letters d__notation_of_letters ["letters", "kept"]
  a__placed : Addr
  d__placed : FuncData
  f__placed : Fun K "_placed" "_placed" s__placed a__placed d__placed
  o__placed : Own K mg "_placed" a__placed d__placed ["part", "asked"]
  a_read_pattern : Addr
  d_read_pattern : FuncData
  f_read_pattern : Fun K "read_pattern" "read_pattern" s_read_pattern a_read_pattern d_read_pattern
  o_read_pattern : Own K mg "read_pattern" a_read_pattern d_read_pattern ["letters", "text"]
  a__over : Addr
  d__over : FuncData
  f__over : Fun K "_over" "_over" s__over a__over d__over
  o__over : Own K mg "_over" a__over d__over ["kind", "part"]
  a__over_two : Addr
  d__over_two : FuncData
  f__over_two : Fun K "_over_two" "_over_two" s__over_two a__over_two d__over_two
  o__over_two : Own K mg "_over_two" a__over_two d__over_two ["kind", "first", "second"]
  a__one_of : Addr
  d__one_of : FuncData
  f__one_of : Fun K "_one_of" "_one_of" s__one_of a__one_of d__one_of
  o__one_of : Own K mg "_one_of" a__one_of d__one_of ["kept"]
  a__times : Addr
  d__times : FuncData
  f__times : Fun K "_times" "_times" s__times a__times d__times
  o__times : Own K mg "_times" a__times d__times ["part", "many"]
  a__at_most : Addr
  d__at_most : FuncData
  f__at_most : Fun K "_at_most" "_at_most" s__at_most a__at_most d__at_most
  o__at_most : Own K mg "_at_most" a__at_most d__at_most ["part", "many"]
  a__between : Addr
  d__between : FuncData
  f__between : Fun K "_between" "_between" s__between a__between d__between
  o__between : Own K mg "_between" a__between d__between ["part", "least", "most"]
  a_cell : Addr
  d_cell : FuncData
  f_cell : Fun K "_law_cell" "_law_cell" s_cell a_cell d_cell
  o_cell : Own K mg "_law_cell" a_cell d_cell ["script", "k"]
  a_numbers : Addr
  d_numbers : FuncData
  f_numbers : Fun K "_law_numbers" "_law_numbers" s_numbers a_numbers d_numbers
  o_numbers : Own K mg "_law_numbers" a_numbers d_numbers ["cell", "many"]
  a_state : Addr
  d_state : FuncData
  f_state : Fun K "_law_state" "_law_state" s_state a_state d_state
  o_state : Own K mg "_law_state" a_state d_state ["script", "start", "many"]
  a_next : Addr
  d_next : FuncData
  f_next : Fun K "_law_next" "_law_next" s_next a_next d_next
  o_next : Own K mg "_law_next" a_next d_next ["state", "many"]
  a_letters : Addr
  d_letters : FuncData
  f_letters : Fun K "_law_letters" "_law_letters" s_letters a_letters d_letters
  o_letters : Own K mg "_law_letters" a_letters d_letters ["state", "most"]
  a_pattern : Addr
  d_pattern : FuncData
  f_pattern : Fun K "_law_pattern" "_law_pattern" s_pattern a_pattern d_pattern
  o_pattern : Own K mg "_law_pattern" a_pattern d_pattern ["letters", "state", "deep"]
  a_strength : Addr
  d_strength : FuncData
  f_strength : Fun K "_law_strength" "_law_strength" s_strength a_strength d_strength
  o_strength : Own K mg "_law_strength" a_strength d_strength ["pattern"]
  a_part : Addr
  d_part : FuncData
  f_part : Fun K "_law_part" "_law_part" s_part a_part d_part
  o_part : Own K mg "_law_part" a_part d_part ["letters", "pattern", "asked"]
  a_print : Addr
  d_print : FuncData
  f_print : Fun K "_law_print" "_law_print" s_print a_print d_print
  o_print : Own K mg "_law_print" a_print d_print ["letters", "pattern"]
  a_count : Addr
  d_count : FuncData
  f_count : Fun K "_law_count" "_law_count" s_count a_count d_count
  o_count : Own K mg "_law_count" a_count d_count ["pattern"]
  a_open : Addr
  d_open : FuncData
  f_open : Fun K "_law_open" "_law_open" s_open a_open d_open
  o_open : Own K mg "_law_open" a_open d_open ["text"]
  a_law : Addr
  d_law : FuncData
  f_law : Fun K "law" "law" s_law a_law d_law
  o_law : Own K mg "law" a_law d_law ["script"]
  a_init : Addr
  d_init : FuncData
  T_init : Addr
  f_init : FunD K "__init__" "AnytextError.__init__" (defArgs s_init) (defBody s_init) (defScope s_init) [.non] [] a_init d_init
  tI : PySem.W.typeIn K (.ref a_init) = some (.type "function")
  bI : Binds K d_init ["self", "what"] []
  C_AnytextError : Addr
  C_PatternError : Addr
  C_SizeError : Addr
  C_BadPattern : Addr
  C_TooLarge : Addr
  g_BadPattern : mg "BadPattern" = some (.ref C_BadPattern)
  g_TooLarge : mg "TooLarge" = some (.ref C_TooLarge)
  x_BadPattern : ErrX K C_BadPattern a_init
  x_TooLarge : ErrX K C_TooLarge a_init
  clsB : ClsB K
  C_PatternReader : Addr
  g_PatternReader : mg "PatternReader" = some (.ref C_PatternReader)
  cl_PatternReader : Cls K C_PatternReader
  na_PatternReader_letters : NoAttr K C_PatternReader "letters"
  na_PatternReader_text : NoAttr K C_PatternReader "text"
  na_PatternReader_place : NoAttr K C_PatternReader "place"
  na_PatternReader_open_brackets : NoAttr K C_PatternReader "open_brackets"
  a_PatternReader_init : Addr
  d_PatternReader_init : FuncData
  f_PatternReader_init : Fun K "__init__" "PatternReader.__init__" s_PatternReader_init a_PatternReader_init d_PatternReader_init
  b_PatternReader_init : Binds K d_PatternReader_init ["self", "letters", "text"] []
  mk_PatternReader : Mk K C_PatternReader a_PatternReader_init
  a_PatternReader_faces : Addr
  d_PatternReader_faces : FuncData
  f_PatternReader_faces : Fun K "faces" "PatternReader.faces" s_PatternReader_faces a_PatternReader_faces d_PatternReader_faces
  b_PatternReader_faces : Binds K d_PatternReader_faces ["self", "signs"] []
  m_PatternReader_faces : Meth K C_PatternReader "faces" a_PatternReader_faces
  a_PatternReader_take : Addr
  d_PatternReader_take : FuncData
  f_PatternReader_take : Fun K "take" "PatternReader.take" s_PatternReader_take a_PatternReader_take d_PatternReader_take
  b_PatternReader_take : Binds K d_PatternReader_take ["self", "signs"] []
  m_PatternReader_take : Meth K C_PatternReader "take" a_PatternReader_take
  a_PatternReader_whole : Addr
  d_PatternReader_whole : FuncData
  f_PatternReader_whole : Fun K "whole" "PatternReader.whole" s_PatternReader_whole a_PatternReader_whole d_PatternReader_whole
  b_PatternReader_whole : Binds K d_PatternReader_whole ["self"] []
  m_PatternReader_whole : Meth K C_PatternReader "whole" a_PatternReader_whole
  a_PatternReader_pattern : Addr
  d_PatternReader_pattern : FuncData
  f_PatternReader_pattern : Fun K "pattern" "PatternReader.pattern" s_PatternReader_pattern a_PatternReader_pattern d_PatternReader_pattern
  b_PatternReader_pattern : Binds K d_PatternReader_pattern ["self"] []
  m_PatternReader_pattern : Meth K C_PatternReader "pattern" a_PatternReader_pattern
  a_PatternReader_meets : Addr
  d_PatternReader_meets : FuncData
  f_PatternReader_meets : Fun K "meets" "PatternReader.meets" s_PatternReader_meets a_PatternReader_meets d_PatternReader_meets
  b_PatternReader_meets : Binds K d_PatternReader_meets ["self"] []
  m_PatternReader_meets : Meth K C_PatternReader "meets" a_PatternReader_meets
  a_PatternReader_row : Addr
  d_PatternReader_row : FuncData
  f_PatternReader_row : Fun K "row" "PatternReader.row" s_PatternReader_row a_PatternReader_row d_PatternReader_row
  b_PatternReader_row : Binds K d_PatternReader_row ["self"] []
  m_PatternReader_row : Meth K C_PatternReader "row" a_PatternReader_row
  a_PatternReader_unary : Addr
  d_PatternReader_unary : FuncData
  f_PatternReader_unary : Fun K "unary" "PatternReader.unary" s_PatternReader_unary a_PatternReader_unary d_PatternReader_unary
  b_PatternReader_unary : Binds K d_PatternReader_unary ["self"] []
  m_PatternReader_unary : Meth K C_PatternReader "unary" a_PatternReader_unary
  a_PatternReader_counted : Addr
  d_PatternReader_counted : FuncData
  f_PatternReader_counted : Fun K "counted" "PatternReader.counted" s_PatternReader_counted a_PatternReader_counted d_PatternReader_counted
  b_PatternReader_counted : Binds K d_PatternReader_counted ["self"] []
  m_PatternReader_counted : Meth K C_PatternReader "counted" a_PatternReader_counted
  a_PatternReader_counts : Addr
  d_PatternReader_counts : FuncData
  f_PatternReader_counts : Fun K "counts" "PatternReader.counts" s_PatternReader_counts a_PatternReader_counts d_PatternReader_counts
  b_PatternReader_counts : Binds K d_PatternReader_counts ["self"] []
  m_PatternReader_counts : Meth K C_PatternReader "counts" a_PatternReader_counts
  a_PatternReader_simple : Addr
  d_PatternReader_simple : FuncData
  f_PatternReader_simple : Fun K "simple" "PatternReader.simple" s_PatternReader_simple a_PatternReader_simple d_PatternReader_simple
  b_PatternReader_simple : Binds K d_PatternReader_simple ["self"] []
  m_PatternReader_simple : Meth K C_PatternReader "simple" a_PatternReader_simple
  a_PatternReader_bracketed : Addr
  d_PatternReader_bracketed : FuncData
  f_PatternReader_bracketed : Fun K "bracketed" "PatternReader.bracketed" s_PatternReader_bracketed a_PatternReader_bracketed d_PatternReader_bracketed
  b_PatternReader_bracketed : Binds K d_PatternReader_bracketed ["self"] []
  m_PatternReader_bracketed : Meth K C_PatternReader "bracketed" a_PatternReader_bracketed
  a_PatternReader_chosen : Addr
  d_PatternReader_chosen : FuncData
  f_PatternReader_chosen : Fun K "chosen" "PatternReader.chosen" s_PatternReader_chosen a_PatternReader_chosen d_PatternReader_chosen
  b_PatternReader_chosen : Binds K d_PatternReader_chosen ["self"] []
  m_PatternReader_chosen : Meth K C_PatternReader "chosen" a_PatternReader_chosen
  nb_abs : mg "abs" = none
  nb_int : mg "int" = none
  nb_len : mg "len" = none
  nb_list : mg "list" = none
  nb_max : mg "max" = none
  nb_range : mg "range" = none
  nb_reversed : mg "reversed" = none
  nb_sum : mg "sum" = none
  nb_tuple : mg "tuple" = none
  a_LEAVES : Addr
  c_LEAVES : mg "LEAVES" = some (.ref a_LEAVES)
  v_LEAVES : ∀ H, Dp K H (.ref a_LEAVES) (.tuple [.str "none", .str "empty", .str "one"])
  a_STRENGTHS : Addr
  c_STRENGTHS : mg "STRENGTHS" = some (.ref a_STRENGTHS)
  t_STRONGEST : Tok
  c_STRONGEST : mg "STRONGEST" = some (.int 5 t_STRONGEST)
  a_SIGNS : Addr
  c_SIGNS : mg "SIGNS" = some (.ref a_SIGNS)
  t_MOST_CHARACTERS : Tok
  c_MOST_CHARACTERS : mg "MOST_CHARACTERS" = some (.int 400 t_MOST_CHARACTERS)
  t_MOST_OPEN_BRACKETS : Tok
  c_MOST_OPEN_BRACKETS : mg "MOST_OPEN_BRACKETS" = some (.int 12 t_MOST_OPEN_BRACKETS)
  t_MOST_TERMS : Tok
  c_MOST_TERMS : mg "MOST_TERMS" = some (.int 100 t_MOST_TERMS)
  a_EMPTY : Addr
  c_EMPTY : mg "EMPTY" = some (.ref a_EMPTY)
  v_EMPTY : ∀ H, Dp K H (.ref a_EMPTY) (.tuple [.tuple [.str "empty"], .int 1])
structure Dcs {K : PySem.W.Frag} {mg : Str → Option Value} (T : Txt K mg) (w : World) : Prop where
  l_STRENGTHS : ∃ es n, K.lookup T.a_STRENGTHS = some ⟨.type "dict", none, .dict es n, #[]⟩ ∧ PySem.W.KeysLit w.params es.toList
  o_STRENGTHS : (T.a_STRENGTHS == sysModules) = false
  v_STRENGTHS_0 : KDct K w T.a_STRENGTHS "either" (.int 0)
  v_STRENGTHS_1 : KDct K w T.a_STRENGTHS "both" (.int 1)
  v_STRENGTHS_2 : KDct K w T.a_STRENGTHS "join" (.int 2)
  v_STRENGTHS_3 : KDct K w T.a_STRENGTHS "not" (.int 3)
  v_STRENGTHS_4 : KDct K w T.a_STRENGTHS "star" (.int 4)
  m_STRENGTHS_0 : KMiss K w T.a_STRENGTHS "none"
  m_STRENGTHS_1 : KMiss K w T.a_STRENGTHS "empty"
  m_STRENGTHS_2 : KMiss K w T.a_STRENGTHS "one"
  l_SIGNS : ∃ es n, K.lookup T.a_SIGNS = some ⟨.type "dict", none, .dict es n, #[]⟩ ∧ PySem.W.KeysLit w.params es.toList
  o_SIGNS : (T.a_SIGNS == sysModules) = false
  v_SIGNS_0 : KDct K w T.a_SIGNS "either" (.str "|")
  v_SIGNS_1 : KDct K w T.a_SIGNS "both" (.str "&")
  v_SIGNS_2 : KDct K w T.a_SIGNS "join" (.str "")
section
variable {P : Program} {w : World} {K : PySem.W.Frag} {mg : Str → Option Value} {base : Heap}
/-! ### the helpers that all laws have: cells of the script, numbers, a state, the next drawn number -/
def spCell (K : PySem.W.Frag) : Sp := fun vs H Q _ => ∃ (l : Addr) (ns : List Int) (k : Int), vs = [.ref l, .int k] ∧ SqL K H l (ns.map V.int) ∧ 0 ≤ k ∧ ∀ z, Q (.int z) H
theorem ok_cell (T : Txt K mg) : FnOk P w K mg base CX0 1 T.a_cell T.d_cell ["script", "k"] (spCell K) := by
  refine T.f_cell.ok sc_cell (fun vs H Q E h => ?_) (fun cdv A outer s H vs Q E hr h => ?_)
  · obtain ⟨_, _, _, rfl, _⟩ := h; rfl
  · obtain ⟨l, ns, k, rfl, hs, h0, q⟩ := h
    refine ⟨_, (pss_cons (ps_if (pt_cmpR op_ltP (pv 1) (pe_callB (kLen K) (by rfl) T.nb_len (by decide +kernel) (pa_cons (pv 0) pa_nil)) (by first | rfl | exact nomark _))
    (pss_one (ps_ret (pe_ix (kIx K) (pv 0) (pv 1) (fun _ _ => rfl))))
    pss_nil)
  (pss_one (ps_ret pe_int))), ?_⟩
    walk_at "rd"
    refine rd_iteD (fun h1 => ?_) (fun h1 => ?_)
    · walk_at "rd"
      rw [List.length_map] at h1
      refine rd_ixL (v := .int (ns.getD k.toNat 0)) hs ?_ (q _)
      have e : k = (k.toNat : Int) := (Int.toNat_of_nonneg h0).symm
      rw [e]
      refine atI_nat ?_
      rw [List.getElem?_map, Int.toNat_natCast, List.getD_eq_getElem?_getD, List.getElem?_eq_getElem (show k.toNat < ns.length by omega)]
      rfl
    · walk_at "rd"
      exact q 0
/-- numbers from 0 to 999 -/
def Small (ns : List Int) : Prop := ∀ x ∈ ns, 0 ≤ x ∧ x < 1000
theorem Small.more {ns : List Int} {x : Int} (h : Small ns) (h0 : 0 ≤ x) (h1 : x < 1000) : Small (ns ++ [x]) := fun y hy => by
  rcases List.mem_append.mp hy with hy | hy
  · exact h y hy
  · rw [List.mem_singleton.mp hy]; exact ⟨h0, h1⟩
theorem Small.app {ns ms : List Int} (h : Small ns) (k : Small ms) : Small (ns ++ ms) := fun y hy => (List.mem_append.mp hy).elim (h y) (k y)
theorem fmod_small {a m : Int} (h : 0 < m) : 0 ≤ a.fmod m ∧ a.fmod m < m := by
  rw [Int.fmod_eq_emod_of_nonneg _ (Int.le_of_lt h)]
  exact ⟨Int.emod_nonneg _ (by omega), Int.emod_lt_of_pos _ h⟩
/-- a new list of small numbers -/
def spNumbers : Sp := fun vs H Q _ => ∃ (c m : Int), vs = [.int c, .int m] ∧ 0 ≤ m ∧ m ≤ 1000 ∧ ∀ (p : Addr) (ns : List Int) (H' : Hp), H p = none → Ex H H' → H' p = some (.lst (ns.map V.int)) → (ns.length : Int) = m → Small ns → Q (.ref p) H'
theorem append_int {H' : Hp} {p : Addr} {ns : List Int} {D : VK} {K : PySem.W.Frag} {i : Nat} {x : Int} (hp : H' p = some (.lst (ns.map V.int))) (hi : ns.length = i) (hl : i < 100000) (q : D .non (upd H' p (.lst ((ns ++ [x]).map V.int)))) :
    rAppend (.ref p) [.int x] H' D := ⟨p, ns.map V.int, .int x, rfl, rfl, hp, Nat.lt_of_lt_of_le (by rw [List.length_map, hi]; exact hl) (by decide), by rw [List.map_append] at q; exact q⟩
theorem ok_numbers (T : Txt K mg) : FnOk P w K mg base CX0 1 T.a_numbers T.d_numbers ["cell", "many"] spNumbers := by
  refine T.f_numbers.ok sc_numbers (fun vs H Q E h => ?_) (fun cdv A outer s H vs Q E hr h => ?_)
  · obtain ⟨_, _, rfl, _⟩ := h; rfl
  · obtain ⟨c, m, rfl, h0, h1, q⟩ := h
    refine ⟨_, (pss_cons (ps_set (i := 2) sc_numbers.nd rfl (by first | exact Or.inl rfl | exact Or.inr rfl) (pe_callB call_absP (by rfl) T.nb_abs (by decide +kernel) (pa_cons (pv 0) pa_nil)))
  (pss_cons (ps_set (i := 3) sc_numbers.nd rfl (by first | exact Or.inl rfl | exact Or.inr rfl) (pv 2))
  (pss_cons (ps_set (i := 4) sc_numbers.nd rfl (by first | exact Or.inl rfl | exact Or.inr rfl) (pe_lst pa_nil))
  (pss_cons (ps_for PassesOwn.never rfl (pi_range1 (by rfl) T.nb_range (pa_cons (pv 1) pa_nil)) (pg_name (i := 5) sc_numbers.nd rfl (by first | exact Or.inl rfl | exact Or.inr rfl))
    (pss_one (ps_if (PW.pt (pw_and (pt_cmpR op_geP (pv 3) (pe_op op_powP pe_int pe_int) (by first | rfl | exact nomark _)) (pw_and1 (pt_cmpR op_gtP (pv 2) pe_int (by first | rfl | exact nomark _)))))
    (pss_cons (ps_expr (kBm K rfl (pe_bm PySem.F.plainAttrs_list PySem.F.slot_list_append PySem.F.type_list_append mt_append (pv 4) (pa_cons (pe_op op_modP (pe_callTy call_intP (by rfl) T.nb_int (by decide +kernel) (pa_cons (pv 2) pa_nil)) pe_int) pa_nil))))
  (pss_one (ps_set (i := 2) sc_numbers.nd rfl (by first | exact Or.inl rfl | exact Or.inr rfl) (pe_op op_divP (pv 2) pe_int))))
    (pss_cons (ps_set (i := 6) sc_numbers.nd rfl (by first | exact Or.inl rfl | exact Or.inr rfl) (pe_op op_modP (pe_callTy call_intP (by rfl) T.nb_int (by decide +kernel) (pa_cons (pe_op (kAdd K) (pe_op (kAdd K) (pe_op op_mulPP (pv 3) pe_int) (pe_op op_mulPP (pv 5) pe_int)) pe_int) pa_nil)) pe_int))
  (pss_cons (ps_set (i := 6) sc_numbers.nd rfl (by first | exact Or.inl rfl | exact Or.inr rfl) (pe_op op_modP (pe_callTy call_intP (by rfl) T.nb_int (by decide +kernel) (pa_cons (pe_op (kAdd K) (pe_op (kAdd K) (pe_op op_mulPP (pv 6) (pv 6)) (pe_op op_mulPP pe_int (pv 5))) pe_int) pa_nil)) pe_int))
  (pss_one (ps_expr (kBm K rfl (pe_bm PySem.F.plainAttrs_list PySem.F.slot_list_append PySem.F.type_list_append mt_append (pv 4) (pa_cons (pe_op op_modP (pe_callTy call_intP (by rfl) T.nb_int (by decide +kernel) (pa_cons (pe_op op_divP (pv 6) pe_int) pa_nil)) pe_int) pa_nil))))))))))
  (pss_one (ps_ret (pv 4))))))), ?_⟩
    walk_at "rd"
    refine ⟨by decide, fun p hp => ?_⟩
    walk_at "rd"
    refine ⟨_, rfl, by omega, by omega, fo_range (n := m.toNat) (fun i σ H' => ∃ (r : Int) (ns : List Int) (kk mm : Option V), σ = [some (.int c), some (.int m), some (.int r), some (.int (if c < 0 then -c else c)), some (.ref p), kk, mm] ∧ Ex H H' ∧ H' p = some (.lst (ns.map V.int)) ∧ ns.length = i ∧ Small ns)
      ⟨_, [], none, none, rfl, Evl.Ex.new hp, upd_same, rfl, fun x hx => by cases hx⟩ ?_ ?_⟩
    · rintro i σ H' hi ⟨r, ns, kk, mm, rfl, e, hl, hn, sm⟩
      have tl : tyV K "list" (.ref p) H' := .inl ⟨rfl, _, SqL.of hl⟩
      walk_at "rd"
      refine rd_powI ⟨by decide, by decide, by decide⟩ ?_
      walk_at "rd"
      refine rd_ite (fun h2 => ?_) (fun h2 => ?_)
      · walk_at "rd"
        refine rd_ite (fun h3 => ?_) (fun h3 => ?_)
        · walk_at "rd"
          refine ⟨tl, ?_⟩
          walk_at "rd"
          refine rd_modI (by decide) ?_
          walk_at "rd"
          refine append_int (K := K) hl hn (by omega) ?_
          walk_at "rd"
          refine rd_divI ⟨by decide, by decide⟩ ?_
          walk_at "rd"
          have fm := fmod_small (a := r) (m := 1000) (by decide)
          exact ⟨_, ns ++ [_], _, _, rfl, Evl.Ex.mut e hp, upd_same, by rw [List.length_append, hn]; rfl, sm.more fm.1 fm.2⟩
        · walk_at "rd"
          refine rd_mulN (.inr ⟨by decide, by decide⟩) ?_
          walk_at "rd"
          refine rd_mulN (.inr ⟨by decide, by decide⟩) ?_
          walk_at "rd"
          refine rd_modI (by decide) ?_
          walk_at "rd"
          have fa := fmod_small (a := (if c < 0 then -c else c) * 48271 + (i : Int) * 69621 + 11) (m := 2147483647) (by decide)
          refine rd_mulN (.inl ⟨by omega, by omega⟩) ?_
          walk_at "rd"
          refine rd_mulN (.inl ⟨by decide, by decide⟩) ?_
          walk_at "rd"
          refine rd_modI (by decide) ?_
          walk_at "rd"
          refine ⟨tl, ?_⟩
          walk_at "rd"
          refine rd_divI ⟨by decide, by decide⟩ ?_
          walk_at "rd"
          refine rd_modI (by decide) ?_
          walk_at "rd"
          refine append_int (K := K) hl hn (by omega) ?_
          have fm := fun a : Int => fmod_small (a := a) (m := 1000) (by decide)
          exact ⟨_, ns ++ [_], _, _, rfl, Evl.Ex.mut e hp, upd_same, by rw [List.length_append, hn]; rfl, sm.more (fm _).1 (fm _).2⟩
      · walk_at "rd"
        refine rd_mulN (.inr ⟨by decide, by decide⟩) ?_
        walk_at "rd"
        refine rd_mulN (.inr ⟨by decide, by decide⟩) ?_
        walk_at "rd"
        refine rd_modI (by decide) ?_
        walk_at "rd"
        have fa := fmod_small (a := (if c < 0 then -c else c) * 48271 + (i : Int) * 69621 + 11) (m := 2147483647) (by decide)
        refine rd_mulN (.inl ⟨by omega, by omega⟩) ?_
        walk_at "rd"
        refine rd_mulN (.inl ⟨by decide, by decide⟩) ?_
        walk_at "rd"
        refine rd_modI (by decide) ?_
        walk_at "rd"
        refine ⟨tl, ?_⟩
        walk_at "rd"
        refine rd_divI ⟨by decide, by decide⟩ ?_
        walk_at "rd"
        refine rd_modI (by decide) ?_
        walk_at "rd"
        refine append_int (K := K) hl hn (by omega) ?_
        have fm := fun a : Int => fmod_small (a := a) (m := 1000) (by decide)
        exact ⟨_, ns ++ [_], _, _, rfl, Evl.Ex.mut e hp, upd_same, by rw [List.length_append, hn]; rfl, sm.more (fm _).1 (fm _).2⟩
    · rintro σ H' ⟨r, ns, kk, mm, rfl, e, hl, hn, sm⟩
      walk_at "rd"
      exact q p ns H' hp e hl (by omega) sm
/-- a state: the numbers, the place -/
def StAt (H : Hp) (p : Addr) : Prop := ∃ (l : Addr) (ns : List Int) (place : Int), H p = some (.lst [.ref l, .int place]) ∧ H l = some (.lst (ns.map V.int)) ∧ Small ns ∧ 0 < ns.length ∧ ns.length ≤ 100000 ∧ 0 ≤ place
theorem StAt.ex {H H' : Hp} {p : Addr} (h : StAt H p) (e : Ex H H') : StAt H' p := by
  obtain ⟨l, ns, pl, h1, h2, h3⟩ := h
  exact ⟨l, ns, pl, e _ _ h1, e _ _ h2, h3⟩
def spState (K : PySem.W.Frag) : Sp := fun vs H Q _ => ∃ (l : Addr) (ns : List Int) (st many : Int), vs = [.ref l, .int st, .int many] ∧ SqL K H l (ns.map V.int) ∧ 0 ≤ st ∧ st ≤ 1000 ∧ 0 < many ∧ many ≤ 1000 ∧
  ∀ (p : Addr) (H' : Hp), H p = none → Ex H H' → StAt H' p → Q (.ref p) H'
theorem ok_state (T : Txt K mg) : FnOk P w K mg base CX0 2 T.a_state T.d_state ["script", "start", "many"] (spState K) := by
  refine T.f_state.ok sc_state (fun vs H Q E h => ?_) (fun cdv A outer s H vs Q E hr h => ?_)
  · obtain ⟨_, _, _, _, rfl, _⟩ := h; rfl
  · obtain ⟨l, ns, st, many, rfl, hs, h0, h1, h2, h3, q⟩ := h
    refine ⟨_, (pss_cons (ps_set (i := 3) sc_state.nd rfl (by first | exact Or.inl rfl | exact Or.inr rfl) (pe_lst pa_nil))
  (pss_cons (ps_for PassesOwn.never rfl (pi_range2 (by rfl) T.nb_range (pa_cons (pv 1) (pa_cons (pe_op (kAdd K) (pv 1) (pv 2)) pa_nil))) (pg_name (i := 4) sc_state.nd rfl (by first | exact Or.inl rfl | exact Or.inr rfl))
    (pss_cons (ps_set (i := 5) sc_state.nd rfl (by first | exact Or.inl rfl | exact Or.inr rfl) (pe_callE (ok_cell T) (hr.mono (by decide)) T.o_cell (pa_cons (pv 0) (pa_cons (pv 4) pa_nil))))
  (pss_cons (ps_if (pt_cmpR op_ltP (pe_callB call_absP (by rfl) T.nb_abs (by decide +kernel) (pa_cons (pv 5) pa_nil)) (pe_op op_powP pe_int pe_int) (by first | rfl | exact nomark _))
    (pss_one (ps_set (i := 5) sc_state.nd rfl (by first | exact Or.inl rfl | exact Or.inr rfl) (pe_op (kAdd K) (pe_op op_mulPP (pv 5) pe_int) (pv 4))))
    pss_nil)
  (pss_one (ps_set (i := 3) sc_state.nd rfl (by first | exact Or.inl rfl | exact Or.inr rfl) (pe_op (kAdd K) (pv 3) (pe_callE (ok_numbers T) (hr.mono (by decide)) T.o_numbers (pa_cons (pv 5) (pa_cons pe_int pa_nil)))))))))
  (pss_one (ps_ret (pe_lst (pa_cons (pv 3) (pa_cons pe_int pa_nil))))))), ?_⟩
    walk_at "rd"
    refine ⟨by decide, fun p hp => ?_⟩
    walk_at "rd"
    refine ⟨_, _, rfl, ⟨by omega, by omega, by omega, by omega⟩, fo_range2 (lo := st) (n := (st + many - st).toNat) (fun i σ H' => ∃ (p2 : Addr) (ms : List Int) (kk cc : Option V), σ = [some (.ref l), some (.int st), some (.int many), some (.ref p2), kk, cc] ∧ Ex H H' ∧ H p2 = none ∧ H' p2 = some (.lst (ms.map V.int)) ∧ ms.length = i * 20 ∧ Small ms)
      ⟨p, [], none, none, rfl, Evl.Ex.new hp, hp, upd_same, rfl, fun x hx => by cases hx⟩ ?_ ?_⟩
    · rintro i σ H' hi ⟨p2, ms, kk, cc, rfl, e, hp2, hl, hn, sm⟩
      walk_at "rd"
      refine ⟨l, ns, _, rfl, Evl.ex_l e hs, by omega, fun z => ?_⟩
      walk_at "rd"
      refine rd_powI ⟨by decide, by decide, by decide⟩ ?_
      walk_at "rd"
      have hi2 : i < 1000 := by omega
      have fin : ∀ (z2 : Int) (cc : Option V), cc = some (.int z2) → tAsg (tOp (oAdd K) (tVar 3) (tCalled spNumbers (tCons (tVar 5) (tCons (tC (.int 20)) tNil)))) (gName 3)
          { nx := fun σ H' => ∃ (p2 : Addr) (ms : List Int) (kk cc : Option V), σ = [some (.ref l), some (.int st), some (.int many), some (.ref p2), kk, cc] ∧ Ex H H' ∧ H p2 = none ∧ H' p2 = some (.lst (ms.map V.int)) ∧ ms.length = (i + 1) * 20 ∧ Small ms, rt := Q } [some (.ref l), some (.int st), some (.int many), some (.ref p2), some (.int (st + (i : Int))), cc] H' := by
        rintro z2 cc rfl
        walk_at "rd"
        refine ⟨z2, 20, rfl, by decide, by decide, fun p3 ns3 H3 hp3 e3 hl3 hn3 sm3 => ?_⟩
        refine rd_cat (e3 _ _ hl) hl3 ?_ fun p4 hp4 => ?_
        · rw [List.length_map, List.length_map, hn]
          refine Nat.le_trans (show i * 20 + ns3.length ≤ 100000 by omega) (by decide)
        · walk_at "rd"
          refine ⟨p4, ms ++ ns3, _, _, rfl, ex_upd (e.trans e3) hp4, Evl.fresh_back (e.trans e3) hp4, ?_, ?_, sm.app sm3⟩
          · rw [upd_same, List.map_append]
          · rw [List.length_append, hn]; omega
      refine rd_ite (fun h4 => ?_) (fun h4 => ?_)
      · walk_at "rd"
        refine rd_mulN (.inr ⟨by decide, by decide⟩) ?_
        walk_at "rd1"
        walk_at "rd1"
        walk_at "rd1"
        walk_at "rd1"
        exact fin _ _ rfl
      · exact fin _ _ rfl
    · rintro σ H' ⟨p2, ms, kk, cc, rfl, e, hp2, hl, hn, sm⟩
      walk_at "rd"
      refine ⟨by show 2 ≤ sizeLine; decide, fun p3 hp3 => ?_⟩
      refine q p3 _ (Evl.fresh_back e hp3) (ex_upd e hp3) ⟨p2, ms, 0, upd_same, ?_, sm, by omega, by omega, by decide⟩
      rw [upd_ne (ne_of_none hl hp3)]
      exact hl
/-- the same list within -/
def SameIn (p : Addr) (H H' : Hp) : Prop := ∀ (l : Addr) (n : V), H p = some (.lst [.ref l, n]) → ∃ n', H' p = some (.lst [.ref l, n'])
theorem SameIn.trans {p : Addr} {H H1 H2 : Hp} (a : SameIn p H H1) (b : SameIn p H1 H2) : SameIn p H H2 := fun l n e => by
  obtain ⟨n1, e1⟩ := a l n e
  exact b l n1 e1
theorem SameIn.ex {p : Addr} {H H1 H2 : Hp} (a : SameIn p H H1) (b : Ex H1 H2) : SameIn p H H2 := fun l n e => by
  obtain ⟨n1, e1⟩ := a l n e
  exact ⟨n1, b _ _ e1⟩
/-- the next number below many: any -/
def spNext : Sp := fun vs H Q _ => ∃ (p : Addr) (many : Int), vs = [.ref p, .int many] ∧ 0 < many ∧ StAt H p ∧ ∀ (r : Int) (H' : Hp), 0 ≤ r → r < many → StAt H' p → (∀ b o, b ≠ p → H b = some o → H' b = some o) → ((∀ b, H b = none → H' b = none) ∧ SameIn p H H') → Q (.int r) H'
theorem ok_next (T : Txt K mg) : FnOk P w K mg base CX0 1 T.a_next T.d_next ["state", "many"] spNext := by
  refine T.f_next.ok sc_next (fun vs H Q E h => ?_) (fun cdv A outer s H vs Q E hr h => ?_)
  · obtain ⟨_, _, rfl, _⟩ := h; rfl
  · obtain ⟨p, many, rfl, hm, ⟨l, ns, place, h1, h2, sm, l0, l1, p0⟩, q⟩ := h
    have lp : l ≠ p := fun z => by
      rw [z, h1] at h2
      have y := HO.lst.inj (Option.some.inj h2)
      cases ns with
      | nil => cases l0
      | cons a r => cases y
    refine ⟨_, (pss_cons (ps_set (i := 2) sc_next.nd rfl (by first | exact Or.inl rfl | exact Or.inr rfl) (pe_ix (kIx K) (pv 0) pe_int (fun _ _ => rfl)))
  (pss_cons (ps_set (i := 3) sc_next.nd rfl (by first | exact Or.inl rfl | exact Or.inr rfl) (pe_ix (kIx K) (pv 0) pe_int (fun _ _ => rfl)))
  (pss_cons (ps_asg (pe_op (kAdd K) (pv 3) pe_int) (pg_sub (pv 0) pe_int set_list))
  (pss_one (ps_ret (pe_op op_modP (pe_callTy call_intP (by rfl) T.nb_int (by decide +kernel) (pa_cons (pe_op (kAdd K) (pe_ix (kIx K) (pv 2) (pe_op op_modP (pv 3) (pe_callB (kLen K) (by rfl) T.nb_len (by decide +kernel) (pa_cons (pv 2) pa_nil))) (fun _ _ => rfl)) (pe_op op_mulPP (pe_op op_divP (pv 3) (pe_callB (kLen K) (by rfl) T.nb_len (by decide +kernel) (pa_cons (pv 2) pa_nil))) pe_int)) pa_nil)) (pv 1))))))), ?_⟩
    walk_at "rd"
    refine rd_ixL (v := .ref l) (SqL.of h1) (atI_nat (j := 0) rfl) ?_
    walk_at "rd"
    refine rd_ixL (v := .int place) (SqL.of h1) (atI_nat (j := 1) rfl) ?_
    walk_at "rd"
    refine ⟨p, _, 1, 1, rfl, rfl, h1, rfl, ?_⟩
    have h2' : upd H p (.lst (([.ref l, .int place] : List V).set 1 (.int (place + 1)))) l = some (.lst (ns.map V.int)) := by rw [upd_ne lp]; exact h2
    have hq : SqL K (upd H p (.lst (([.ref l, .int place] : List V).set 1 (.int (place + 1))))) l (ns.map V.int) := SqL.of h2'
    walk_at "rd"
    have lz : ((ns.map V.int).length : Int) = ns.length := by rw [List.length_map]
    refine rd_modI (by rw [lz]; omega) ?_
    rw [lz]
    have fm := fmod_small (a := place) (m := (ns.length : Int)) (by omega)
    have e : place.fmod (ns.length : Int) = ((place.fmod (ns.length : Int)).toNat : Int) := (Int.toNat_of_nonneg fm.1).symm
    refine rd_ixL (v := .int (ns.getD (place.fmod (ns.length : Int)).toNat 0)) hq ?_ ?_
    · rw [e]
      refine atI_nat ?_
      rw [List.getElem?_map, Int.toNat_natCast, List.getD_eq_getElem?_getD, List.getElem?_eq_getElem (show (place.fmod (ns.length : Int)).toNat < ns.length by omega)]
      rfl
    · walk_at "rd"
      refine rd_divI ⟨by rw [lz]; omega, by rw [lz]; omega⟩ ?_
      walk_at "rd"
      refine rd_mulN (.inr ⟨by decide, by decide⟩) ?_
      walk_at "rd"
      refine rd_modI (by omega) ?_
      have fr := fun a : Int => fmod_small (a := a) (m := many) hm
      refine q _ _ (fr _).1 (fr _).2 ⟨l, ns, place + 1, upd_same, h2', sm, l0, l1, by omega⟩ (fun b o hb ho => ?_) ⟨fun b hb => ?_, fun l' n' e => ⟨.int (place + 1), ?_⟩⟩
      · rw [upd_ne hb]; exact ho
      · rw [upd_ne (fun z => by rw [z, h1] at hb; cases hb)]; exact hb
      · rw [h1] at e
        have e2 := HO.lst.inj (Option.some.inj e)
        rw [upd_same, ← (List.cons.inj e2).1]
        rfl
/-! ### letters and texts -/
theorem ok_init (T : Txt K mg) : FnOk P w K mg base CX0 1 T.a_init T.d_init ["self", "what"] (spInit K) := by
  refine T.f_init.ok sc_init (fun vs H Q E h => ?_) (fun cdv A outer s H vs Q E hr h => ?_)
  · obtain ⟨_, _, _, rfl, _⟩ := h; rfl
  · obtain ⟨a, C, v, rfl, T1, nw, ha, q⟩ := h
    refine ⟨_, pss_one (ps_ost (pv 0) (pv 1)), ?_⟩
    exact ⟨_, rfl, _, rfl, a, C, rfl, T1, nw, .inl ⟨ha, q⟩⟩
/-! ### drawn letters -/
/-- the state at p goes on; what stood stands -/
structure Dr (p : Addr) (H H' : Hp) : Prop where
  st : StAt H' p
  old : ∀ b o, b ≠ p → H b = some o → H' b = some o
  inn : SameIn p H H'
theorem Dr.trans {p : Addr} {H H1 H2 : Hp} (a : Dr p H H1) (b : Dr p H1 H2) : Dr p H H2 := ⟨b.st, fun c o hc q => b.old c o hc (a.old c o hc q), a.inn.trans b.inn⟩
theorem Dr.ex {p : Addr} {H H1 H2 : Hp} (a : Dr p H H1) (e : Ex H1 H2) : Dr p H H2 := ⟨a.st.ex e, fun c o hc q => e c o (a.old c o hc q), a.inn.ex e⟩
theorem Dr.refl {p : Addr} {H : Hp} (h : StAt H p) : Dr p H H := ⟨h, fun _ _ _ q => q, fun _ n e => ⟨n, e⟩⟩
theorem StAt.some {H : Hp} {p : Addr} (h : StAt H p) : ∃ o, H p = some o := by
  obtain ⟨l, ns, pl, h1, _⟩ := h
  exact ⟨_, h1⟩
/-- new since H0: all of H0 stands -/
theorem Dr.from {p : Addr} {H0 H H' : Hp} (e : Ex H0 H) (hp : H0 p = none) (d : Dr p H H') : Ex H0 H' := fun b o q => d.old b o (ne_of_none q hp) (e b o q)
abbrev PL : Str := "abcdefghijklmnopqrstuvwxyzABCDEFGHIJKLMNOPQRSTUVWXYZ0123456789<>=:_@#"
theorem okS_PL : okS PL := by unfold okS; decide +kernel
theorem pl_len : PL.length = 69 := by decide +kernel
theorem okS_nil : okS "" := by unfold okS; decide +kernel
theorem str_len (x y : Str) : (x ++ y).length = x.length + y.length := by
  rw [TL.len_tl, TL.len_tl, TL.len_tl, TL.tl_append, List.length_append]
theorem at_str {z : Str} {r : Int} (h0 : 0 ≤ r) (h : r < z.length) : ∃ c, atI z.cps.toList r = some c ∧ c ∈ z.cps.toList := by
  obtain ⟨n, rfl⟩ := Int.eq_ofNat_of_zero_le h0
  have hl : n < z.cps.toList.length := by
    have : z.cps.toList.length = z.length := rfl
    omega
  exact ⟨z.cps.toList[n], atI_nat (List.getElem?_eq_getElem hl), List.getElem_mem hl⟩
/-- an alphabet of at most so many letters -/
structure Alpha (z : Str) (most : Nat) : Prop where
  l0 : 0 < z.length
  l1 : z.length ≤ most
  ok : okS z
  nd : z.cps.toList.Nodup
  pl : ∀ c ∈ z.cps.toList, c ∈ PL.cps.toList
def spLetters : Sp := fun vs H Q _ => ∃ (p : Addr) (most : Nat), vs = [.ref p, .int (most : Int)] ∧ 0 < most ∧ most ≤ 100 ∧ StAt H p ∧ ∀ (z : Str) (H' : Hp), Alpha z most → Dr p H H' → Q (.str z) H'
theorem ok_letters (T : Txt K mg) : FnOk P w K mg base CX0 2 T.a_letters T.d_letters ["state", "most"] spLetters := by
  refine T.f_letters.ok sc_letters (fun vs H Q E h => ?_) (fun cdv A outer s H vs Q E hr h => ?_)
  · obtain ⟨_, _, rfl, _⟩ := h; rfl
  · obtain ⟨p, most, rfl, h0, h1, hS, q⟩ := h
    refine ⟨_, (pss_cons (ps_set (i := 2) sc_letters.nd rfl (by first | exact Or.inl rfl | exact Or.inr rfl) pe_str)
  (pss_cons (ps_set (i := 3) sc_letters.nd rfl (by first | exact Or.inl rfl | exact Or.inr rfl) pe_str)
  (pss_cons (ps_for PassesOwn.never rfl (pi_range1 (by rfl) T.nb_range (pa_cons (pe_op (kAdd K) pe_int (pe_callE (ok_next T) (hr.mono (by decide)) T.o_next (pa_cons (pv 0) (pa_cons (pv 1) pa_nil)))) pa_nil)) (pg_name (i := 4) sc_letters.nd rfl (by first | exact Or.inl rfl | exact Or.inr rfl))
    (pss_cons (ps_set (i := 5) sc_letters.nd rfl (by first | exact Or.inl rfl | exact Or.inr rfl) (pe_ix (kIx K) (pv 2) (pe_callE (ok_next T) (hr.mono (by decide)) T.o_next (pa_cons (pv 0) (pa_cons pe_int pa_nil))) (fun _ _ => rfl)))
  (pss_one (ps_if (pt_cmpR (kNotIn K) (pv 5) (pv 3) (by first | rfl | exact nomark _))
    (pss_one (ps_set (i := 3) sc_letters.nd rfl (by first | exact Or.inl rfl | exact Or.inr rfl) (pe_op (kAdd K) (pv 3) (pv 5))))
    pss_nil))))
  (pss_one (ps_ret (pv 3)))))), ?_⟩
    walk_at "rc"
    walk_at "rs"
    walk_at "rc"
    refine ⟨p, most, rfl, by omega, hS, fun r H1 r0 r1 S1 k1 i1 => ?_⟩
    walk_at "rc"
    refine ⟨1 + r, rfl, by omega, by omega, fo_range (n := (1 + r).toNat) (fun i σ H' => ∃ (z : Str) (kk ll : Option V), σ = [some (.ref p), some (.int (most : Int)), some (.str PL), some (.str z), kk, ll] ∧ (0 < i → 0 < z.length) ∧ z.length ≤ i ∧ okS z ∧ z.cps.toList.Nodup ∧ (∀ c ∈ z.cps.toList, c ∈ PL.cps.toList) ∧ Dr p H H')
      ⟨"", none, none, rfl, fun z => absurd z (Nat.lt_irrefl 0), Nat.le_refl 0, okS_nil, List.nodup_nil, (fun c hc => nomatch hc), ⟨S1, k1, i1.2⟩⟩ ?_ ?_⟩
    · rintro i σ H' hi ⟨z, kk, ll, rfl, g0, g1, g2, g3, g4, g5⟩
      walk_at "rc"
      refine ⟨p, 69, rfl, by decide, g5.st, fun r2 H2 r20 r21 S2 k2 i2 => ?_⟩
      obtain ⟨c, hc, cm⟩ := at_str (z := PL) r20 (by rw [pl_len]; exact r21)
      refine rd_ixS (by rw [pl_len]; decide) hc ?_
      walk_at "rc"
      have d2 : Dr p H H2 := g5.trans ⟨S2, k2, i2.2⟩
      refine rd_iteN (fun h3 => ?_) (fun h3 => ?_)
      · walk_at "rc"
        refine rd_addS (Nat.le_trans (show z.length + 1 ≤ 1000 by omega) (by decide)) ?_
        walk_at "rc"
        have e : (z ++ (⟨#[c]⟩ : Str)).cps.toList = z.cps.toList ++ [c] := TL.tl_append z ⟨#[c]⟩
        refine ⟨_, _, _, rfl, fun _ => by rw [str_len]; exact Nat.succ_pos _, by rw [str_len]; exact Nat.succ_le_succ g1, okS_app g2 (okS_one okS_PL cm), ?_, fun d hd => ?_, d2⟩
        · rw [e]
          exact List.nodup_append.mpr ⟨g3, List.nodup_cons.mpr ⟨List.not_mem_nil, List.nodup_nil⟩, fun a ha b hb q => by
            rw [List.mem_singleton.mp hb] at q
            rw [q] at ha
            exact h3 ha⟩
        · rw [e] at hd
          rcases List.mem_append.mp hd with y | y
          · exact g4 d y
          · rw [List.mem_singleton.mp y]; exact cm
      · walk_at "rc"
        refine ⟨_, _, _, rfl, fun _ => ?_, Nat.le_succ_of_le g1, g2, g3, g4, d2⟩
        cases e : z.cps.toList with
        | nil => rw [e] at h3; cases h3
        | cons a l =>
          have e2 : z.length = z.cps.toList.length := rfl
          rw [e2, e]
          exact Nat.succ_pos _
    · rintro σ H' ⟨z, kk, ll, rfl, g0, g1, g2, g3, g4, g5⟩
      walk_at "rc"
      exact q z H' ⟨g0 (by omega), by omega, g2, g3, g4⟩ g5
/-! ### drawing, with data -/
/-- a list that was not there may change -/
theorem Dr.put {p r : Addr} {H H' : Hp} {o : HO} (hS : StAt H p) (d : Dr p H H') (hr : H r = none) : Dr p H (upd H' r o) := by
  obtain ⟨l, ns, pl, h1, h2, _⟩ := hS
  have nS : ∀ b u, b ≠ r → H' b = some u → upd H' r o b = some u := fun b u hb z => by rw [upd_ne hb]; exact z
  have rp : p ≠ r := ne_of_none h1 hr
  obtain ⟨n1, e1⟩ := d.inn l _ h1
  refine ⟨?_, fun b u hb z => nS _ _ (ne_of_none z hr) (d.old b u hb z), fun l2 n2 e2 => ?_⟩
  · obtain ⟨l3, ns3, pl3, g1, g2, g3⟩ := d.st
    rw [e1] at g1
    have e4 := (List.cons.inj (HO.lst.inj (Option.some.inj g1))).1
    have e5 : l = l3 := by cases e4; rfl
    subst e5
    refine ⟨l, ns3, pl3, nS _ _ rp ?_, nS _ _ (ne_of_none h2 hr) g2, g3⟩
    rw [e1, g1]
  · obtain ⟨n3, e3⟩ := d.inn l2 n2 e2
    exact ⟨n3, nS _ _ rp e3⟩
theorem Dr.back {p r : Addr} {H H' : Hp} (hS : StAt H p) (d : Dr p H H') (h : H' r = none) : H r = none := by
  cases q : H r with
  | none => rfl
  | some o =>
    by_cases e : r = p
    · subst e
      obtain ⟨o2, h2⟩ := d.st.some
      rw [h] at h2; cases h2
    · rw [d.old r o e q] at h; cases h
theorem Dr.kp {p : Addr} {S : List Addr} {H H' : Hp} (d : Dr p H H') (hp : p ∈ S) : Kp S H H' := fun b o hb q => d.old b o (fun z => hb (z ▸ hp)) q
theorem Dr.st' {p c : Addr} {H H' : Hp} (d : Dr p H H') (h : ∃ o, H c = some o) : ∃ o, H' c = some o := by
  obtain ⟨o, h⟩ := h
  by_cases e : c = p
  · rw [e]; exact d.st.some
  · exact ⟨o, d.old c o e h⟩
theorem tr_dr {p : Addr} {S : List Addr} {H : Hp} (hS : StAt H p) (hp : p ∈ S) : Tr S H (Dr p) :=
  ⟨Dr.refl hS, fun d => Dr.refl d.st, fun d h => d.st' h, fun a b => a.trans b, fun h d => d.put hS h, fun d => d.kp hp⟩
theorem map_ofD {α : Type} {f : α → PyData} {S : α → Prop} : ∀ (vs : List PyData), (∀ (i : Nat) v, vs[i]? = some v → ∃ a, v = f a ∧ S a) → ∃ as : List α, vs = as.map f ∧ ∀ a ∈ as, S a
  | [], _ => ⟨[], rfl, fun a h => by cases h⟩
  | v :: vs, h => by
    obtain ⟨a, e, s⟩ := h 0 v rfl
    obtain ⟨as, e2, s2⟩ := map_ofD vs fun i v hv => h (i + 1) v (by simpa using hv)
    exact ⟨a :: as, by rw [e, e2]; rfl, fun b hb => by
      rcases List.mem_cons.mp hb with z | z
      · rw [z]; exact s
      · exact s2 b z⟩
theorem rng_Y {n : Nat} : ∀ (i : Nat) (H : Hp) (x : V) (H' : Hp), i < n → (H' = H ∧ x = V.int (i : Nat)) → H' = H ∧ (x = V.int (i : Nat)) := fun _ _ _ _ _ y => y
section
/-! ### the reader of patterns as relations -/
abbrev TN := PyData × Nat
def dT (x : TN) : PyData := .tuple [x.1, .int (x.2 : Int)]
def over (k : Str) (x : TN) : TN := (.tuple [.str k, x.1], x.2 + 1)
def over2 (k : Str) (x y : TN) : TN := (.tuple [.str k, x.1, y.1], x.2 + y.2 + 1)
def emptyT : TN := (.tuple [.str "empty"], 1)
def oneOf (s : Str) : TN := if s = "" then (.tuple [.str "none"], 1) else (.tuple [.str "one", .str s], 1)
def iterJ (x : TN) : Nat → TN
  | 0 => x
  | n + 1 => over2 "join" (iterJ x n) x
def iterE (x : TN) : Nat → TN
  | 0 => over2 "either" emptyT x
  | n + 1 => over2 "either" emptyT (over2 "join" x (iterE x n))
def timesT (x : TN) : Nat → TN
  | 0 => emptyT
  | n + 1 => iterJ x n
def betw (x : TN) (l m : Nat) : TN := if l = m then timesT x l else if l = 0 then iterE x (m - 1) else over2 "join" (timesT x l) (iterE x (m - l - 1))
def notsT (x : TN) : Nat → TN
  | 0 => x
  | n + 1 => over "not" (notsT x n)
inductive Rs
  | ok (x : TN) (p : Nat)
  | bad (q : Nat)
  | deep
def Rs.map (f : TN → TN) : Rs → Rs
  | .ok x p => .ok (f x) p
  | .bad q => .bad q
  | .deep => .deep
abbrev RT := Rs → Prop
def contR (B : TN → Nat → RT) (r : Rs) : RT
  | .ok x q => B x q r
  | .bad q => r = .bad q
  | .deep => r = .deep
def bindR (A : RT) (B : TN → Nat → RT) : RT := fun r => ∃ r1, A r1 ∧ contR B r r1
def mapR (A : RT) (f : TN → TN) : RT := fun r => ∃ r1, A r1 ∧ r = r1.map f
def Det (A : RT) : Prop := ∀ r r', A r → A r' → r = r'
theorem Det.bind {A : RT} {B : TN → Nat → RT} (hA : Det A) (hB : ∀ x q, Det (B x q)) : Det (bindR A B) := fun r r' ⟨a, h1, h2⟩ ⟨b, g1, g2⟩ => by
  obtain rfl := hA a b h1 g1
  cases a with
  | ok x q => exact hB x q r r' h2 g2
  | bad q => exact Eq.trans (show r = _ from h2) (Eq.symm (show r' = _ from g2))
  | deep => exact Eq.trans (show r = _ from h2) (Eq.symm (show r' = _ from g2))
theorem Det.map {A : RT} {f : TN → TN} (hA : Det A) : Det (mapR A f) := fun r r' ⟨a, h1, h2⟩ ⟨b, g1, g2⟩ => by
  obtain rfl := hA a b h1 g1
  rw [h2, g2]
theorem Det.eq {a : Rs} : Det (fun r => r = a) := fun _ _ h g => by
  have h : _ = a := h
  have g : _ = a := g
  rw [h, g]
inductive Lp (go : Nat → Prop) (item : TN → Nat → RT) : TN → Nat → Rs → Prop
  | stop {x : TN} {p : Nat} : ¬ go p → Lp go item x p (.ok x p)
  | step {x x' : TN} {p p' : Nat} {r : Rs} : go p → item x p (.ok x' p') → Lp go item x' p' r → Lp go item x p r
  | bad {x : TN} {p q : Nat} : go p → item x p (.bad q) → Lp go item x p (.bad q)
  | deep {x : TN} {p : Nat} : go p → item x p .deep → Lp go item x p .deep
theorem Det.lp {go : Nat → Prop} {item : TN → Nat → RT} (hi : ∀ x p, Det (item x p)) (x : TN) (p : Nat) : Det (Lp go item x p) := fun r r' h => by
  induction h with
  | stop n =>
    intro g
    cases g with
    | stop _ => rfl
    | step g _ _ => exact absurd g n
    | bad g _ => exact absurd g n
    | deep g _ => exact absurd g n
  | step g i _ ih =>
    intro h'
    cases h' with
    | stop n => exact absurd g n
    | step g' i' h' =>
      obtain ⟨rfl, rfl⟩ := Rs.ok.inj (hi _ _ _ _ i i')
      exact ih h'
    | bad g' i' => exact nomatch hi _ _ _ _ i i'
    | deep g' i' => exact nomatch hi _ _ _ _ i i'
  | bad g i =>
    intro h'
    cases h' with
    | stop n => exact absurd g n
    | step g' i' h' => exact nomatch hi _ _ _ _ i i'
    | bad g' i' => rw [Rs.bad.inj (hi _ _ _ _ i i')]
    | deep g' i' => exact nomatch hi _ _ _ _ i i'
  | deep g i =>
    intro h'
    cases h' with
    | stop n => exact absurd g n
    | step g' i' h' => exact nomatch hi _ _ _ _ i i'
    | bad g' i' => exact nomatch hi _ _ _ _ i i'
    | deep g' i' => rfl
/-- how far a run of kept signs goes -/
def sp (ks : List Nat) : List Nat → Nat
  | [] => 0
  | c :: z => if c ∈ ks then sp ks z + 1 else 0
def fcl (z : List Nat) (p : Nat) (sg : List Nat) : Bool := match z[p]? with
  | some c => decide (c ∈ sg)
  | none => false
theorem fcl_some {z : List Nat} {p : Nat} {sg : List Nat} (h : fcl z p sg = true) : ∃ c, z[p]? = some c ∧ c ∈ sg := by
  unfold fcl at h
  cases e : z[p]? with
  | none => rw [e] at h; exact nomatch h
  | some c => rw [e] at h; exact ⟨c, rfl, of_decide_eq_true h⟩
theorem fcl_of {z : List Nat} {p c : Nat} {sg : List Nat} (h : z[p]? = some c) (hc : c ∈ sg) : fcl z p sg = true := by
  unfold fcl; rw [h]; exact decide_eq_true hc
theorem fcl_one {z : List Nat} {p k : Nat} : fcl z p [k] = decide (z[p]? = some k) := by
  unfold fcl
  cases e : z[p]? with
  | none => simp
  | some c => simp
theorem sp_at {ks : List Nat} : ∀ {z : List Nat} {i : Nat}, i < sp ks z → ∃ c, z[i]? = some c ∧ c ∈ ks
  | [], i, h => absurd h (Nat.not_lt_zero _)
  | c :: z, i, h => by
    have h : i < if c ∈ ks then sp ks z + 1 else 0 := h
    by_cases hc : c ∈ ks
    · rw [if_pos hc] at h
      cases i with
      | zero => exact ⟨c, rfl, hc⟩
      | succ i =>
        obtain ⟨x, hx, hk⟩ := sp_at (ks := ks) (z := z) (i := i) (by omega)
        exact ⟨x, by rw [List.getElem?_cons_succ]; exact hx, hk⟩
    · rw [if_neg hc] at h; omega
theorem sp_stop {ks : List Nat} : ∀ {z : List Nat} {c : Nat}, z[sp ks z]? = some c → c ∉ ks
  | [], c, h => by simp at h
  | x :: z, c, h => by
    have h : (x :: z)[if x ∈ ks then sp ks z + 1 else 0]? = some c := h
    by_cases hc : x ∈ ks
    · rw [if_pos hc, List.getElem?_cons_succ] at h
      exact sp_stop h
    · rw [if_neg hc] at h
      have : x = c := by simpa using h
      rw [← this]; exact hc
theorem sp_le {ks : List Nat} : ∀ z : List Nat, sp ks z ≤ z.length
  | [] => Nat.le_refl _
  | x :: z => by
    have := sp_le (ks := ks) z
    show (if x ∈ ks then sp ks z + 1 else 0) ≤ z.length + 1
    split <;> omega
theorem sp_dr {ks z : List Nat} {p : Nat} (h : p ≤ z.length) : p + sp ks (z.drop p) ≤ z.length := by
  have := sp_le (ks := ks) (z.drop p)
  rw [List.length_drop] at this
  omega
theorem fcl_in {z : List Nat} {p i : Nat} {ks : List Nat} (h : i < sp ks (z.drop p)) : fcl z (p + i) ks = true := by
  obtain ⟨c, hc, hk⟩ := sp_at h
  rw [List.getElem?_drop] at hc
  exact fcl_of hc hk
theorem fcl_out {z : List Nat} {p : Nat} {ks : List Nat} : fcl z (p + sp ks (z.drop p)) ks = false := by
  unfold fcl
  cases e : z[p + sp ks (z.drop p)]? with
  | none => rfl
  | some c =>
    rw [← List.getElem?_drop] at e
    exact decide_eq_false (sp_stop e)
def keptS (L : Str) (named : List Nat) (o : Bool) : Str := ⟨(L.cps.toList.filter fun c => decide (c ∈ named) != o).toArray⟩
/-- a set, behind its bracket, whether it is the opposite -/
def chosO (L : Str) (z : List Nat) (p : Nat) (o : Bool) : Rs :=
  if z[p + sp L.cps.toList (z.drop p)]? = some 93 then .ok (oneOf (keptS L ((z.drop p).take (sp L.cps.toList (z.drop p))) o)) (p + sp L.cps.toList (z.drop p) + 1) else .bad (p + sp L.cps.toList (z.drop p))
def chosR (L : Str) (z : List Nat) (p : Nat) : Rs := if z[p]? = some 94 then chosO L z (p + 1) true else chosO L z p false
/-- counts behind their bracket: least, most, place; or where it can't be -/
def cntR (z : List Nat) (p : Nat) : (Nat × Nat × Nat) ⊕ Nat :=
  match z[p]? with
  | none => .inr p
  | some c =>
    if 48 ≤ c ∧ c ≤ 56 then
      if z[p + 1]? = some 44 then
        match z[p + 2]? with
        | none => .inr (p + 2)
        | some e =>
          if c ≤ e ∧ e ≤ 56 then
            if z[p + 3]? = some 125 then .inl (c - 48, e - 48, p + 4) else .inr (p + 3)
          else .inr (p + 2)
      else if z[p + 1]? = some 125 then .inl (c - 48, c - 48, p + 2) else .inr (p + 1)
    else .inr p
def cntX (x : TN) : (Nat × Nat × Nat) ⊕ Nat → Rs
  | .inl (l, m, q) => .ok (betw x l m) q
  | .inr q => .bad q
def SgC : List Nat := [42, 43, 63, 123]
def cItem (z : List Nat) (x : TN) (p : Nat) : Rs :=
  if z[p]? = some 42 then .ok (over "star" x) (p + 1)
  else if z[p]? = some 43 then .ok (over2 "join" x (over "star" x)) (p + 1)
  else if z[p]? = some 63 then .ok (over2 "either" emptyT x) (p + 1)
  else cntX x (cntR z (p + 1))
section
variable (L : Str) (z : List Nat)
abbrev Brs := Nat → RT
def SimpleR (br : Brs) (p : Nat) : RT := fun r =>
  if fcl z p (L.cps.toList ++ [46, 91, 40]) = true then
    if z[p]? = some 40 then br (p + 1) r
    else if z[p]? = some 91 then r = chosR L z (p + 1)
    else if z[p]? = some 46 then r = .ok (oneOf L) (p + 1)
    else ∃ c, z[p]? = some c ∧ r = .ok (oneOf ⟨#[c]⟩) (p + 1)
  else r = .bad p
def CL : TN → Nat → RT := Lp (fun p => fcl z p SgC = true) (fun x p r => r = cItem z x p)
def CountedR (br : Brs) (p : Nat) : RT := bindR (SimpleR L z br p) (CL z)
def UnaryR (br : Brs) (p : Nat) : RT := mapR (CountedR L z br (p + sp [33] (z.drop p))) (fun x => notsT x (sp [33] (z.drop p)))
def Beg : List Nat := L.cps.toList ++ [46, 91, 40, 33]
def RL (br : Brs) : TN → Nat → RT := Lp (fun p => fcl z p (Beg L) = true) (fun x p => mapR (UnaryR L z br p) (over2 "join" x))
def RowR (br : Brs) (p : Nat) : RT := fun r => if fcl z p (Beg L) = true then bindR (UnaryR L z br p) (RL L z br) r else r = .ok emptyT p
def ML (br : Brs) : TN → Nat → RT := Lp (fun p => z[p]? = some 38) (fun x p => mapR (RowR L z br (p + 1)) (over2 "both" x))
def MeetsR (br : Brs) (p : Nat) : RT := bindR (RowR L z br p) (ML L z br)
def PL' (br : Brs) : TN → Nat → RT := Lp (fun p => z[p]? = some 124) (fun x p => mapR (MeetsR L z br (p + 1)) (over2 "either" x))
def PatX (br : Brs) (p : Nat) : RT := bindR (MeetsR L z br p) (PL' L z br)
def clo (x : TN) (q : Nat) : RT := fun r => r = if z[q]? = some 41 then .ok x (q + 1) else .bad q
def BrR : Nat → Brs
  | 0 => fun _ r => r = .deep
  | b + 1 => fun p => bindR (PatX L z (BrR b) p) (clo z)
def fin (x : TN) (q : Nat) : RT := fun r => r = if q < z.length then .bad q else .ok x q
def WholeR : RT := bindR (PatX L z (BrR L z 12) 0) (fin z)
end
section
variable {L : Str} {z : List Nat} {br : Brs}
theorem det_simple (h : ∀ p, Det (br p)) (p : Nat) : Det (SimpleR L z br p) := fun r r' a b => by
  unfold SimpleR at a b
  by_cases h0 : fcl z p (L.cps.toList ++ [46, 91, 40]) = true
  · rw [if_pos h0] at a b
    by_cases h1 : z[p]? = some 40
    · rw [if_pos h1] at a b; exact h _ _ _ a b
    · rw [if_neg h1] at a b
      by_cases h2 : z[p]? = some 91
      · rw [if_pos h2] at a b; rw [a, b]
      · rw [if_neg h2] at a b
        by_cases h3 : z[p]? = some 46
        · rw [if_pos h3] at a b; rw [a, b]
        · rw [if_neg h3] at a b
          obtain ⟨c, h4, h5⟩ := a
          obtain ⟨d, h6, h7⟩ := b
          rw [h4] at h6
          cases h6
          rw [h5, h7]
  · rw [if_neg h0] at a b; rw [a, b]
theorem det_cl (x : TN) (p : Nat) : Det (CL z x p) := Det.lp (fun _ _ => Det.eq) x p
theorem det_unary (h : ∀ p, Det (br p)) (p : Nat) : Det (UnaryR L z br p) := Det.map (Det.bind (det_simple h _) fun x q => det_cl x q)
theorem det_row (h : ∀ p, Det (br p)) (p : Nat) : Det (RowR L z br p) := fun r r' a b => by
  unfold RowR at a b
  by_cases h0 : fcl z p (Beg L) = true
  · rw [if_pos h0] at a b
    exact Det.bind (det_unary h p) (fun x q => Det.lp (fun _ _ => Det.map (det_unary h _)) x q) r r' a b
  · rw [if_neg h0] at a b; rw [a, b]
theorem det_meets (h : ∀ p, Det (br p)) (p : Nat) : Det (MeetsR L z br p) := Det.bind (det_row h p) fun x q => Det.lp (fun _ _ => Det.map (det_row h _)) x q
theorem det_pat (h : ∀ p, Det (br p)) (p : Nat) : Det (PatX L z br p) := Det.bind (det_meets h p) fun x q => Det.lp (fun _ _ => Det.map (det_meets h _)) x q
theorem det_br : ∀ (b p : Nat), Det (BrR L z b p)
  | 0, _ => Det.eq
  | b + 1, p => Det.bind (det_pat (det_br b) p) fun _ _ => Det.eq
theorem det_whole : Det (WholeR L z) := Det.bind (det_pat (det_br 12) 0) fun _ _ => Det.eq
end
/-! terms hold no lists -/
def NL (x : TN) : Prop := noList x.1 = true
theorem nl_tup {ds : List PyData} (h : ∀ d ∈ ds, noList d = true) : noList (.tuple ds) = true := noList_all h
theorem NL.over {k : Str} {x : TN} (h : NL x) : NL (over k x) := nl_tup fun d hd => by
  simp only [List.mem_cons, List.not_mem_nil, or_false] at hd
  rcases hd with rfl | rfl
  · rfl
  · exact h
theorem NL.over2 {k : Str} {x y : TN} (h : NL x) (g : NL y) : NL (over2 k x y) := nl_tup fun d hd => by
  simp only [List.mem_cons, List.not_mem_nil, or_false] at hd
  rcases hd with rfl | rfl | rfl
  · rfl
  · exact h
  · exact g
theorem NL.emptyT : NL emptyT := rfl
theorem NL.oneOf {s : Str} : NL (oneOf s) := by
  unfold AT.oneOf
  split <;> rfl
theorem NL.iterJ {x : TN} (h : NL x) : ∀ n, NL (iterJ x n)
  | 0 => h
  | n + 1 => (NL.iterJ h n).over2 h
theorem NL.iterE {x : TN} (h : NL x) : ∀ n, NL (iterE x n)
  | 0 => NL.emptyT.over2 h
  | n + 1 => NL.emptyT.over2 (h.over2 (NL.iterE h n))
theorem NL.times {x : TN} (h : NL x) : ∀ n, NL (timesT x n)
  | 0 => NL.emptyT
  | n + 1 => h.iterJ n
theorem NL.betw {x : TN} (h : NL x) (l m : Nat) : NL (betw x l m) := by
  unfold AT.betw
  split
  · exact h.times l
  · split
    · exact h.iterE _
    · exact (h.times l).over2 (h.iterE _)
theorem NL.nots {x : TN} (h : NL x) : ∀ n, NL (notsT x n)
  | 0 => h
  | n + 1 => (NL.nots h n).over
theorem NL.dT {x : TN} (h : NL x) : noList (dT x) = true := nl_tup fun d hd => by
  simp only [List.mem_cons, List.not_mem_nil, or_false] at hd
  rcases hd with rfl | rfl
  · exact h
  · rfl
end
section
theorem kFa {X : Cx} (K : PySem.W.Frag) (hK : X.K = K := by rfl) {st : Stmt} {ta tv : TE} {rd : V → V → Hp → VK → Prop} {f : Str} (h : PS X st (sFldAug X.K ta tv rd f)) : PS X st (sFldAug K ta tv rd f) := hK ▸ h
theorem mono_fld {K : PySem.W.Frag} {i : Nat} {f : Str} : ∀ σ H (Q Q' : VK), (∀ v H1, Q v H1 → Q' v H1) → tFld K (tVar i) f σ H Q → tFld K (tVar i) f σ H Q' := fun _ _ _ _ h ⟨x, e, a, C, dx, fs, v, h1, h2, h3, h4, h5, q⟩ => ⟨x, e, a, C, dx, fs, v, h1, h2, h3, h4, h5, h _ _ q⟩
theorem rd_fa {K : PySem.W.Frag} {ta tv : TE} {rd : V → V → Hp → VK → Prop} {f : Str} {D : Ends} {σ : L2.St} {H : Hp} (h : ta σ H fun x H1 => ∃ a C dx fs v, x = .ref a ∧ H1 a = some (.ins C dx fs) ∧ Cls K C ∧ NoAttr K C f ∧ fs.lookup f = some v ∧ tv σ H1 fun y H2 => rd v y H2 fun z H3 => ∃ dx' fs', H3 a = some (.ins C dx' fs') ∧ fs'.length < 1000 ∧ D.nx σ (upd H3 a (.ins C dx' (putF f z fs')))) : sFldAug K ta tv rd f D σ H := h
def But (m : Addr) (H H' : Hp) : Prop := ∀ b o, b ≠ m → H b = some o → H' b = some o
theorem But.ex {m : Addr} {H H' H2 : Hp} (h : But m H H') (e : Ex H' H2) : But m H H2 := fun b o hb q => e b o (h b o hb q)
theorem But.trans {m : Addr} {H H1 H2 : Hp} (a : But m H H1) (b : But m H1 H2) : But m H H2 := fun c o hc q => b c o hc (a c o hc q)
theorem But.refl {m : Addr} {H : Hp} : But m H H := fun _ _ _ q => q
theorem But.of {m : Addr} {H : Hp} {o : HO} : But m H (upd H m o) := fun b u hb q => by rw [upd_ne hb]; exact q
theorem Ex.but {m : Addr} {H H' : Hp} (e : Ex H H') : But m H H' := fun b o _ q => e b o q
theorem But.hid {m : Addr} {H H' : Hp} (h : But m H H') : Ex (hid [m] H) H' := fun b o z => by
  obtain ⟨z1, z2⟩ := hid_some z
  exact h b o (fun e => z1 (by rw [e]; exact List.mem_singleton.mpr rfl)) z2
theorem But.dp {m C dx : Addr} {fs : List (Str × V)} {H H' : Hp} {v : V} {d : PyData} (h : But m H H') (hm : H m = some (.ins C dx fs)) (n : noList d = true) (hd : Dp K H v d) : Dp K H' v d :=
  (Dp.hidT (S := [m]) (fun b hb => by rw [List.mem_singleton.mp hb]; exact .inl ⟨_, _, _, hm⟩) d n hd).ex h.hid
end
section
variable (T : Txt K mg)
theorem emptyD (T : Txt K mg) (H : Hp) : Dp K H (.ref T.a_EMPTY) (dT emptyT) := T.v_EMPTY H
def spOver (K : PySem.W.Frag) : Sp := fun vs H Q _ => ∃ (k : Str) (v : V) (x : TN), vs = [.str k, v] ∧ Dp K H v (dT x) ∧ ∀ v' H', Dp K H' v' (dT (over k x)) → Ex H H' → Q v' H'
theorem ok__over : FnOk P w K mg base CX0 1 T.a__over T.d__over ["kind", "part"] (spOver K) := by
  refine T.f__over.ok sc__over (fun vs H Q E h => ?_) (fun cdv A outer s H vs Q E hr h => ?_)
  · obtain ⟨_, _, _, rfl, _⟩ := h; rfl
  · obtain ⟨k, v, x, rfl, hv, q⟩ := h
    refine ⟨_, (pss_one (ps_ret (pe_tup (pa_cons (pe_tup (pa_cons (pv 0) (pa_cons (pe_ix (kIx K) (pv 1) pe_int (fun _ _ => rfl)) pa_nil))) (pa_cons (pe_op (kAdd K) (pe_ix (kIx K) (pv 1) pe_int (fun _ _ => rfl)) pe_int) pa_nil))))), ?_⟩
    walk_at "rc"
    refine rd_ixDT (Evl.Ex.refl H) hv (i := 0) rfl fun v0 h0 => ?_
    walk_at "rc"
    refine ⟨by show 2 ≤ sizeLine; decide, fun a ha => ?_⟩
    walk_at "rc"
    refine rd_ixDT (Evl.Ex.new ha) hv (i := 1) rfl fun v1 h1 => ?_
    cases Dp.int_iff h1
    walk_at "rc"
    refine ⟨by show 2 ≤ sizeLine; decide, fun b hb => ?_⟩
    have ea := Evl.Ex.new (o := .tup [.str k, v0]) ha
    have eb := Evl.Ex.new (o := .tup [.ref a, .int ((x.2 : Int) + 1)]) hb
    refine q _ _ (.tup (Evl.st_of upd_same) (.cons (.tup (Evl.ex_t eb (Evl.st_of upd_same)) (.cons (.str _) (.cons ((h0.ex ea).ex eb) .nil))) (.cons ?_ .nil))) (ea.trans eb)
    exact .int _
def spOver2 (K : PySem.W.Frag) : Sp := fun vs H Q _ => ∃ (k : Str) (v u : V) (x y : TN), vs = [.str k, v, u] ∧ Dp K H v (dT x) ∧ Dp K H u (dT y) ∧ ∀ v' H', Dp K H' v' (dT (over2 k x y)) → Ex H H' → Q v' H'
theorem ok__over_two : FnOk P w K mg base CX0 1 T.a__over_two T.d__over_two ["kind", "first", "second"] (spOver2 K) := by
  refine T.f__over_two.ok sc__over_two (fun vs H Q E h => ?_) (fun cdv A outer s H vs Q E hr h => ?_)
  · obtain ⟨_, _, _, _, _, rfl, _⟩ := h; rfl
  · obtain ⟨k, v, u, x, y, rfl, hv, hu, q⟩ := h
    refine ⟨_, (pss_one (ps_ret (pe_tup (pa_cons (pe_tup (pa_cons (pv 0) (pa_cons (pe_ix (kIx K) (pv 1) pe_int (fun _ _ => rfl)) (pa_cons (pe_ix (kIx K) (pv 2) pe_int (fun _ _ => rfl)) pa_nil)))) (pa_cons (pe_op (kAdd K) (pe_op (kAdd K) (pe_ix (kIx K) (pv 1) pe_int (fun _ _ => rfl)) (pe_ix (kIx K) (pv 2) pe_int (fun _ _ => rfl))) pe_int) pa_nil))))), ?_⟩
    walk_at "rc"
    refine rd_ixDT (Evl.Ex.refl H) hv (i := 0) rfl fun v0 h0 => ?_
    walk_at "rc"
    refine rd_ixDT (Evl.Ex.refl H) hu (i := 0) rfl fun u0 g0 => ?_
    walk_at "rc"
    refine ⟨by show 3 ≤ sizeLine; decide, fun a ha => ?_⟩
    walk_at "rc"
    refine rd_ixDT (Evl.Ex.new ha) hv (i := 1) rfl fun v1 h1 => ?_
    cases Dp.int_iff h1
    walk_at "rc"
    refine rd_ixDT (Evl.Ex.new ha) hu (i := 1) rfl fun u1 g1 => ?_
    cases Dp.int_iff g1
    walk_at "rc"
    refine ⟨by show 2 ≤ sizeLine; decide, fun b hb => ?_⟩
    have ea := Evl.Ex.new (o := .tup [.str k, v0, u0]) ha
    have eb := Evl.Ex.new (o := .tup [.ref a, .int ((x.2 : Int) + (y.2 : Int) + 1)]) hb
    refine q _ _ (.tup (Evl.st_of upd_same) (.cons (.tup (Evl.ex_t eb (Evl.st_of upd_same)) (.cons (.str _) (.cons ((h0.ex ea).ex eb) (.cons ((g0.ex ea).ex eb) .nil)))) (.cons ?_ .nil))) (ea.trans eb)
    exact .int _
def spOneOf (K : PySem.W.Frag) : Sp := fun vs H Q _ => ∃ (s : Str), vs = [.str s] ∧ ∀ v' H', Dp K H' v' (dT (oneOf s)) → Ex H H' → Q v' H'
theorem ok__one_of : FnOk P w K mg base CX0 1 T.a__one_of T.d__one_of ["kept"] (spOneOf K) := by
  refine T.f__one_of.ok sc__one_of (fun vs H Q E h => ?_) (fun cdv A outer s H vs Q E hr h => ?_)
  · obtain ⟨_, rfl, _⟩ := h; rfl
  · obtain ⟨k, rfl, q⟩ := h
    refine ⟨_, (pss_cons (ps_if (pt_cmpR (kEq K rfl hr.units) (pv 0) pe_str (by first | rfl | exact nomark _))
    (pss_one (ps_ret (pe_tup (pa_cons (pe_tup (pa_cons pe_str pa_nil)) (pa_cons pe_int pa_nil)))))
    pss_nil)
  (pss_one (ps_ret (pe_tup (pa_cons (pe_tup (pa_cons pe_str (pa_cons (pv 0) pa_nil))) (pa_cons pe_int pa_nil)))))), ?_⟩
    unfold oneOf at q
    walk_at "rc"
    walk_at "rs"
    walk_at "rc"
    refine rd_iteD (fun h => ?_) fun h => ?_
    · have h : k = "" := h
      rw [if_pos h] at q
      walk_at "rc"
      refine ⟨by show 1 ≤ sizeLine; decide, fun a ha => ?_⟩
      walk_at "rc"
      refine ⟨by show 2 ≤ sizeLine; decide, fun b hb => ?_⟩
      have ea := Evl.Ex.new (o := .tup [.str (Str.ofString "none")]) ha
      have eb := Evl.Ex.new (o := .tup [.ref a, .int 1]) hb
      refine q _ _ (.tup (Evl.st_of upd_same) (.cons (.tup (Evl.ex_t eb (Evl.st_of upd_same)) (.cons (.str _) .nil)) (.cons (.int _) .nil))) (ea.trans eb)
    · have h : ¬ k = "" := h
      rw [if_neg h] at q
      walk_at "rc"
      refine ⟨by show 2 ≤ sizeLine; decide, fun a ha => ?_⟩
      walk_at "rc"
      refine ⟨by show 2 ≤ sizeLine; decide, fun b hb => ?_⟩
      have ea := Evl.Ex.new (o := .tup [.str (Str.ofString "one"), .str k]) ha
      have eb := Evl.Ex.new (o := .tup [.ref a, .int 1]) hb
      refine q _ _ (.tup (Evl.st_of upd_same) (.cons (.tup (Evl.ex_t eb (Evl.st_of upd_same)) (.cons (.str _) (.cons (.str _) .nil))) (.cons (.int _) .nil))) (ea.trans eb)
def spTimes (K : PySem.W.Frag) : Sp := fun vs H Q _ => ∃ (v : V) (x : TN) (n : Nat), vs = [v, .int (n : Int)] ∧ Dp K H v (dT x) ∧ n ≤ 1000 ∧ ∀ v' H', Dp K H' v' (dT (timesT x n)) → Ex H H' → Q v' H'
theorem ok__times : FnOk P w K mg base CX0 2 T.a__times T.d__times ["part", "many"] (spTimes K) := by
  refine T.f__times.ok sc__times (fun vs H Q E h => ?_) (fun cdv A outer s H vs Q E hr h => ?_)
  · obtain ⟨_, _, _, rfl, _⟩ := h; rfl
  · obtain ⟨v, x, n, rfl, hv, hn, q⟩ := h
    refine ⟨_, (pss_cons (ps_if (pt_cmpR (kEq K rfl hr.units) (pv 1) pe_int (by first | rfl | exact nomark _))
    (pss_one (ps_ret (pe_globR (by rfl) T.c_EMPTY)))
    pss_nil)
  (pss_cons (ps_set (i := 2) sc__times.nd rfl (by first | exact Or.inl rfl | exact Or.inr rfl) (pv 0))
  (pss_cons (ps_for PassesOwn.never rfl (pi_range1 (by rfl) T.nb_range (pa_cons (pe_op op_subP (pv 1) pe_int) pa_nil)) (pg_name (i := 3) sc__times.nd rfl (by first | exact Or.inl rfl | exact Or.inr rfl))
    (pss_one (ps_set (i := 2) sc__times.nd rfl (by first | exact Or.inl rfl | exact Or.inr rfl) (pe_callE (ok__over_two T) (hr.mono (by decide)) T.o__over_two (pa_cons pe_str (pa_cons (pv 2) (pa_cons (pv 0) pa_nil)))))))
  (pss_one (ps_ret (pv 2)))))), ?_⟩
    walk_at "rc"
    walk_at "rs"
    walk_at "rc"
    refine rd_iteD (fun h => ?_) fun h => ?_
    · have h : n = 0 := by omega
      subst h
      walk_at "rc"
      exact q _ _ (emptyD T H) (Evl.Ex.refl H)
    · obtain ⟨n, rfl⟩ : ∃ k, n = k + 1 := ⟨n - 1, by omega⟩
      walk_at "rc"
      walk_at "rs"
      walk_at "rc"
      refine ⟨_, rfl, by omega, by omega, ?_⟩
      refine fo_range (fun i σ H' => ∃ (u : V) (s3 : Option V), σ = [some v, some (.int ((n + 1 : Nat) : Int)), some u, s3] ∧ Ex H H' ∧ Dp K H' u (dT (iterJ x i)))
        ⟨v, _, rfl, Evl.Ex.refl H, hv⟩ ?_ ?_
      · rintro i σ H1 hi ⟨u, s3, rfl, e1, hu⟩
        walk_at "rc"
        refine ⟨"join", u, v, _, _, rfl, hu, hv.ex e1, fun v' H2 h2 e2 => ?_⟩
        walk_at "rc"
        exact ⟨v', _, rfl, e1.trans e2, h2⟩
      · rintro σ H1 ⟨u, s3, rfl, e1, hu⟩
        walk_at "rc"
        refine q _ _ ?_ e1
        have : (((n + 1 : Nat) : Int) - 1).toNat = n := by omega
        rw [this] at hu
        exact hu
def spAtMost (K : PySem.W.Frag) : Sp := fun vs H Q _ => ∃ (v : V) (x : TN) (n : Nat), vs = [v, .int (n : Int)] ∧ Dp K H v (dT x) ∧ n ≤ 1000 ∧ ∀ v' H', Dp K H' v' (dT (iterE x (n - 1))) → Ex H H' → Q v' H'
theorem ok__at_most : FnOk P w K mg base CX0 2 T.a__at_most T.d__at_most ["part", "many"] (spAtMost K) := by
  refine T.f__at_most.ok sc__at_most (fun vs H Q E h => ?_) (fun cdv A outer s H vs Q E hr h => ?_)
  · obtain ⟨_, _, _, rfl, _⟩ := h; rfl
  · obtain ⟨v, x, n, rfl, hv, hn, q⟩ := h
    refine ⟨_, (pss_cons (ps_set (i := 2) sc__at_most.nd rfl (by first | exact Or.inl rfl | exact Or.inr rfl) (pe_callE (ok__over_two T) (hr.mono (by decide)) T.o__over_two (pa_cons pe_str (pa_cons (pe_globR (by rfl) T.c_EMPTY) (pa_cons (pv 0) pa_nil)))))
  (pss_cons (ps_for PassesOwn.never rfl (pi_range1 (by rfl) T.nb_range (pa_cons (pe_op op_subP (pv 1) pe_int) pa_nil)) (pg_name (i := 3) sc__at_most.nd rfl (by first | exact Or.inl rfl | exact Or.inr rfl))
    (pss_one (ps_set (i := 2) sc__at_most.nd rfl (by first | exact Or.inl rfl | exact Or.inr rfl) (pe_callE (ok__over_two T) (hr.mono (by decide)) T.o__over_two (pa_cons pe_str (pa_cons (pe_globR (by rfl) T.c_EMPTY) (pa_cons (pe_callE (ok__over_two T) (hr.mono (by decide)) T.o__over_two (pa_cons pe_str (pa_cons (pv 0) (pa_cons (pv 2) pa_nil)))) pa_nil)))))))
  (pss_one (ps_ret (pv 2))))), ?_⟩
    walk_at "rc"
    refine ⟨"either", _, v, _, _, rfl, emptyD T H, hv, fun v1 H1 h1 e1 => ?_⟩
    walk_at "rc"
    walk_at "rs"
    walk_at "rc"
    refine ⟨_, rfl, by omega, by omega, ?_⟩
    refine fo_range (fun i σ H' => ∃ (u : V) (s3 : Option V), σ = [some v, some (.int (n : Int)), some u, s3] ∧ Ex H H' ∧ Dp K H' u (dT (iterE x i)))
      ⟨v1, _, rfl, e1, h1⟩ ?_ ?_
    · rintro i σ H1 hi ⟨u, s3, rfl, e1, hu⟩
      walk_at "rc"
      refine ⟨"join", v, u, _, _, rfl, hv.ex e1, hu, fun v2 H2 h2 e2 => ?_⟩
      walk_at "rc"
      refine ⟨"either", _, v2, _, _, rfl, emptyD T H2, h2, fun v3 H3 h3 e3 => ?_⟩
      walk_at "rc"
      exact ⟨v3, _, rfl, (e1.trans e2).trans e3, h3⟩
    · rintro σ H1 ⟨u, s3, rfl, e1, hu⟩
      walk_at "rc"
      refine q _ _ ?_ e1
      have : ((n : Int) - 1).toNat = n - 1 := by omega
      rw [this] at hu
      exact hu
def spBetween (K : PySem.W.Frag) : Sp := fun vs H Q _ => ∃ (v : V) (x : TN) (l m : Nat), vs = [v, .int (l : Int), .int (m : Int)] ∧ Dp K H v (dT x) ∧ l ≤ m ∧ m ≤ 100 ∧ ∀ v' H', Dp K H' v' (dT (betw x l m)) → Ex H H' → Q v' H'
theorem ok__between : FnOk P w K mg base CX0 3 T.a__between T.d__between ["part", "least", "most"] (spBetween K) := by
  refine T.f__between.ok sc__between (fun vs H Q E h => ?_) (fun cdv A outer s H vs Q E hr h => ?_)
  · obtain ⟨_, _, _, _, rfl, _⟩ := h; rfl
  · obtain ⟨v, x, l, m, rfl, hv, lm, hm, q⟩ := h
    refine ⟨_, (pss_cons (ps_if (pt_cmpR (kEq K rfl hr.units) (pv 1) (pv 2) (by first | rfl | exact nomark _))
    (pss_one (ps_ret (pe_callE (ok__times T) (hr.mono (by decide)) T.o__times (pa_cons (pv 0) (pa_cons (pv 1) pa_nil)))))
    pss_nil)
  (pss_cons (ps_if (pt_cmpR (kEq K rfl hr.units) (pv 1) pe_int (by first | rfl | exact nomark _))
    (pss_one (ps_ret (pe_callE (ok__at_most T) (hr.mono (by decide)) T.o__at_most (pa_cons (pv 0) (pa_cons (pv 2) pa_nil)))))
    pss_nil)
  (pss_one (ps_ret (pe_callE (ok__over_two T) (hr.mono (by decide)) T.o__over_two (pa_cons pe_str (pa_cons (pe_callE (ok__times T) (hr.mono (by decide)) T.o__times (pa_cons (pv 0) (pa_cons (pv 1) pa_nil))) (pa_cons (pe_callE (ok__at_most T) (hr.mono (by decide)) T.o__at_most (pa_cons (pv 0) (pa_cons (pe_op op_subP (pv 2) (pv 1)) pa_nil))) pa_nil)))))))), ?_⟩
    unfold betw at q
    walk_at "rc"
    walk_at "rs"
    walk_at "rc"
    refine rd_iteD (fun h => ?_) fun h => ?_
    · rw [if_pos (show l = m by omega)] at q
      walk_at "rc"
      exact ⟨v, x, l, rfl, hv, by omega, fun v' H' h e => q v' H' h e⟩
    · rw [if_neg (show ¬ l = m by omega)] at q
      walk_at "rc"
      walk_at "rs"
      walk_at "rc"
      refine rd_iteD (fun h => ?_) fun h => ?_
      · rw [if_pos (show l = 0 by omega)] at q
        walk_at "rc"
        exact ⟨v, x, m, rfl, hv, by omega, fun v' H' h e => q v' H' h e⟩
      · rw [if_neg (show ¬ l = 0 by omega)] at q
        walk_at "rc"
        refine ⟨v, x, l, rfl, hv, by omega, fun v1 H1 h1 e1 => ?_⟩
        walk_at "rc"
        refine ⟨v, x, m - l, by rw [show ((m : Int)) - (l : Int) = ((m - l : Nat) : Int) by omega], hv.ex e1, by omega, fun v2 H2 h2 e2 => ?_⟩
        exact ⟨"join", v1, v2, _, _, rfl, h1.ex e2, h2, fun v3 H3 h3 e3 => q v3 H3 h3 ((e1.trans e2).trans e3)⟩
end
section
variable (T : Txt K mg)
def Rdr (H : Hp) (m : Addr) (L z : Str) (p o : Nat) : Prop := ∃ dx, H m = some (.ins T.C_PatternReader dx [("letters", .str L), ("text", .str z), ("place", .int (p : Int)), ("open_brackets", .int (o : Int))])
theorem Rdr.ex {H H' : Hp} {m : Addr} {L z : Str} {p o : Nat} (h : Rdr T H m L z p o) (e : Ex H H') : Rdr T H' m L z p o := by
  obtain ⟨dx, h⟩ := h
  exact ⟨dx, e _ _ h⟩
theorem Rdr.ins {H : Hp} {m : Addr} {L z : Str} {p o : Nat} (h : Rdr T H m L z p o) : ∃ C dx fs, H m = some (.ins C dx fs) := by
  obtain ⟨dx, h⟩ := h
  exact ⟨_, _, _, h⟩
theorem Rdr.dp {H H' : Hp} {m : Addr} {L z : Str} {p o : Nat} (h : Rdr T H m L z p o) (b : But m H H') {v : V} {x : TN} (nx : NL x) (hv : Dp K H v (dT x)) : Dp K H' v (dT x) := by
  obtain ⟨dx, h⟩ := h
  exact b.dp h nx.dT hv
theorem rdr_at {H : Hp} {m : Addr} {L z : Str} {p o : Nat} {dx : Addr} {v : V} (hv : v = .int (p : Int)) {q : V} : Rdr T (upd H m (.ins T.C_PatternReader dx (putF "place" v [("letters", .str L), ("text", .str z), ("place", q), ("open_brackets", .int (o : Int))]))) m L z p o := by
  subst hv
  exact ⟨dx, upd_same⟩
theorem rdr_ob {H : Hp} {m : Addr} {L z : Str} {p o : Nat} {dx : Addr} {v : V} (hv : v = .int (o : Int)) {q : V} : Rdr T (upd H m (.ins T.C_PatternReader dx (putF "open_brackets" v [("letters", .str L), ("text", .str z), ("place", .int (p : Int)), ("open_brackets", q)]))) m L z p o := by
  subst hv
  exact ⟨dx, upd_same⟩
def spRInit : Sp := fun vs H Q _ => ∃ (m dx : Addr) (L z : Str), vs = [.ref m, .str L, .str z] ∧ H m = some (.ins T.C_PatternReader dx []) ∧ ∀ H', But m H H' → Rdr T H' m L z 0 0 → Q .non H'
theorem ok_PatternReader_init : FnOk P w K mg base CX0 1 T.a_PatternReader_init T.d_PatternReader_init ["self", "letters", "text"] (spRInit T) := by
  refine T.f_PatternReader_init.ok sc_PatternReader_init (fun vs H Q E h => ?_) (fun cdv A outer s H vs Q E hr h => ?_)
  · obtain ⟨_, _, _, _, rfl, _⟩ := h; rfl
  · obtain ⟨m, dx, L, z, rfl, hm, q⟩ := h
    refine ⟨_, (pss_cons (kSf K rfl (ps_fld (pv 0) (pv 1) rfl))
  (pss_cons (kSf K rfl (ps_fld (pv 0) (pv 2) rfl))
  (pss_cons (kSf K rfl (ps_fld (pv 0) pe_int rfl))
  (pss_one (kSf K rfl (ps_fld (pv 0) pe_int rfl)))))), ?_⟩
    walk_at "rs"
    walk_at "rc"
    refine ⟨m, T.C_PatternReader, dx, [], rfl, hm, T.cl_PatternReader, T.na_PatternReader_letters, by show 0 < 1000; decide, ?_⟩
    have b1 : But m H (upd H m (.ins T.C_PatternReader dx (putF "letters" (.str L) []))) := But.of
    have m1 : upd H m (.ins T.C_PatternReader dx (putF "letters" (.str L) [])) m = some (.ins T.C_PatternReader dx [("letters", .str L)]) := upd_same
    generalize upd H m (.ins T.C_PatternReader dx (putF "letters" (.str L) [])) = H1 at b1 m1
    walk_at "rc"
    walk_at "rs"
    walk_at "rc"
    refine ⟨m, T.C_PatternReader, dx, _, rfl, m1, T.cl_PatternReader, T.na_PatternReader_text, by show 1 < 1000; decide, ?_⟩
    have b2 : But m H (upd H1 m (.ins T.C_PatternReader dx (putF "text" (.str z) [("letters", .str L)]))) := b1.trans But.of
    have m2 : upd H1 m (.ins T.C_PatternReader dx (putF "text" (.str z) [("letters", .str L)])) m = some (.ins T.C_PatternReader dx [("letters", .str L), ("text", .str z)]) := upd_same
    generalize upd H1 m (.ins T.C_PatternReader dx (putF "text" (.str z) [("letters", .str L)])) = H2 at b2 m2
    walk_at "rc"
    walk_at "rs"
    walk_at "rc"
    refine ⟨m, T.C_PatternReader, dx, _, rfl, m2, T.cl_PatternReader, T.na_PatternReader_place, by show 2 < 1000; decide, ?_⟩
    have b3 : But m H (upd H2 m (.ins T.C_PatternReader dx (putF "place" (.int 0) [("letters", .str L), ("text", .str z)]))) := b2.trans But.of
    have m3 : upd H2 m (.ins T.C_PatternReader dx (putF "place" (.int 0) [("letters", .str L), ("text", .str z)])) m = some (.ins T.C_PatternReader dx [("letters", .str L), ("text", .str z), ("place", .int 0)]) := upd_same
    generalize upd H2 m (.ins T.C_PatternReader dx (putF "place" (.int 0) [("letters", .str L), ("text", .str z)])) = H3 at b3 m3
    walk_at "rc"
    refine ⟨m, T.C_PatternReader, dx, _, rfl, m3, T.cl_PatternReader, T.na_PatternReader_open_brackets, by show 3 < 1000; decide, ?_⟩
    exact q _ (b3.trans But.of) ⟨dx, upd_same⟩
theorem l400 {z : Str} (h : z.length ≤ 400) : z.length ≤ sizeLine := Nat.le_trans h (by decide)
def spFaces : Sp := fun vs H Q _ => ∃ (m : Addr) (L z : Str) (p o : Nat) (sg : Str), vs = [.ref m, .str sg] ∧ Rdr T H m L z p o ∧ z.length ≤ 400 ∧ Q (.bl (fcl z.cps.toList p sg.cps.toList)) H
theorem ok_PatternReader_faces : FnOk P w K mg base CX0 1 T.a_PatternReader_faces T.d_PatternReader_faces ["self", "signs"] (spFaces T) := by
  refine T.f_PatternReader_faces.ok sc_PatternReader_faces (fun vs H Q E h => ?_) (fun cdv A outer s H vs Q E hr h => ?_)
  · obtain ⟨_, _, _, _, _, _, rfl, _⟩ := h; rfl
  · obtain ⟨m, L, z, p, o, sg, rfl, ⟨dx, hm⟩, lz, q⟩ := h
    have lz := l400 lz
    refine ⟨_, (pss_one (ps_ret (pe_and (pe_cmpR op_ltP (kFld K rfl (pe_fld (pv 0) rfl)) (pe_callB (kLen K) (by rfl) T.nb_len (by decide +kernel) (pa_cons (kFld K rfl (pe_fld (pv 0) rfl)) pa_nil)) (by first | rfl | exact nomark _)) (pe_one (pe_cmpR (kIn K) (pe_ix (kIx K) (kFld K rfl (pe_fld (pv 0) rfl)) (kFld K rfl (pe_fld (pv 0) rfl)) (fun _ _ => rfl)) (pv 1) (by first | rfl | exact nomark _)))))), ?_⟩
    walk_at "rc"
    refine rd_andV ?_
    walk_at "rc"
    refine ⟨m, _, dx, _, _, rfl, hm, T.cl_PatternReader, T.na_PatternReader_place, rfl, ?_⟩
    walk_at "rc"
    refine ⟨m, _, dx, _, _, rfl, hm, T.cl_PatternReader, T.na_PatternReader_text, rfl, ?_⟩
    walk_at "rc"
    refine rd_lenS lz ?_
    walk_at "rc"
    refine rd_iteD (fun h => ?_) fun h => ?_
    · walk_at "rc"
      refine ⟨m, _, dx, _, _, rfl, hm, T.cl_PatternReader, T.na_PatternReader_text, rfl, ?_⟩
      walk_at "rc"
      refine ⟨m, _, dx, _, _, rfl, hm, T.cl_PatternReader, T.na_PatternReader_place, rfl, ?_⟩
      have hl : p < z.cps.toList.length := by
        have : z.cps.toList.length = z.length := rfl
        omega
      have hp := List.getElem?_eq_getElem hl
      walk_at "rc"
      refine rd_ixS lz (atI_nat hp) ?_
      walk_at "rc"
      unfold fcl at q
      rw [hp] at q
      exact q
    · unfold fcl at q
      rw [List.getElem?_eq_none (by have : z.cps.toList.length = z.length := rfl; omega)] at q
      exact q
def spTake : Sp := fun vs H Q E => ∃ (m : Addr) (L z : Str) (p o : Nat) (sg : Str), vs = [.ref m, .str sg] ∧ Rdr T H m L z p o ∧ z.length ≤ 400 ∧
  (∀ c H', z.cps.toList[p]? = some c → c ∈ sg.cps.toList → p < z.length → But m H H' → Rdr T H' m L z (p + 1) o → Q (.str ⟨#[c]⟩) H') ∧
  (fcl z.cps.toList p sg.cps.toList = false → ∀ d H', But m H H' → H' d = some (.xd [("what", .int (p : Int))]) → E (.ref T.C_BadPattern) (some d) H')
theorem ok_PatternReader_take : FnOk P w K mg base (L2.CX P w) 3 T.a_PatternReader_take T.d_PatternReader_take ["self", "signs"] (spTake T) := by
  refine T.f_PatternReader_take.okX sc_PatternReader_take (fun vs H Q E h => ?_) (fun cdv A outer s H vs Q E hr h => ?_)
  · obtain ⟨_, _, _, _, _, _, rfl, _⟩ := h; rfl
  · obtain ⟨m, L, z, p, o, sg, rfl, R, lz, qy, qn⟩ := h
    obtain ⟨dx, hm⟩ := id R
    refine ⟨_, (pss_cons (ps_if (pt_not (pt_val (pe_meth (pv 0) T.cl_PatternReader T.m_PatternReader_faces (ok_PatternReader_faces T) (hr.mono (by decide)) T.b_PatternReader_faces .nil pass0 (pa_cons (pv 1) pa_nil))))
    (pss_one (ps_raiseW rfl T.x_BadPattern (ok_init T) T.tI T.bI (hr.mono (by decide)) T.g_BadPattern (takes_of rfl rfl rfl rfl) (pa_cons (kFld K rfl (pe_fld (pv 0) rfl)) pa_nil) (MonoA.one mono_fld)))
    pss_nil)
  (pss_cons (kFa K rfl (ps_fldaug (pv 0) pe_int in_add))
  (pss_one (ps_ret (pe_ix (kIx K) (kFld K rfl (pe_fld (pv 0) rfl)) (pe_op op_subP (kFld K rfl (pe_fld (pv 0) rfl)) pe_int) (fun _ _ => rfl)))))), ?_⟩
    walk_at "rs"
    walk_at "rc"
    refine ⟨m, dx, _, rfl, hm, rfl, ?_⟩
    walk_at "rc"
    refine ⟨m, L, z, p, o, sg, rfl, R, lz, ?_⟩
    walk_at "rc"
    cases hf : fcl z.cps.toList p sg.cps.toList with
    | false =>
      refine rd_iteNF ?_
      walk_at "rc"
      refine ⟨m, _, dx, _, _, rfl, hm, T.cl_PatternReader, T.na_PatternReader_place, rfl, ?_⟩
      exact ⟨_, rfl, fun d hd => qn hf d _ (Ex.but (Evl.Ex.new hd)) upd_same⟩
    | true =>
      refine rd_iteNT ?_
      walk_at "rc"
      refine rd_fa ?_
      walk_at "rc"
      refine ⟨m, _, dx, _, _, rfl, hm, T.cl_PatternReader, T.na_PatternReader_place, rfl, ?_⟩
      walk_at "rc"
      refine ⟨_, _, rfl, rfl, dx, _, hm, by show 4 < 1000; decide, ?_⟩
      obtain ⟨c, hc, hcs⟩ := fcl_some hf
      have hb : But m H (upd H m (.ins T.C_PatternReader dx (putF "place" (.int ((p : Int) + 1)) [("letters", .str L), ("text", .str z), ("place", .int (p : Int)), ("open_brackets", .int (o : Int))]))) := But.of
      have hr := rdr_at T (H := H) (m := m) (L := L) (z := z) (p := p + 1) (o := o) (dx := dx) (v := .int ((p : Int) + 1)) (q := .int (p : Int)) rfl
      generalize upd H m (.ins T.C_PatternReader dx (putF "place" (.int ((p : Int) + 1)) [("letters", .str L), ("text", .str z), ("place", .int (p : Int)), ("open_brackets", .int (o : Int))])) = H1 at hb hr
      obtain ⟨dx1, hm1⟩ := id hr
      walk_at "rc"
      refine ⟨m, _, dx1, _, _, rfl, hm1, T.cl_PatternReader, T.na_PatternReader_text, rfl, ?_⟩
      walk_at "rc"
      refine ⟨m, _, dx1, _, _, rfl, hm1, T.cl_PatternReader, T.na_PatternReader_place, rfl, ?_⟩
      walk_at "rc"
      rw [show (((p + 1 : Nat) : Int)) - 1 = (p : Int) by omega]
      refine rd_ixS (l400 lz) (atI_nat hc) ?_
      exact qy c H1 hc hcs (List.getElem?_eq_some_iff.mp hc).1 hb hr
theorem int_dig {c : Nat} (h0 : 48 ≤ c) (h1 : c ≤ 56) : PySem.intText? ⟨#[c]⟩ = some ((c - 48 : Nat) : Int) := by
  have e : c = 48 ∨ c = 49 ∨ c = 50 ∨ c = 51 ∨ c = 52 ∨ c = 53 ∨ c = 54 ∨ c = 55 ∨ c = 56 := by omega
  rcases e with rfl | rfl | rfl | rfl | rfl | rfl | rfl | rfl | rfl <;> decide +kernel
theorem cut_dig {l : Nat} (h : l ≤ 8) : (cutS (Str.ofString "012345678") (some (l : Int)) none).cps.toList = List.drop l [48, 49, 50, 51, 52, 53, 54, 55, 56] := by
  have e : l = 0 ∨ l = 1 ∨ l = 2 ∨ l = 3 ∨ l = 4 ∨ l = 5 ∨ l = 6 ∨ l = 7 ∨ l = 8 := by omega
  rcases e with rfl | rfl | rfl | rfl | rfl | rfl | rfl | rfl | rfl <;> decide +kernel
theorem mem_dig {c : Nat} : c ∈ (Str.ofString "012345678").cps.toList ↔ 48 ≤ c ∧ c ≤ 56 := by
  rw [show (Str.ofString "012345678").cps.toList = [48, 49, 50, 51, 52, 53, 54, 55, 56] by decide +kernel]
  simp only [List.mem_cons, List.not_mem_nil, or_false]
  omega
theorem mem_cut {l c : Nat} (h : l ≤ 8) : c ∈ (cutS (Str.ofString "012345678") (some (l : Int)) none).cps.toList ↔ 48 + l ≤ c ∧ c ≤ 56 := by
  rw [cut_dig h]
  have e : l = 0 ∨ l = 1 ∨ l = 2 ∨ l = 3 ∨ l = 4 ∨ l = 5 ∨ l = 6 ∨ l = 7 ∨ l = 8 := by omega
  rcases e with rfl | rfl | rfl | rfl | rfl | rfl | rfl | rfl | rfl <;> (simp only [List.drop, List.mem_cons, List.not_mem_nil, or_false]; omega)
theorem oneS {c k : Nat} {s : Str} (hs : s.cps.toList = [k]) : (⟨#[c]⟩ : Str) = s ↔ c = k := by
  constructor
  · intro e
    rw [← e] at hs
    exact (List.cons.inj (show [c] = [k] from hs)).1
  · intro e
    obtain ⟨a⟩ := s
    have hs : a.toList = [k] := hs
    rw [e]
    have : #[k].toList = a.toList := hs.symm
    rw [Array.toList_inj.mp this]
theorem fcl_no {z : List Nat} {p : Nat} {sg : List Nat} (h : fcl z p sg = false) {c : Nat} (hc : z[p]? = some c) : c ∉ sg := fun hm => by
  rw [fcl_of hc hm] at h
  exact nomatch h
def spCounts : Sp := fun vs H Q E => ∃ (m : Addr) (L z : Str) (p o : Nat), vs = [.ref m] ∧ Rdr T H m L z p o ∧ z.length ≤ 400 ∧
  (∀ l k p' v H', cntR z.cps.toList p = .inl (l, k, p') → l ≤ k → k ≤ 8 → p < p' → p' ≤ z.length → Dp K H' v (.tuple [.int (l : Int), .int (k : Int)]) → But m H H' → Rdr T H' m L z p' o → Q v H') ∧
  (∀ q d H', cntR z.cps.toList p = .inr q → But m H H' → H' d = some (.xd [("what", .int (q : Int))]) → E (.ref T.C_BadPattern) (some d) H')
theorem ok_PatternReader_counts : FnOk P w K mg base (L2.CX P w) 4 T.a_PatternReader_counts T.d_PatternReader_counts ["self"] (spCounts T) := by
  refine T.f_PatternReader_counts.okX sc_PatternReader_counts (fun vs H Q E h => ?_) (fun cdv A outer s H vs Q E hr h => ?_)
  · obtain ⟨_, _, _, _, _, rfl, _⟩ := h; rfl
  · obtain ⟨m, L, z, p, o, rfl, R, lz, qy, qn⟩ := h
    obtain ⟨dx, hm⟩ := id R
    unfold cntR at qy qn
    refine ⟨_, (pss_cons (ps_set (i := 1) sc_PatternReader_counts.nd rfl (by first | exact Or.inl rfl | exact Or.inr rfl) pe_str)
  (pss_cons (ps_set (i := 2) sc_PatternReader_counts.nd rfl (by first | exact Or.inl rfl | exact Or.inr rfl) (pe_callTy call_int_str (by rfl) T.nb_int (by decide +kernel) (pa_cons (pe_methRs T.m_PatternReader_take T.cl_PatternReader (pv 0) (ok_PatternReader_take T) (hr.mono (by decide)) T.b_PatternReader_take (takes_of rfl rfl rfl rfl) (pa_cons (pv 1) pa_nil)) pa_nil)))
  (pss_cons (ps_set (i := 3) sc_PatternReader_counts.nd rfl (by first | exact Or.inl rfl | exact Or.inr rfl) (pv 2))
  (pss_cons (ps_if (pt_cmpR (kEq K rfl hr.units) (pe_methRs T.m_PatternReader_take T.cl_PatternReader (pv 0) (ok_PatternReader_take T) (hr.mono (by decide)) T.b_PatternReader_take (takes_of rfl rfl rfl rfl) (pa_cons pe_str pa_nil)) pe_str (by first | rfl | exact nomark _))
    (pss_cons (ps_set (i := 3) sc_PatternReader_counts.nd rfl (by first | exact Or.inl rfl | exact Or.inr rfl) (pe_callTy call_int_str (by rfl) T.nb_int (by decide +kernel) (pa_cons (pe_methRs T.m_PatternReader_take T.cl_PatternReader (pv 0) (ok_PatternReader_take T) (hr.mono (by decide)) T.b_PatternReader_take (takes_of rfl rfl rfl rfl) (pa_cons (pe_slice (kSl K) (pv 1) (po_some (pv 2)) po_none) pa_nil)) pa_nil)))
  (pss_one (ps_expr (pe_methRs T.m_PatternReader_take T.cl_PatternReader (pv 0) (ok_PatternReader_take T) (hr.mono (by decide)) T.b_PatternReader_take (takes_of rfl rfl rfl rfl) (pa_cons pe_str pa_nil)))))
    pss_nil)
  (pss_one (ps_ret (pe_tup (pa_cons (pv 2) (pa_cons (pv 3) pa_nil))))))))), ?_⟩
    walk_at "rc"
    refine ⟨m, dx, _, rfl, hm, rfl, ?_⟩
    walk_at "rc"
    refine ⟨m, L, z, p, o, _, rfl, R, lz, fun c H1 hc hcs pl b1 R1 => ?_, fun hf d H1 b1 hd => ?_⟩
    · have rg := mem_dig.mp hcs
      rw [hc] at qy qn
      simp only [if_pos rg] at qy qn
      obtain ⟨dx1, hm1⟩ := id R1
      refine ⟨_, _, rfl, int_dig rg.1 rg.2, by show 1 ≤ 640; decide, ?_⟩
      walk_at "rc"
      walk_at "rs"
      walk_at "rc"
      refine ⟨m, dx1, _, rfl, hm1, rfl, ?_⟩
      walk_at "rc"
      refine ⟨m, L, z, p + 1, o, _, rfl, R1, lz, fun c1 H2 hc1 hcs1 pl1 b2 R2 => ?_, fun hf d H2 b2 hd => ?_⟩
      · have hcs1 : c1 = 44 ∨ c1 = 125 := by
          rw [show (Str.ofString ",}").cps.toList = [44, 125] by decide +kernel] at hcs1
          simpa using hcs1
        obtain ⟨dx2, hm2⟩ := id R2
        walk_at "rc"
        refine rd_iteD (fun h => ?_) fun h => ?_
        · have h : c1 = 44 := (oneS (by decide +kernel)).mp h
          subst h
          rw [if_pos hc1] at qy qn
          walk_at "rc"
          refine ⟨m, dx2, _, rfl, hm2, rfl, ?_⟩
          walk_at "rc"
          refine rd_slS (by decide +kernel) ?_
          walk_at "rc"
          refine ⟨m, L, z, p + 1 + 1, o, _, rfl, R2, lz, fun c2 H3 hc2 hcs2 pl2 b3 R3 => ?_, fun hf d H3 b3 hd => ?_⟩
          · have rg2 := (mem_cut (by omega)).mp hcs2
            have hc2 : z.cps.toList[p + 2]? = some c2 := hc2
            rw [hc2] at qy qn
            simp only [if_pos (show c ≤ c2 ∧ c2 ≤ 56 by omega)] at qy qn
            obtain ⟨dx3, hm3⟩ := id R3
            refine ⟨_, _, rfl, int_dig (by omega) rg2.2, by show 1 ≤ 640; decide, ?_⟩
            walk_at "rc"
            refine ⟨m, dx3, _, rfl, hm3, rfl, ?_⟩
            walk_at "rc"
            refine ⟨m, L, z, p + 1 + 1 + 1, o, _, rfl, R3, lz, fun c3 H4 hc3 hcs3 pl3 b4 R4 => ?_, fun hf d H4 b4 hd => ?_⟩
            · have hcs3 : c3 = 125 := by
                rw [show (Str.ofString "}").cps.toList = [125] by decide +kernel] at hcs3
                simpa using hcs3
              subst hcs3
              have hc3 : z.cps.toList[p + 3]? = some 125 := hc3
              simp only [if_pos hc3] at qy
              walk_at "rc"
              refine ⟨by show 2 ≤ sizeLine; decide, fun a ha => ?_⟩
              exact qy (c - 48) (c2 - 48) (p + 4) _ _ rfl (by omega) (by omega) (by omega) (by omega) (.tup (Evl.st_of upd_same) (.cons (.int _) (.cons (.int _) .nil))) ((((b1.trans b2).trans b3).trans b4).ex (Evl.Ex.new ha)) (R4.ex T (Evl.Ex.new ha))
            · refine qn (p + 3) d H4 ?_ (((b1.trans b2).trans b3).trans b4) hd
              rw [if_neg (show ¬ z.cps.toList[p + 3]? = some 125 from fun e => fcl_no hf e (by decide +kernel))]
          · refine qn (p + 2) d H3 ?_ ((b1.trans b2).trans b3) hd
            cases e : z.cps.toList[p + 2]? with
            | none => rfl
            | some c2 =>
              have := fcl_no hf e
              rw [mem_cut (by omega)] at this
              simp only
              rw [if_neg (by omega)]
        · have h : c1 = 125 := hcs1.elim (fun e => absurd ((oneS (by decide +kernel)).mpr e) h) id
          subst h
          have n44 : ¬ z.cps.toList[p + 1]? = some 44 := fun e => by rw [hc1] at e; exact absurd e (by decide)
          rw [if_neg n44, if_pos hc1] at qy
          walk_at "rc"
          refine ⟨by show 2 ≤ sizeLine; decide, fun a ha => ?_⟩
          exact qy (c - 48) (c - 48) (p + 2) _ _ rfl (by omega) (by omega) (by omega) (by omega) (.tup (Evl.st_of upd_same) (.cons (.int _) (.cons (.int _) .nil))) ((b1.trans b2).ex (Evl.Ex.new ha)) (R2.ex T (Evl.Ex.new ha))
      · refine qn (p + 1) d H2 ?_ (b1.trans b2) hd
        rw [if_neg (show ¬ z.cps.toList[p + 1]? = some 44 from fun e => fcl_no hf e (by decide +kernel)), if_neg (show ¬ z.cps.toList[p + 1]? = some 125 from fun e => fcl_no hf e (by decide +kernel))]
    · refine qn p d H1 ?_ b1 hd
      cases e : z.cps.toList[p]? with
      | none => rfl
      | some c =>
        have := fcl_no hf e
        rw [mem_dig] at this
        simp only
        rw [if_neg this]
end
section
variable (T : Txt K mg)
abbrev RR := Str → List Nat → Nat → RT
/-- a method of the reader that asks nothing but where it stands: what it reads, or where it fails -/
def spR (s o : Nat) (rr : RR) : Sp := fun vs H Q E => ∃ (m : Addr) (L z : Str) (p : Nat), vs = [.ref m] ∧ Rdr T H m L z p o ∧ z.length ≤ 400 ∧ L.length ≤ 100 ∧ p ≤ z.length ∧
  (∀ x v p' H', rr L z.cps.toList p (.ok x p') → Dp K H' v (dT x) → NL x → p + s ≤ p' → p' ≤ z.length → But m H H' → Rdr T H' m L z p' o → Q v H') ∧
  (∀ q d H', rr L z.cps.toList p (.bad q) → But m H H' → H' d = some (.xd [("what", .int (q : Int))]) → E (.ref T.C_BadPattern) (some d) H') ∧
  (∀ d H', rr L z.cps.toList p .deep → But m H H' → H' d = some (.xd [("what", .int 12)]) → E (.ref T.C_TooLarge) (some d) H')
theorem spR_len {T : Txt K mg} {s o : Nat} {rr : RR} : ∀ vs H Q E, spR T s o rr vs H Q E → vs.length = 1 := fun vs H Q E h => by
  obtain ⟨_, _, _, _, rfl, _⟩ := h; rfl
theorem toL_ext {a b : Str} (h : a.cps.toList = b.cps.toList) : a = b := by
  obtain ⟨x⟩ := a
  obtain ⟨y⟩ := b
  exact congrArg Str.mk (Array.toList_inj.mp h)
theorem tl_app (x y : Str) : (x ++ y).cps.toList = x.cps.toList ++ y.cps.toList := TL.tl_append x y
theorem take_succ' {z : List Nat} {n c : Nat} (h : z[n]? = some c) : z.take n ++ [c] = z.take (n + 1) := by
  rw [List.take_add_one, h]; rfl
theorem ok_PatternReader_chosen (o : Nat) : FnOk P w K mg base (L2.CX P w) 5 T.a_PatternReader_chosen T.d_PatternReader_chosen ["self"] (spR T 1 o fun L z p r => r = chosR L z p) := by
  refine T.f_PatternReader_chosen.okX sc_PatternReader_chosen spR_len (fun cdv A outer s H vs Q E hr h => ?_)
  · obtain ⟨m, L, z, p, rfl, R, lz, lL, pl, qy, qb, qd⟩ := h
    have hzl : z.cps.toList.length = z.length := rfl
    have sz : 1000000 ≤ sizeLine := by decide
    obtain ⟨dx, hm⟩ := id R
    refine ⟨_, (pss_cons (ps_set (i := 1) sc_PatternReader_chosen.nd rfl (by first | exact Or.inl rfl | exact Or.inr rfl) (pe_meth (pv 0) T.cl_PatternReader T.m_PatternReader_faces (ok_PatternReader_faces T) (hr.mono (by decide)) T.b_PatternReader_faces .nil pass0 (pa_cons pe_str pa_nil)))
  (pss_cons (ps_if (pt_val (pv 1))
    (pss_one (ps_expr (pe_methRs T.m_PatternReader_take T.cl_PatternReader (pv 0) (ok_PatternReader_take T) (hr.mono (by decide)) T.b_PatternReader_take (takes_of rfl rfl rfl rfl) (pa_cons pe_str pa_nil))))
    pss_nil)
  (pss_cons (ps_set (i := 2) sc_PatternReader_chosen.nd rfl (by first | exact Or.inl rfl | exact Or.inr rfl) pe_str)
  (pss_cons (ps_while (passes_of rfl) (pt_val (pe_meth (pv 0) T.cl_PatternReader T.m_PatternReader_faces (ok_PatternReader_faces T) (hr.mono (by decide)) T.b_PatternReader_faces .nil pass0 (pa_cons (kFld K rfl (pe_fld (pv 0) rfl)) pa_nil)))
    (pss_one (ps_aug (i := 2) sc_PatternReader_chosen.nd rfl (by first | exact Or.inl rfl | exact Or.inr rfl) (pe_methRs T.m_PatternReader_take T.cl_PatternReader (pv 0) (ok_PatternReader_take T) (hr.mono (by decide)) T.b_PatternReader_take (takes_of rfl rfl rfl rfl) (pa_cons (kFld K rfl (pe_fld (pv 0) rfl)) pa_nil)) ip_addS)))
  (pss_cons (ps_expr (pe_methRs T.m_PatternReader_take T.cl_PatternReader (pv 0) (ok_PatternReader_take T) (hr.mono (by decide)) T.b_PatternReader_take (takes_of rfl rfl rfl rfl) (pa_cons pe_str pa_nil)))
  (pss_one (ps_ret (pe_callE (ok__one_of T) (hr.mono (by decide)) T.o__one_of (pa_cons (kBm K rfl (pe_bm PySem.F.plainAttrs_str PySem.F.slot_str_join PySem.F.type_str_join (kJoin K) pe_str (pa_cons (pe_lc (own := [("letter", 3)]) (g := gName 3)  (by rfl) sc_PatternReader_chosen.nd (kAny K rfl (kFld K rfl (pe_fld (pv 0) rfl))) (blkOk_by (own := [("letter", 3)]) (N := ["self", "opposite", "named", "letter"]) (sc := defScope s_PatternReader_chosen) (by decide +kernel)) (fun _ _ _ _ _ => (pg_name (i := 3) sc_PatternReader_chosen.nd rfl (by first | exact Or.inl rfl | exact Or.inr rfl))) (fun _ _ _ _ _ => (pts_one (pt_cmpR (kNe K rfl hr.units) (pe_cmpR (kIn K) (pv 3) (pv 2) (by first | rfl | exact nomark _)) (pv 1) (by first | rfl | exact nomark _)))) (fun _ _ _ _ _ => (pv 3))) pa_nil))) pa_nil))))))))), ?_⟩
    walk_at "rc"
    refine ⟨m, dx, _, rfl, hm, rfl, ?_⟩
    walk_at "rc"
    refine ⟨m, L, z, p, o, _, rfl, R, lz, ?_⟩
    rw [show (Str.ofString "^").cps.toList = [94] by decide +kernel, fcl_one]
    walk_at "rc"
    refine rd_cut (fun σ H' => ∃ (b : Bool) (p1 : Nat), σ = [some (.ref m), some (.bl b), none, none] ∧ But m H H' ∧ Rdr T H' m L z p1 o ∧ p ≤ p1 ∧ p1 ≤ z.length ∧ chosR L z.cps.toList p = chosO L z.cps.toList p1 b) (fun N hN => ?_) ?_
    · walk_at "rc"
      refine rd_iteD (fun h => ?_) fun h => ?_
      · walk_at "rc"
        refine ⟨m, dx, _, rfl, hm, rfl, ?_⟩
        walk_at "rc"
        refine ⟨m, L, z, p, o, _, rfl, R, lz, fun c H1 hc hcs pl b1 R1 => ?_, fun hf => ?_⟩
        · walk_at "rc"
          refine hN _ _ ⟨true, p + 1, by rw [decide_eq_true h]; rfl, b1, R1, by omega, by omega, ?_⟩
          unfold chosR
          rw [if_pos h]
        · exact absurd (show (94 : Nat) ∈ (Str.ofString "^").cps.toList by decide +kernel) (fcl_no hf h)
      · walk_at "rc"
        refine hN _ _ ⟨false, p, by rw [decide_eq_false h]; rfl, But.refl, R, Nat.le_refl _, pl, ?_⟩
        unfold chosR
        rw [if_neg h]
    · rintro σ H1 ⟨b, p1, rfl, b1, R1, g1, g2, ech⟩
      have hsp := sp_dr (ks := L.cps.toList) (z := z.cps.toList) (p := p1) (by omega)
      obtain ⟨n, hn⟩ : ∃ n, sp L.cps.toList (z.cps.toList.drop p1) = n := ⟨_, rfl⟩
      replace qy := fun x v p' H' (e : Rs.ok x p' = chosO L z.cps.toList p1 b) => qy x v p' H' (show Rs.ok x p' = chosR L z.cps.toList p from e.trans ech.symm)
      replace qb := fun q d H' (e : Rs.bad q = chosO L z.cps.toList p1 b) => qb q d H' (show Rs.bad q = chosR L z.cps.toList p from e.trans ech.symm)
      unfold chosO at qy qb
      rw [hn] at hsp qy qb
      clear ech qd
      walk_at "rc"
      walk_at "rs"
      refine rd_wh (fun mm σ H' => ∃ (i : Nat) (t : Str), σ = [some (.ref m), some (.bl b), some (.str t), none] ∧ But m H H' ∧ Rdr T H' m L z (p1 + i) o ∧ i ≤ n ∧ t.cps.toList = (z.cps.toList.drop p1).take i ∧ mm = n - i)
        _ ⟨0, Str.ofString "", rfl, b1, R1, Nat.zero_le _, by rw [List.take_zero]; decide +kernel, rfl⟩ ?_
      rintro mm σ H2 ⟨i, t, rfl, b2, R2, hi, ht, rfl⟩
      have lt : t.length ≤ 400 := by
        show t.cps.toList.length ≤ 400
        rw [ht, List.length_take]
        omega
      obtain ⟨dx2, hm2⟩ := id R2
      walk_at "rc"
      refine ⟨m, dx2, _, rfl, hm2, rfl, ?_⟩
      walk_at "rc"
      refine ⟨m, _, dx2, _, _, rfl, hm2, T.cl_PatternReader, T.na_PatternReader_letters, rfl, ?_⟩
      walk_at "rc"
      refine ⟨m, L, z, p1 + i, o, _, rfl, R2, lz, ?_⟩
      walk_at "rc"
      rcases Nat.lt_or_ge i n with h | h
      · rw [show fcl z.cps.toList (p1 + i) L.cps.toList = true from fcl_in (by rw [hn]; exact h)]
        refine rd_iteT ?_
        refine ⟨_, fun σ2 H2 z => z, ?_⟩
        refine rd_aug rfl ?_
        walk_at "rc"
        refine ⟨m, dx2, _, rfl, hm2, rfl, ?_⟩
        walk_at "rc"
        refine ⟨m, _, dx2, _, _, rfl, hm2, T.cl_PatternReader, T.na_PatternReader_letters, rfl, ?_⟩
        walk_at "rc"
        refine ⟨m, L, z, p1 + i, o, _, rfl, R2, lz, fun c H3 hc hcs pl3 b3 R3 => ?_, fun hf => ?_⟩
        · refine rd_augAS (by show t.length + 1 ≤ _; omega) ?_
          refine ⟨n - (i + 1), by omega, i + 1, t ++ ⟨#[c]⟩, rfl, b2.trans b3, R3, h, ?_, rfl⟩
          rw [tl_app, ht]
          exact take_succ' (by rw [List.getElem?_drop]; exact hc)
        · rw [show fcl z.cps.toList (p1 + i) L.cps.toList = true from fcl_in (by rw [hn]; exact h)] at hf
          exact nomatch hf
      · have hin : i = n := by omega
        subst hin
        rw [show fcl z.cps.toList (p1 + i) L.cps.toList = false from by rw [← hn]; exact fcl_out]
        refine rd_iteF ?_
        walk_at "rc"
        refine ⟨m, dx2, _, rfl, hm2, rfl, ?_⟩
        walk_at "rc"
        refine ⟨m, L, z, p1 + i, o, _, rfl, R2, lz, fun c H3 hc hcs pl3 b3 R3 => ?_, fun hf d H3 b3 hd => ?_⟩
        · have hcs : c = 93 := by
            rw [show (Str.ofString "]").cps.toList = [93] by decide +kernel] at hcs
            simpa using hcs
          subst hcs
          obtain ⟨dx3, hm3⟩ := id R3
          walk_at "rc"
          refine ⟨rfl, ?_⟩
          walk_at "rc"
          refine rd_anyS' ?_
          walk_at "rc"
          refine ⟨m, _, dx3, _, _, rfl, hm3, T.cl_PatternReader, T.na_PatternReader_letters, rfl, ?_⟩
          refine rd_itS ?_
          refine lc_F (K := K) (S := []) (P := fun i x => ∃ c, L.cps.toList[i]? = some c ∧ x = V.str ⟨#[c]⟩) tr_ex (fun b hb => nomatch hb) walk_str str_Y (by show L.length < _; omega) (fun _ _ => True.intro) (fun j => decide (L.cps.toList.getD j 0 ∈ t.cps.toList) != b) (fun j => .str ⟨#[L.cps.toList.getD j 0]⟩) (hg_name fun v => rfl) (fun l j σ2 Hc hj p2 hl nl ec _ _ N hN => ?_) (fun l j σ2 Hc hj p2 _ hl nl ec _ _ N hN => ?_) fun l us Hc ec hl nl hus hds => ?_
          · obtain ⟨x, ⟨c, hc, rfl⟩, rfl⟩ := p2
            walk_at "rc"
            refine rd_neB ?_
            walk_at "rc"
            have := hN Hc (Evl.Ex.refl _)
            rw [List.getD_eq_getElem?_getD, hc] at this
            exact this
          · obtain ⟨x, ⟨c, hc, rfl⟩, rfl⟩ := p2
            walk_at "rc"
            refine hN _ Hc (Evl.Ex.refl _) ?_
            rw [List.getD_eq_getElem?_getD, hc]
            exact .str _
          · have eds : ((List.range L.cps.toList.length).filter fun j => decide (L.cps.toList.getD j 0 ∈ t.cps.toList) != b).map (fun j => PyData.str ⟨#[L.cps.toList.getD j 0]⟩) = ((L.cps.toList.filter fun c => decide (c ∈ t.cps.toList) != b).map fun c => (⟨#[c]⟩ : Str)).map PyData.str := by
              rw [getD_range L.cps.toList 0 (fun c => decide (c ∈ t.cps.toList) != b) (fun c => PyData.str ⟨#[c]⟩), List.map_map]; rfl
            have hds := eds ▸ hds
            have eu := dp_strs hds
            subst eu
            have lf : (L.cps.toList.filter fun c => decide (c ∈ t.cps.toList) != b).length ≤ 100 := Nat.le_trans (List.length_filter_le _ _) lL
            walk_at "rc"
            refine ⟨"", l, _, rfl, rfl, .inl (SqL.of hus), ?_, ?_⟩
            · rw [sum_signs, List.length_map]
              have e0 : (Str.ofString "").length = 0 := by decide +kernel
              rw [e0]
              omega
            have et := join_signs (L.cps.toList.filter fun c => decide (c ∈ t.cps.toList) != b)
            have ek : Txt.join "" ((L.cps.toList.filter fun c => decide (c ∈ t.cps.toList) != b).map fun c => (⟨#[c]⟩ : Str)) = keptS L ((z.cps.toList.drop p1).take i) b := by
              refine toL_ext ?_
              rw [et, ht]
              rfl
            rw [ek]
            refine ⟨_, rfl, fun v' H4 h4 e4 => ?_⟩
            rw [if_pos hc] at qy
            exact qy _ v' _ H4 rfl h4 NL.oneOf (by omega) (by omega) (((b2.trans b3).ex ec).ex e4) ((R3.ex T ec).ex T e4)
        · refine qb _ d H3 ?_ (b2.trans b3) hd
          rw [if_neg (show ¬ z.cps.toList[p1 + i]? = some 93 from fun e => fcl_no hf e (by decide +kernel))]
end
section
variable (T : Txt K mg)
theorem sgC_list : (Str.ofString "*+?{").cps.toList = SgC := by decide +kernel
theorem nOne {z : List Nat} {p c k : Nat} {s : Str} (hs : s.cps.toList = [k]) (hc : z[p]? = some c) (n : ¬ (⟨#[c]⟩ : Str) = s) : ¬ z[p]? = some k := fun e => n ((oneS hs).mpr (by rw [hc] at e; exact Option.some.inj e))
theorem rk_simple (b o k : Nat) (hk : 5 ≤ k) (hB : FnOk P w K mg base (L2.CX P w) k T.a_PatternReader_bracketed T.d_PatternReader_bracketed ["self"] (spR T 0 o fun L z => BrR L z b)) : FnOk P w K mg base (L2.CX P w) (k + 1) T.a_PatternReader_simple T.d_PatternReader_simple ["self"] (spR T 1 o fun L z => SimpleR L z (BrR L z b)) := by
  refine T.f_PatternReader_simple.okX sc_PatternReader_simple spR_len (fun cdv A outer s H vs Q E hr h => ?_)
  · obtain ⟨m, L, z, p, rfl, R, lz, lL, pl, qy, qb, qd⟩ := h
    have ok_PatternReader_bracketed : ∀ _ : Txt K mg, FnOk P w K mg base (L2.CX P w) k T.a_PatternReader_bracketed T.d_PatternReader_bracketed ["self"] (spR T 0 o fun L z => BrR L z b) := fun _ => hB
    have ok_PatternReader_chosen := fun T : Txt K mg => ok_PatternReader_chosen (P := P) (w := w) (base := base) T o
    have hzl : z.cps.toList.length = z.length := rfl
    have sz : 1000000 ≤ sizeLine := by decide
    obtain ⟨dx, hm⟩ := id R
    refine ⟨_, (pss_cons (ps_set (i := 1) sc_PatternReader_simple.nd rfl (by first | exact Or.inl rfl | exact Or.inr rfl) (pe_methRs T.m_PatternReader_take T.cl_PatternReader (pv 0) (ok_PatternReader_take T) (hr.mono (by omega)) T.b_PatternReader_take (takes_of rfl rfl rfl rfl) (pa_cons (pe_op (kAdd K) (kFld K rfl (pe_fld (pv 0) rfl)) pe_str) pa_nil)))
  (pss_cons (ps_if (pt_cmpR (kEq K rfl hr.units) (pv 1) pe_str (by first | rfl | exact nomark _))
    (pss_one (ps_ret (pe_methR0 T.m_PatternReader_bracketed T.cl_PatternReader (pv 0) (ok_PatternReader_bracketed T) (hr.mono (by omega)) T.b_PatternReader_bracketed (takes_of rfl rfl rfl rfl))))
    pss_nil)
  (pss_cons (ps_if (pt_cmpR (kEq K rfl hr.units) (pv 1) pe_str (by first | rfl | exact nomark _))
    (pss_one (ps_ret (pe_methR0 T.m_PatternReader_chosen T.cl_PatternReader (pv 0) (ok_PatternReader_chosen T) (hr.mono (by omega)) T.b_PatternReader_chosen (takes_of rfl rfl rfl rfl))))
    pss_nil)
  (pss_one (ps_ret (pe_callE (ok__one_of T) (hr.mono (by omega)) T.o__one_of (pa_cons (pe_ifExp (pt_cmpR (kEq K rfl hr.units) (pv 1) pe_str (by first | rfl | exact nomark _)) (kFld K rfl (pe_fld (pv 0) rfl)) (pv 1)) pa_nil))))))), ?_⟩
    walk_at "rc"
    refine ⟨m, dx, _, rfl, hm, rfl, ?_⟩
    walk_at "rc"
    refine ⟨m, _, dx, _, _, rfl, hm, T.cl_PatternReader, T.na_PatternReader_letters, rfl, ?_⟩
    walk_at "rc"
    have l3 : (Str.ofString ".[(").length = 3 := by decide +kernel
    refine rd_addS (by rw [l3]; omega) ?_
    have esg : (L ++ Str.ofString ".[(").cps.toList = L.cps.toList ++ [46, 91, 40] := by
      rw [tl_app, show (Str.ofString ".[(").cps.toList = [46, 91, 40] by decide +kernel]
    refine ⟨m, L, z, p, o, _, rfl, R, lz, fun c H1 hc hcs pl1 b1 R1 => ?_, fun hf d H1 b1 hd => qb p d H1 (show SimpleR L z.cps.toList (BrR L z.cps.toList b) p _ from ?_) b1 hd⟩
    · rw [esg] at hcs
      have hf := fcl_of hc hcs
      have es : ∀ r, SimpleR L z.cps.toList (BrR L z.cps.toList b) p r = if z.cps.toList[p]? = some 40 then BrR L z.cps.toList b (p + 1) r
          else if z.cps.toList[p]? = some 91 then r = chosR L z.cps.toList (p + 1)
          else if z.cps.toList[p]? = some 46 then r = .ok (oneOf L) (p + 1)
          else ∃ c, z.cps.toList[p]? = some c ∧ r = .ok (oneOf ⟨#[c]⟩) (p + 1) := fun r => by
        unfold SimpleR
        rw [if_pos hf]
      obtain ⟨dx1, hm1⟩ := id R1
      walk_at "rc"
      walk_at "rs"
      walk_at "rc"
      refine rd_iteD (fun h40 => ?_) fun n40 => ?_
      · have h40 : c = 40 := (oneS (by decide +kernel)).mp h40
        subst h40
        have es : ∀ r, BrR L z.cps.toList b (p + 1) r → SimpleR L z.cps.toList (BrR L z.cps.toList b) p r := fun r h => by rw [es, if_pos hc]; exact h
        walk_at "rc"
        refine ⟨m, dx1, _, rfl, hm1, rfl, ?_⟩
        walk_at "rc"
        exact ⟨m, L, z, p + 1, rfl, R1, lz, lL, pl1, fun x v p' H' hx hv nx h1 h2 b2 R2 => qy x v p' H' (es _ hx) hv nx (by omega) h2 (b1.trans b2) R2, fun q d H' hq b2 hd => qb q d H' (es _ hq) (b1.trans b2) hd, fun d H' hq b2 hd => qd d H' (es _ hq) (b1.trans b2) hd⟩
      · have m40 : ¬ z.cps.toList[p]? = some 40 := nOne (by decide +kernel) hc n40
        walk_at "rc"
        walk_at "rs"
        walk_at "rc"
        refine rd_iteD (fun h91 => ?_) fun n91 => ?_
        · have h91 : c = 91 := (oneS (by decide +kernel)).mp h91
          subst h91
          have es : ∀ r, r = chosR L z.cps.toList (p + 1) → SimpleR L z.cps.toList (BrR L z.cps.toList b) p r := fun r h => by rw [es, if_neg m40, if_pos hc]; exact h
          walk_at "rc"
          refine ⟨m, dx1, _, rfl, hm1, rfl, ?_⟩
          walk_at "rc"
          exact ⟨m, L, z, p + 1, rfl, R1, lz, lL, pl1, fun x v p' H' hx hv nx h1 h2 b2 R2 => qy x v p' H' (es _ hx) hv nx (by omega) h2 (b1.trans b2) R2, fun q d H' hq b2 hd => qb q d H' (es _ hq) (b1.trans b2) hd, fun d H' hq b2 hd => qd d H' (es _ hq) (b1.trans b2) hd⟩
        · have m91 : ¬ z.cps.toList[p]? = some 91 := nOne (by decide +kernel) hc n91
          walk_at "rc"
          refine rd_ife ?_
          walk_at "rc"
          refine rd_iteD (fun h46 => ?_) fun n46 => ?_
          · have h46 : c = 46 := (oneS (by decide +kernel)).mp h46
            subst h46
            walk_at "rc"
            refine ⟨m, _, dx1, _, _, rfl, hm1, T.cl_PatternReader, T.na_PatternReader_letters, rfl, ?_⟩
            refine ⟨L, rfl, fun v' H' h' e' => qy _ v' (p + 1) H' (show SimpleR L z.cps.toList (BrR L z.cps.toList b) p _ from ?_) h' NL.oneOf (Nat.le_refl _) (by omega) (b1.ex e') (R1.ex T e')⟩
            rw [es, if_neg m40, if_neg m91, if_pos hc]
          · have m46 : ¬ z.cps.toList[p]? = some 46 := nOne (by decide +kernel) hc n46
            walk_at "rc"
            refine ⟨_, rfl, fun v' H' h' e' => qy _ v' (p + 1) H' (show SimpleR L z.cps.toList (BrR L z.cps.toList b) p _ from ?_) h' NL.oneOf (Nat.le_refl _) (by omega) (b1.ex e') (R1.ex T e')⟩
            rw [es, if_neg m40, if_neg m91, if_neg m46]
            exact ⟨c, hc, rfl⟩
    · rw [esg] at hf
      unfold SimpleR
      rw [if_neg (by rw [hf]; exact Bool.false_ne_true)]
theorem rk_counted (b o k : Nat) (hk : 5 ≤ k) (hS : FnOk P w K mg base (L2.CX P w) k T.a_PatternReader_simple T.d_PatternReader_simple ["self"] (spR T 1 o fun L z => SimpleR L z (BrR L z b))) : FnOk P w K mg base (L2.CX P w) (k + 1) T.a_PatternReader_counted T.d_PatternReader_counted ["self"] (spR T 1 o fun L z => CountedR L z (BrR L z b)) := by
  refine T.f_PatternReader_counted.okX sc_PatternReader_counted spR_len (fun cdv A outer s H vs Q E hr h => ?_)
  · obtain ⟨m, L, z, p, rfl, R, lz, lL, pl, qy, qb, qd⟩ := h
    have ok_PatternReader_simple : ∀ _ : Txt K mg, FnOk P w K mg base (L2.CX P w) k T.a_PatternReader_simple T.d_PatternReader_simple ["self"] (spR T 1 o fun L z => SimpleR L z (BrR L z b)) := fun _ => hS
    have hzl : z.cps.toList.length = z.length := rfl
    obtain ⟨dx, hm⟩ := id R
    refine ⟨_, (pss_cons (ps_set (i := 1) sc_PatternReader_counted.nd rfl (by first | exact Or.inl rfl | exact Or.inr rfl) (pe_methR0 T.m_PatternReader_simple T.cl_PatternReader (pv 0) (ok_PatternReader_simple T) (hr.mono (by omega)) T.b_PatternReader_simple (takes_of rfl rfl rfl rfl)))
  (pss_cons (ps_while (passes_of rfl) (pt_val (pe_meth (pv 0) T.cl_PatternReader T.m_PatternReader_faces (ok_PatternReader_faces T) (hr.mono (by omega)) T.b_PatternReader_faces .nil pass0 (pa_cons pe_str pa_nil)))
    (pss_cons (ps_set (i := 2) sc_PatternReader_counted.nd rfl (by first | exact Or.inl rfl | exact Or.inr rfl) (pe_methRs T.m_PatternReader_take T.cl_PatternReader (pv 0) (ok_PatternReader_take T) (hr.mono (by omega)) T.b_PatternReader_take (takes_of rfl rfl rfl rfl) (pa_cons pe_str pa_nil)))
  (pss_one (ps_if (pt_cmpR (kEq K rfl hr.units) (pv 2) pe_str (by first | rfl | exact nomark _))
    (pss_one (ps_set (i := 1) sc_PatternReader_counted.nd rfl (by first | exact Or.inl rfl | exact Or.inr rfl) (pe_callE (ok__over T) (hr.mono (by omega)) T.o__over (pa_cons pe_str (pa_cons (pv 1) pa_nil)))))
    (pss_one (ps_if (pt_cmpR (kEq K rfl hr.units) (pv 2) pe_str (by first | rfl | exact nomark _))
    (pss_one (ps_set (i := 1) sc_PatternReader_counted.nd rfl (by first | exact Or.inl rfl | exact Or.inr rfl) (pe_callE (ok__over_two T) (hr.mono (by omega)) T.o__over_two (pa_cons pe_str (pa_cons (pv 1) (pa_cons (pe_callE (ok__over T) (hr.mono (by omega)) T.o__over (pa_cons pe_str (pa_cons (pv 1) pa_nil))) pa_nil))))))
    (pss_one (ps_if (pt_cmpR (kEq K rfl hr.units) (pv 2) pe_str (by first | rfl | exact nomark _))
    (pss_one (ps_set (i := 1) sc_PatternReader_counted.nd rfl (by first | exact Or.inl rfl | exact Or.inr rfl) (pe_callE (ok__over_two T) (hr.mono (by omega)) T.o__over_two (pa_cons pe_str (pa_cons (pe_globR (by rfl) T.c_EMPTY) (pa_cons (pv 1) pa_nil))))))
    (pss_cons (ps_asg (pe_methR0 T.m_PatternReader_counts T.cl_PatternReader (pv 0) (ok_PatternReader_counts T) (hr.mono (by omega)) T.b_PatternReader_counts (takes_of rfl rfl rfl rfl)) (kGt K rfl (pg_tup (n := 2) (by rfl) (pgs_cons (pg_name (i := 3) sc_PatternReader_counted.nd rfl (by first | exact Or.inl rfl | exact Or.inr rfl)) (pgs_cons (pg_name (i := 4) sc_PatternReader_counted.nd rfl (by first | exact Or.inl rfl | exact Or.inr rfl)) pgs_nil)))))
  (pss_one (ps_set (i := 1) sc_PatternReader_counted.nd rfl (by first | exact Or.inl rfl | exact Or.inr rfl) (pe_callE (ok__between T) (hr.mono (by omega)) T.o__between (pa_cons (pv 1) (pa_cons (pv 3) (pa_cons (pv 4) pa_nil)))))))))))))))
  (pss_one (ps_ret (pv 1))))), ?_⟩
    walk_at "rc"
    refine ⟨m, dx, _, rfl, hm, rfl, ?_⟩
    walk_at "rc"
    refine ⟨m, L, z, p, rfl, R, lz, lL, pl, fun x v p1 H1 hx hv nx h1 h2 b1 R1 => ?_, fun q d H1 hq b1 hd => qb q d H1 ⟨_, hq, rfl⟩ b1 hd, fun d H1 hq b1 hd => qd d H1 ⟨_, hq, rfl⟩ b1 hd⟩
    walk_at "rc"
    walk_at "rs"
    refine rd_wh (fun mm σ H' => ∃ (y : TN) (u : V) (pk : Nat) (s2 s3 s4 : Option V), σ = [some (.ref m), some u, s2, s3, s4] ∧ But m H H' ∧ Rdr T H' m L z pk o ∧ Dp K H' u (dT y) ∧ NL y ∧ p + 1 ≤ pk ∧ pk ≤ z.length ∧ (∀ r, CL z.cps.toList y pk r → CountedR L z.cps.toList (BrR L z.cps.toList b) p r) ∧ mm = z.length - pk)
      _ ⟨x, v, p1, _, _, _, rfl, b1, R1, hv, nx, h1, h2, fun r hr => ⟨_, hx, hr⟩, rfl⟩ ?_
    rintro mm σ H2 ⟨y, u, pk, s2, s3, s4, rfl, b2, R2, hu, ny, g1, g2, hrun, rfl⟩
    obtain ⟨dx2, hm2⟩ := id R2
    walk_at "rc"
    refine ⟨m, dx2, _, rfl, hm2, rfl, ?_⟩
    walk_at "rc"
    refine ⟨m, L, z, pk, o, _, rfl, R2, lz, ?_⟩
    rw [sgC_list]
    walk_at "rc"
    cases hf : fcl z.cps.toList pk SgC with
    | false =>
      refine rd_iteF ?_
      walk_at "rc"
      exact qy y u pk H2 (hrun _ (.stop (by rw [hf]; exact Bool.false_ne_true))) hu ny g1 g2 b2 R2
    | true =>
      refine rd_iteT ?_
      refine ⟨_, fun σ2 H2 z => z, ?_⟩
      walk_at "rc"
      refine ⟨m, dx2, _, rfl, hm2, rfl, ?_⟩
      walk_at "rc"
      refine ⟨m, L, z, pk, o, _, rfl, R2, lz, fun c H3 hc hcs pl3 b3 R3 => ?_, fun hf2 => by rw [sgC_list, hf] at hf2; exact nomatch hf2⟩
      have hu3 := R2.dp T b3 ny hu
      rw [sgC_list] at hcs
      walk_at "rc"
      refine rd_iteD (fun h1 => ?_) fun n1 => ?_
      · have h1 : c = 42 := (oneS (by decide +kernel)).mp h1
        subst h1
        walk_at "rc"
        refine ⟨"star", u, y, rfl, hu3, fun v' H4 h4 e4 => ?_⟩
        walk_at "rc"
        refine ⟨z.length - (pk + 1), by omega, over "star" y, v', pk + 1, _, _, _, rfl, (b2.trans b3).ex e4, R3.ex T e4, h4, ny.over, by omega, by omega, fun r hr => hrun r (.step hf ?_ hr), rfl⟩
        unfold cItem
        rw [if_pos hc]
      · have m1 : ¬ z.cps.toList[pk]? = some 42 := nOne (by decide +kernel) hc n1
        walk_at "rc"
        refine rd_iteD (fun h2 => ?_) fun n2 => ?_
        · have h2 : c = 43 := (oneS (by decide +kernel)).mp h2
          subst h2
          walk_at "rc"
          refine ⟨"star", u, y, rfl, hu3, fun v' H4 h4 e4 => ?_⟩
          walk_at "rc"
          refine ⟨"join", u, v', _, _, rfl, hu3.ex e4, h4, fun v2 H5 h5 e5 => ?_⟩
          walk_at "rc"
          refine ⟨z.length - (pk + 1), by omega, over2 "join" y (over "star" y), v2, pk + 1, _, _, _, rfl, ((b2.trans b3).ex e4).ex e5, (R3.ex T e4).ex T e5, h5, ny.over2 ny.over, by omega, by omega, fun r hr => hrun r (.step hf ?_ hr), rfl⟩
          unfold cItem
          rw [if_neg m1, if_pos hc]
        · have m2 : ¬ z.cps.toList[pk]? = some 43 := nOne (by decide +kernel) hc n2
          walk_at "rc"
          refine rd_iteD (fun h3 => ?_) fun n3 => ?_
          · have h3 : c = 63 := (oneS (by decide +kernel)).mp h3
            subst h3
            walk_at "rc"
            refine ⟨"either", _, u, _, _, rfl, emptyD T H3, hu3, fun v2 H5 h5 e5 => ?_⟩
            walk_at "rc"
            refine ⟨z.length - (pk + 1), by omega, over2 "either" emptyT y, v2, pk + 1, _, _, _, rfl, (b2.trans b3).ex e5, R3.ex T e5, h5, NL.emptyT.over2 ny, by omega, by omega, fun r hr => hrun r (.step hf ?_ hr), rfl⟩
            unfold cItem
            rw [if_neg m1, if_neg m2, if_pos hc]
          · have m3 : ¬ z.cps.toList[pk]? = some 63 := nOne (by decide +kernel) hc n3
            have ec : cItem z.cps.toList y pk = cntX y (cntR z.cps.toList (pk + 1)) := by
              unfold cItem
              rw [if_neg m1, if_neg m2, if_neg m3]
            obtain ⟨dx3, hm3⟩ := id R3
            walk_at "rc"
            refine ⟨m, dx3, _, rfl, hm3, rfl, ?_⟩
            walk_at "rc"
            refine ⟨m, L, z, pk + 1, o, rfl, R3, lz, fun l j p' v' H4 hc4 lj j8 hp hp' hv' b4 R4 => ?_, fun q d H4 hq b4 hd => qb q d H4 (hrun _ (.bad hf ?_)) ((b2.trans b3).trans b4) hd⟩
            · refine rd_gtD (Evl.Ex.refl _) hv' rfl fun xs hxs => ?_
              cases hxs with
              | cons a1 a2 =>
                cases a2 with
                | cons a2 a3 =>
                  cases a3
                  cases Dp.int_iff a1
                  cases Dp.int_iff a2
                  walk_at "rc"
                  refine ⟨u, y, l, j, rfl, R3.dp T b4 ny hu3, lj, by omega, fun v2 H5 h5 e5 => ?_⟩
                  walk_at "rc"
                  refine ⟨z.length - p', by omega, betw y l j, v2, p', _, _, _, rfl, ((b2.trans b3).trans b4).ex e5, R4.ex T e5, h5, ny.betw l j, by omega, by omega, fun r hr => hrun r (.step hf ?_ hr), rfl⟩
                  rw [ec, hc4]; rfl
            · rw [ec, hq]; rfl
end
section
variable (T : Txt K mg)
theorem begL (L : Str) : (L ++ Str.ofString ".[(!").cps.toList = Beg L := by
  unfold Beg
  rw [tl_app, show (Str.ofString ".[(!").cps.toList = [46, 91, 40, 33] by decide +kernel]
theorem rk_unary (b o k : Nat) (hk : 5 ≤ k) (hS : FnOk P w K mg base (L2.CX P w) k T.a_PatternReader_counted T.d_PatternReader_counted ["self"] (spR T 1 o fun L z => CountedR L z (BrR L z b))) : FnOk P w K mg base (L2.CX P w) (k + 1) T.a_PatternReader_unary T.d_PatternReader_unary ["self"] (spR T 1 o fun L z => UnaryR L z (BrR L z b)) := by
  refine T.f_PatternReader_unary.okX sc_PatternReader_unary spR_len (fun cdv A outer s H vs Q E hr h => ?_)
  · obtain ⟨m, L, z, p, rfl, R, lz, lL, pl, qy, qb, qd⟩ := h
    have ok_PatternReader_counted : ∀ _ : Txt K mg, FnOk P w K mg base (L2.CX P w) k T.a_PatternReader_counted T.d_PatternReader_counted ["self"] (spR T 1 o fun L z => CountedR L z (BrR L z b)) := fun _ => hS
    have hzl : z.cps.toList.length = z.length := rfl
    have hsp := sp_dr (ks := [33]) (z := z.cps.toList) (p := p) (by omega)
    obtain ⟨n, hn⟩ : ∃ n, sp [33] (z.cps.toList.drop p) = n := ⟨_, rfl⟩
    have es : ∀ r1, CountedR L z.cps.toList (BrR L z.cps.toList b) (p + n) r1 → UnaryR L z.cps.toList (BrR L z.cps.toList b) p (r1.map fun x => notsT x n) := fun r1 h => ⟨r1, by rw [hn]; exact h, by rw [hn]⟩
    rw [hn] at hsp
    have e33 : (Str.ofString "!").cps.toList = [33] := by decide +kernel
    refine ⟨_, (pss_cons (ps_set (i := 1) sc_PatternReader_unary.nd rfl (by first | exact Or.inl rfl | exact Or.inr rfl) pe_int)
  (pss_cons (ps_while (passes_of rfl) (pt_val (pe_meth (pv 0) T.cl_PatternReader T.m_PatternReader_faces (ok_PatternReader_faces T) (hr.mono (by omega)) T.b_PatternReader_faces .nil pass0 (pa_cons pe_str pa_nil)))
    (pss_cons (ps_expr (pe_methRs T.m_PatternReader_take T.cl_PatternReader (pv 0) (ok_PatternReader_take T) (hr.mono (by omega)) T.b_PatternReader_take (takes_of rfl rfl rfl rfl) (pa_cons pe_str pa_nil)))
  (pss_one (ps_aug (i := 1) sc_PatternReader_unary.nd rfl (by first | exact Or.inl rfl | exact Or.inr rfl) pe_int ip_add))))
  (pss_cons (ps_set (i := 2) sc_PatternReader_unary.nd rfl (by first | exact Or.inl rfl | exact Or.inr rfl) (pe_methR0 T.m_PatternReader_counted T.cl_PatternReader (pv 0) (ok_PatternReader_counted T) (hr.mono (by omega)) T.b_PatternReader_counted (takes_of rfl rfl rfl rfl)))
  (pss_cons (ps_for (passes_of rfl) rfl (pi_range1 (by rfl) T.nb_range (pa_cons (pv 1) pa_nil)) (pg_name (i := 3) sc_PatternReader_unary.nd rfl (by first | exact Or.inl rfl | exact Or.inr rfl))
    (pss_one (ps_set (i := 2) sc_PatternReader_unary.nd rfl (by first | exact Or.inl rfl | exact Or.inr rfl) (pe_callE (ok__over T) (hr.mono (by omega)) T.o__over (pa_cons pe_str (pa_cons (pv 2) pa_nil))))))
  (pss_one (ps_ret (pv 2))))))), ?_⟩
    walk_at "rc"
    walk_at "rs"
    refine rd_wh (fun mm σ H' => ∃ (i : Nat), σ = [some (.ref m), some (.int (i : Int)), none, none] ∧ But m H H' ∧ Rdr T H' m L z (p + i) o ∧ i ≤ n ∧ mm = n - i)
      _ ⟨0, rfl, But.refl, R, Nat.zero_le _, rfl⟩ ?_
    rintro mm σ H2 ⟨i, rfl, b2, R2, hi, rfl⟩
    obtain ⟨dx2, hm2⟩ := id R2
    walk_at "rc"
    refine ⟨m, dx2, _, rfl, hm2, rfl, ?_⟩
    walk_at "rc"
    refine ⟨m, L, z, p + i, o, _, rfl, R2, lz, ?_⟩
    rw [e33]
    walk_at "rc"
    rcases Nat.lt_or_ge i n with h | h
    · have ht : fcl z.cps.toList (p + i) [33] = true := fcl_in (by rw [hn]; exact h)
      rw [ht]
      refine rd_iteT ?_
      refine ⟨_, fun σ2 H2 z => z, ?_⟩
      walk_at "rc"
      refine ⟨m, dx2, _, rfl, hm2, rfl, ?_⟩
      walk_at "rc"
      refine ⟨m, L, z, p + i, o, _, rfl, R2, lz, fun c H3 hc hcs pl3 b3 R3 => ?_, fun hf => by rw [e33, ht] at hf; exact nomatch hf⟩
      refine rd_aug rfl ?_
      walk_at "rc"
      exact ⟨_, _, rfl, rfl, n - (i + 1), by omega, i + 1, rfl, b2.trans b3, R3, h, rfl⟩
    · have hin : i = n := by omega
      subst hin
      rw [show fcl z.cps.toList (p + i) [33] = false from by rw [← hn]; exact fcl_out]
      refine rd_iteF ?_
      walk_at "rc"
      refine ⟨m, dx2, _, rfl, hm2, rfl, ?_⟩
      walk_at "rc"
      refine ⟨m, L, z, p + i, rfl, R2, lz, lL, by omega, fun x v p1 H3 hx hv nx h1 h2 b3 R3 => ?_, fun q d H3 hq b3 hd => qb q d H3 (es _ hq) (b2.trans b3) hd, fun d H3 hq b3 hd => qd d H3 (es _ hq) (b2.trans b3) hd⟩
      walk_at "rc"
      walk_at "rs"
      walk_at "rc"
      refine ⟨_, rfl, by omega, by omega, ?_⟩
      rw [Int.toNat_natCast]
      refine fo_range (fun j σ H' => ∃ (u : V) (s3 : Option V), σ = [some (.ref m), some (.int (i : Int)), some u, s3] ∧ But m H H' ∧ Rdr T H' m L z p1 o ∧ Dp K H' u (dT (notsT x j)))
        ⟨v, _, rfl, b2.trans b3, R3, hv⟩ ?_ ?_
      · rintro j σ H4 hj ⟨u, s3, rfl, b4, R4, hu⟩
        walk_at "rc"
        refine ⟨"not", u, _, rfl, hu, fun v' H5 h5 e5 => ?_⟩
        walk_at "rc"
        exact ⟨v', _, rfl, b4.ex e5, R4.ex T e5, h5⟩
      · rintro σ H4 ⟨u, s3, rfl, b4, R4, hu⟩
        walk_at "rc"
        exact qy _ u p1 H4 (es _ hx) hu (NL.nots nx i) (by omega) h2 b4 R4
theorem rk_row (b o k : Nat) (hk : 5 ≤ k) (hS : FnOk P w K mg base (L2.CX P w) k T.a_PatternReader_unary T.d_PatternReader_unary ["self"] (spR T 1 o fun L z => UnaryR L z (BrR L z b))) : FnOk P w K mg base (L2.CX P w) (k + 1) T.a_PatternReader_row T.d_PatternReader_row ["self"] (spR T 0 o fun L z => RowR L z (BrR L z b)) := by
  refine T.f_PatternReader_row.okX sc_PatternReader_row spR_len (fun cdv A outer s H vs Q E hr h => ?_)
  · obtain ⟨m, L, z, p, rfl, R, lz, lL, pl, qy, qb, qd⟩ := h
    have ok_PatternReader_unary : ∀ _ : Txt K mg, FnOk P w K mg base (L2.CX P w) k T.a_PatternReader_unary T.d_PatternReader_unary ["self"] (spR T 1 o fun L z => UnaryR L z (BrR L z b)) := fun _ => hS
    have hzl : z.cps.toList.length = z.length := rfl
    have sz : 1000000 ≤ sizeLine := by decide
    obtain ⟨dx, hm⟩ := id R
    refine ⟨_, (pss_cons (ps_set (i := 1) sc_PatternReader_row.nd rfl (by first | exact Or.inl rfl | exact Or.inr rfl) (pe_op (kAdd K) (kFld K rfl (pe_fld (pv 0) rfl)) pe_str))
  (pss_cons (ps_if (pt_not (pt_val (pe_meth (pv 0) T.cl_PatternReader T.m_PatternReader_faces (ok_PatternReader_faces T) (hr.mono (by omega)) T.b_PatternReader_faces .nil pass0 (pa_cons (pv 1) pa_nil))))
    (pss_one (ps_ret (pe_globR (by rfl) T.c_EMPTY)))
    pss_nil)
  (pss_cons (ps_set (i := 2) sc_PatternReader_row.nd rfl (by first | exact Or.inl rfl | exact Or.inr rfl) (pe_methR0 T.m_PatternReader_unary T.cl_PatternReader (pv 0) (ok_PatternReader_unary T) (hr.mono (by omega)) T.b_PatternReader_unary (takes_of rfl rfl rfl rfl)))
  (pss_cons (ps_while (passes_of rfl) (pt_val (pe_meth (pv 0) T.cl_PatternReader T.m_PatternReader_faces (ok_PatternReader_faces T) (hr.mono (by omega)) T.b_PatternReader_faces .nil pass0 (pa_cons (pv 1) pa_nil)))
    (pss_one (ps_set (i := 2) sc_PatternReader_row.nd rfl (by first | exact Or.inl rfl | exact Or.inr rfl) (pe_callE (ok__over_two T) (hr.mono (by omega)) T.o__over_two (pa_cons pe_str (pa_cons (pv 2) (pa_cons (pe_methR0 T.m_PatternReader_unary T.cl_PatternReader (pv 0) (ok_PatternReader_unary T) (hr.mono (by omega)) T.b_PatternReader_unary (takes_of rfl rfl rfl rfl)) pa_nil)))))))
  (pss_one (ps_ret (pv 2))))))), ?_⟩
    walk_at "rc"
    refine ⟨m, _, dx, _, _, rfl, hm, T.cl_PatternReader, T.na_PatternReader_letters, rfl, ?_⟩
    walk_at "rc"
    have l4 : (Str.ofString ".[(!").length = 4 := by decide +kernel
    refine rd_addS (by rw [l4]; omega) ?_
    walk_at "rc"
    walk_at "rs"
    walk_at "rc"
    refine ⟨m, dx, _, rfl, hm, rfl, ?_⟩
    walk_at "rc"
    refine ⟨m, L, z, p, o, _, rfl, R, lz, ?_⟩
    rw [begL]
    walk_at "rc"
    cases hf : fcl z.cps.toList p (Beg L) with
    | false =>
      refine rd_iteNF ?_
      walk_at "rc"
      refine qy emptyT _ p H (show RowR L z.cps.toList (BrR L z.cps.toList b) p _ from ?_) (emptyD T H) NL.emptyT (Nat.le_refl _) pl But.refl R
      unfold RowR
      rw [if_neg (by rw [hf]; exact Bool.false_ne_true)]
    | true =>
      have es : ∀ r, bindR (UnaryR L z.cps.toList (BrR L z.cps.toList b) p) (RL L z.cps.toList (BrR L z.cps.toList b)) r → RowR L z.cps.toList (BrR L z.cps.toList b) p r := fun r h => by
        unfold RowR
        rw [if_pos hf]
        exact h
      refine rd_iteNT ?_
      walk_at "rc"
      refine ⟨m, dx, _, rfl, hm, rfl, ?_⟩
      walk_at "rc"
      refine ⟨m, L, z, p, rfl, R, lz, lL, pl, fun x v p1 H1 hx hv nx h1 h2 b1 R1 => ?_, fun q d H1 hq b1 hd => qb q d H1 (es _ ⟨_, hq, rfl⟩) b1 hd, fun d H1 hq b1 hd => qd d H1 (es _ ⟨_, hq, rfl⟩) b1 hd⟩
      walk_at "rc"
      walk_at "rs"
      refine rd_wh (fun mm σ H' => ∃ (y : TN) (u : V) (pk : Nat), σ = [some (.ref m), some (.str (L ++ Str.ofString ".[(!")), some u] ∧ But m H H' ∧ Rdr T H' m L z pk o ∧ Dp K H' u (dT y) ∧ NL y ∧ p ≤ pk ∧ pk ≤ z.length ∧ (∀ r, RL L z.cps.toList (BrR L z.cps.toList b) y pk r → RowR L z.cps.toList (BrR L z.cps.toList b) p r) ∧ mm = z.length - pk)
        _ ⟨x, v, p1, rfl, b1, R1, hv, nx, by omega, h2, fun r hr => es r ⟨_, hx, hr⟩, rfl⟩ ?_
      rintro mm σ H2 ⟨y, u, pk, rfl, b2, R2, hu, ny, g1, g2, hrun, rfl⟩
      obtain ⟨dx2, hm2⟩ := id R2
      walk_at "rc"
      refine ⟨m, dx2, _, rfl, hm2, rfl, ?_⟩
      walk_at "rc"
      refine ⟨m, L, z, pk, o, _, rfl, R2, lz, ?_⟩
      rw [begL]
      walk_at "rc"
      cases hf : fcl z.cps.toList pk (Beg L) with
      | false =>
        refine rd_iteF ?_
        walk_at "rc"
        exact qy y u pk H2 (hrun _ (.stop (by rw [hf]; exact Bool.false_ne_true))) hu ny g1 g2 b2 R2
      | true =>
        refine rd_iteT ?_
        refine ⟨_, fun σ2 H2 z => z, ?_⟩
        walk_at "rc"
        refine ⟨m, dx2, _, rfl, hm2, rfl, ?_⟩
        walk_at "rc"
        refine ⟨m, L, z, pk, rfl, R2, lz, lL, g2, fun x2 v2 p3 H3 hx3 hv3 nx3 h31 h32 b3 R3 => ?_, fun q d H3 hq b3 hd => qb q d H3 (hrun _ (.bad hf ⟨_, hq, rfl⟩)) (b2.trans b3) hd, fun d H3 hq b3 hd => qd d H3 (hrun _ (.deep hf ⟨_, hq, rfl⟩)) (b2.trans b3) hd⟩
        refine ⟨"join", u, v2, _, _, rfl, R2.dp T b3 ny hu, hv3, fun v4 H4 h4 e4 => ?_⟩
        walk_at "rc"
        exact ⟨z.length - p3, by omega, over2 "join" y x2, v4, p3, rfl, (b2.trans b3).ex e4, R3.ex T e4, h4, ny.over2 nx3, by omega, h32, fun r hr => hrun r (.step hf ⟨_, hx3, rfl⟩ hr), rfl⟩
theorem rk_meets (b o k : Nat) (hk : 5 ≤ k) (hS : FnOk P w K mg base (L2.CX P w) k T.a_PatternReader_row T.d_PatternReader_row ["self"] (spR T 0 o fun L z => RowR L z (BrR L z b))) : FnOk P w K mg base (L2.CX P w) (k + 1) T.a_PatternReader_meets T.d_PatternReader_meets ["self"] (spR T 0 o fun L z => MeetsR L z (BrR L z b)) := by
  refine T.f_PatternReader_meets.okX sc_PatternReader_meets spR_len (fun cdv A outer s H vs Q E hr h => ?_)
  · obtain ⟨m, L, z, p, rfl, R, lz, lL, pl, qy, qb, qd⟩ := h
    have ok_PatternReader_row : ∀ _ : Txt K mg, FnOk P w K mg base (L2.CX P w) k T.a_PatternReader_row T.d_PatternReader_row ["self"] (spR T 0 o fun L z => RowR L z (BrR L z b)) := fun _ => hS
    have hzl : z.cps.toList.length = z.length := rfl
    obtain ⟨dx, hm⟩ := id R
    refine ⟨_, (pss_cons (ps_set (i := 1) sc_PatternReader_meets.nd rfl (by first | exact Or.inl rfl | exact Or.inr rfl) (pe_methR0 T.m_PatternReader_row T.cl_PatternReader (pv 0) (ok_PatternReader_row T) (hr.mono (by omega)) T.b_PatternReader_row (takes_of rfl rfl rfl rfl)))
  (pss_cons (ps_while (passes_of rfl) (pt_val (pe_meth (pv 0) T.cl_PatternReader T.m_PatternReader_faces (ok_PatternReader_faces T) (hr.mono (by omega)) T.b_PatternReader_faces .nil pass0 (pa_cons pe_str pa_nil)))
    (pss_cons (ps_expr (pe_methRs T.m_PatternReader_take T.cl_PatternReader (pv 0) (ok_PatternReader_take T) (hr.mono (by omega)) T.b_PatternReader_take (takes_of rfl rfl rfl rfl) (pa_cons pe_str pa_nil)))
  (pss_one (ps_set (i := 1) sc_PatternReader_meets.nd rfl (by first | exact Or.inl rfl | exact Or.inr rfl) (pe_callE (ok__over_two T) (hr.mono (by omega)) T.o__over_two (pa_cons pe_str (pa_cons (pv 1) (pa_cons (pe_methR0 T.m_PatternReader_row T.cl_PatternReader (pv 0) (ok_PatternReader_row T) (hr.mono (by omega)) T.b_PatternReader_row (takes_of rfl rfl rfl rfl)) pa_nil))))))))
  (pss_one (ps_ret (pv 1))))), ?_⟩
    walk_at "rc"
    refine ⟨m, dx, _, rfl, hm, rfl, ?_⟩
    walk_at "rc"
    refine ⟨m, L, z, p, rfl, R, lz, lL, pl, fun x v p1 H1 hx hv nx h1 h2 b1 R1 => ?_, fun q d H1 hq b1 hd => qb q d H1 ⟨_, hq, rfl⟩ b1 hd, fun d H1 hq b1 hd => qd d H1 ⟨_, hq, rfl⟩ b1 hd⟩
    walk_at "rc"
    walk_at "rs"
    refine rd_wh (fun mm σ H' => ∃ (y : TN) (u : V) (pk : Nat), σ = [some (.ref m), some u] ∧ But m H H' ∧ Rdr T H' m L z pk o ∧ Dp K H' u (dT y) ∧ NL y ∧ p ≤ pk ∧ pk ≤ z.length ∧ (∀ r, ML L z.cps.toList (BrR L z.cps.toList b) y pk r → MeetsR L z.cps.toList (BrR L z.cps.toList b) p r) ∧ mm = z.length - pk)
      _ ⟨x, v, p1, rfl, b1, R1, hv, nx, by omega, h2, fun r hr => ⟨_, hx, hr⟩, rfl⟩ ?_
    rintro mm σ H2 ⟨y, u, pk, rfl, b2, R2, hu, ny, g1, g2, hrun, rfl⟩
    obtain ⟨dx2, hm2⟩ := id R2
    walk_at "rc"
    refine ⟨m, dx2, _, rfl, hm2, rfl, ?_⟩
    walk_at "rc"
    refine ⟨m, L, z, pk, o, _, rfl, R2, lz, ?_⟩
    rw [show (Str.ofString "&").cps.toList = [38] by decide +kernel, fcl_one]
    walk_at "rc"
    refine rd_iteD (fun hg => ?_) fun ng => ?_
    · refine ⟨_, fun σ2 H2 z => z, ?_⟩
      walk_at "rc"
      refine ⟨m, dx2, _, rfl, hm2, rfl, ?_⟩
      walk_at "rc"
      refine ⟨m, L, z, pk, o, _, rfl, R2, lz, fun c H3 hc hcs pl3 b3 R3 => ?_, fun hf => absurd (show (38 : Nat) ∈ (Str.ofString "&").cps.toList by decide +kernel) (fcl_no hf hg)⟩
      have hu3 := R2.dp T b3 ny hu
      obtain ⟨dx3, hm3⟩ := id R3
      walk_at "rc"
      refine ⟨m, dx3, _, rfl, hm3, rfl, ?_⟩
      walk_at "rc"
      refine ⟨m, L, z, pk + 1, rfl, R3, lz, lL, pl3, fun x2 v2 p4 H4 hx4 hv4 nx4 h41 h42 b4 R4 => ?_, fun q d H4 hq b4 hd => qb q d H4 (hrun _ (.bad hg ⟨_, hq, rfl⟩)) ((b2.trans b3).trans b4) hd, fun d H4 hq b4 hd => qd d H4 (hrun _ (.deep hg ⟨_, hq, rfl⟩)) ((b2.trans b3).trans b4) hd⟩
      refine ⟨"both", u, v2, _, _, rfl, R3.dp T b4 ny hu3, hv4, fun v5 H5 h5 e5 => ?_⟩
      walk_at "rc"
      exact ⟨z.length - p4, by omega, over2 "both" y x2, v5, p4, rfl, ((b2.trans b3).trans b4).ex e5, R4.ex T e5, h5, ny.over2 nx4, by omega, h42, fun r hr => hrun r (.step hg ⟨_, hx4, rfl⟩ hr), rfl⟩
    · walk_at "rc"
      exact qy y u pk H2 (hrun _ (.stop ng)) hu ny g1 g2 b2 R2
theorem rk_pattern (b o k : Nat) (hk : 5 ≤ k) (hS : FnOk P w K mg base (L2.CX P w) k T.a_PatternReader_meets T.d_PatternReader_meets ["self"] (spR T 0 o fun L z => MeetsR L z (BrR L z b))) : FnOk P w K mg base (L2.CX P w) (k + 1) T.a_PatternReader_pattern T.d_PatternReader_pattern ["self"] (spR T 0 o fun L z => PatX L z (BrR L z b)) := by
  refine T.f_PatternReader_pattern.okX sc_PatternReader_pattern spR_len (fun cdv A outer s H vs Q E hr h => ?_)
  · obtain ⟨m, L, z, p, rfl, R, lz, lL, pl, qy, qb, qd⟩ := h
    have ok_PatternReader_meets : ∀ _ : Txt K mg, FnOk P w K mg base (L2.CX P w) k T.a_PatternReader_meets T.d_PatternReader_meets ["self"] (spR T 0 o fun L z => MeetsR L z (BrR L z b)) := fun _ => hS
    have hzl : z.cps.toList.length = z.length := rfl
    obtain ⟨dx, hm⟩ := id R
    refine ⟨_, (pss_cons (ps_set (i := 1) sc_PatternReader_pattern.nd rfl (by first | exact Or.inl rfl | exact Or.inr rfl) (pe_methR0 T.m_PatternReader_meets T.cl_PatternReader (pv 0) (ok_PatternReader_meets T) (hr.mono (by omega)) T.b_PatternReader_meets (takes_of rfl rfl rfl rfl)))
  (pss_cons (ps_while (passes_of rfl) (pt_val (pe_meth (pv 0) T.cl_PatternReader T.m_PatternReader_faces (ok_PatternReader_faces T) (hr.mono (by omega)) T.b_PatternReader_faces .nil pass0 (pa_cons pe_str pa_nil)))
    (pss_cons (ps_expr (pe_methRs T.m_PatternReader_take T.cl_PatternReader (pv 0) (ok_PatternReader_take T) (hr.mono (by omega)) T.b_PatternReader_take (takes_of rfl rfl rfl rfl) (pa_cons pe_str pa_nil)))
  (pss_one (ps_set (i := 1) sc_PatternReader_pattern.nd rfl (by first | exact Or.inl rfl | exact Or.inr rfl) (pe_callE (ok__over_two T) (hr.mono (by omega)) T.o__over_two (pa_cons pe_str (pa_cons (pv 1) (pa_cons (pe_methR0 T.m_PatternReader_meets T.cl_PatternReader (pv 0) (ok_PatternReader_meets T) (hr.mono (by omega)) T.b_PatternReader_meets (takes_of rfl rfl rfl rfl)) pa_nil))))))))
  (pss_one (ps_ret (pv 1))))), ?_⟩
    walk_at "rc"
    refine ⟨m, dx, _, rfl, hm, rfl, ?_⟩
    walk_at "rc"
    refine ⟨m, L, z, p, rfl, R, lz, lL, pl, fun x v p1 H1 hx hv nx h1 h2 b1 R1 => ?_, fun q d H1 hq b1 hd => qb q d H1 ⟨_, hq, rfl⟩ b1 hd, fun d H1 hq b1 hd => qd d H1 ⟨_, hq, rfl⟩ b1 hd⟩
    walk_at "rc"
    walk_at "rs"
    refine rd_wh (fun mm σ H' => ∃ (y : TN) (u : V) (pk : Nat), σ = [some (.ref m), some u] ∧ But m H H' ∧ Rdr T H' m L z pk o ∧ Dp K H' u (dT y) ∧ NL y ∧ p ≤ pk ∧ pk ≤ z.length ∧ (∀ r, PL' L z.cps.toList (BrR L z.cps.toList b) y pk r → PatX L z.cps.toList (BrR L z.cps.toList b) p r) ∧ mm = z.length - pk)
      _ ⟨x, v, p1, rfl, b1, R1, hv, nx, by omega, h2, fun r hr => ⟨_, hx, hr⟩, rfl⟩ ?_
    rintro mm σ H2 ⟨y, u, pk, rfl, b2, R2, hu, ny, g1, g2, hrun, rfl⟩
    obtain ⟨dx2, hm2⟩ := id R2
    walk_at "rc"
    refine ⟨m, dx2, _, rfl, hm2, rfl, ?_⟩
    walk_at "rc"
    refine ⟨m, L, z, pk, o, _, rfl, R2, lz, ?_⟩
    rw [show (Str.ofString "|").cps.toList = [124] by decide +kernel, fcl_one]
    walk_at "rc"
    refine rd_iteD (fun hg => ?_) fun ng => ?_
    · refine ⟨_, fun σ2 H2 z => z, ?_⟩
      walk_at "rc"
      refine ⟨m, dx2, _, rfl, hm2, rfl, ?_⟩
      walk_at "rc"
      refine ⟨m, L, z, pk, o, _, rfl, R2, lz, fun c H3 hc hcs pl3 b3 R3 => ?_, fun hf => absurd (show (124 : Nat) ∈ (Str.ofString "|").cps.toList by decide +kernel) (fcl_no hf hg)⟩
      have hu3 := R2.dp T b3 ny hu
      obtain ⟨dx3, hm3⟩ := id R3
      walk_at "rc"
      refine ⟨m, dx3, _, rfl, hm3, rfl, ?_⟩
      walk_at "rc"
      refine ⟨m, L, z, pk + 1, rfl, R3, lz, lL, pl3, fun x2 v2 p4 H4 hx4 hv4 nx4 h41 h42 b4 R4 => ?_, fun q d H4 hq b4 hd => qb q d H4 (hrun _ (.bad hg ⟨_, hq, rfl⟩)) ((b2.trans b3).trans b4) hd, fun d H4 hq b4 hd => qd d H4 (hrun _ (.deep hg ⟨_, hq, rfl⟩)) ((b2.trans b3).trans b4) hd⟩
      refine ⟨"either", u, v2, _, _, rfl, R3.dp T b4 ny hu3, hv4, fun v5 H5 h5 e5 => ?_⟩
      walk_at "rc"
      exact ⟨z.length - p4, by omega, over2 "either" y x2, v5, p4, rfl, ((b2.trans b3).trans b4).ex e5, R4.ex T e5, h5, ny.over2 nx4, by omega, h42, fun r hr => hrun r (.step hg ⟨_, hx4, rfl⟩ hr), rfl⟩
    · walk_at "rc"
      exact qy y u pk H2 (hrun _ (.stop ng)) hu ny g1 g2 b2 R2
theorem rk_brk0 : FnOk P w K mg base (L2.CX P w) 6 T.a_PatternReader_bracketed T.d_PatternReader_bracketed ["self"] (spR T 0 12 fun L z => BrR L z 0) := by
  have hX : FnOk P w K mg base (L2.CX P w) 5 T.a_PatternReader_pattern T.d_PatternReader_pattern ["self"] (fun vs _ _ _ => vs.length = 1 ∧ False) :=
    T.f_PatternReader_pattern.okX sc_PatternReader_pattern (fun vs H Q E h => h.1) (fun cdv A outer s H vs Q E hr h => h.2.elim)
  refine T.f_PatternReader_bracketed.okX sc_PatternReader_bracketed spR_len (fun cdv A outer s H vs Q E hr h => ?_)
  · obtain ⟨m, L, z, p, rfl, R, lz, lL, pl, qy, qb, qd⟩ := h
    have ok_PatternReader_pattern : ∀ _ : Txt K mg, FnOk P w K mg base (L2.CX P w) 5 T.a_PatternReader_pattern T.d_PatternReader_pattern ["self"] (fun vs _ _ _ => vs.length = 1 ∧ False) := fun _ => hX
    obtain ⟨dx, hm⟩ := id R
    refine ⟨_, (pss_cons (ps_if (pt_cmpR (kEq K rfl hr.units) (kFld K rfl (pe_fld (pv 0) rfl)) (pe_globI (by rfl) T.c_MOST_OPEN_BRACKETS) (by first | rfl | exact nomark _))
    (pss_one (ps_raiseW rfl T.x_TooLarge (ok_init T) T.tI T.bI (hr.mono (by omega)) T.g_TooLarge (takes_of rfl rfl rfl rfl) (pa_cons (pe_globI (by rfl) T.c_MOST_OPEN_BRACKETS) pa_nil) (MonoA.one mono_c)))
    pss_nil)
  (pss_cons (kFa K rfl (ps_fldaug (pv 0) pe_int in_add))
  (pss_cons (ps_set (i := 1) sc_PatternReader_bracketed.nd rfl (by first | exact Or.inl rfl | exact Or.inr rfl) (pe_methR0 T.m_PatternReader_pattern T.cl_PatternReader (pv 0) (ok_PatternReader_pattern T) (hr.mono (by omega)) T.b_PatternReader_pattern (takes_of rfl rfl rfl rfl)))
  (pss_cons (ps_expr (pe_methRs T.m_PatternReader_take T.cl_PatternReader (pv 0) (ok_PatternReader_take T) (hr.mono (by omega)) T.b_PatternReader_take (takes_of rfl rfl rfl rfl) (pa_cons pe_str pa_nil)))
  (pss_cons (kFa K rfl (ps_fldaug (pv 0) pe_int in_sub))
  (pss_one (ps_ret (pv 1)))))))), ?_⟩
    walk_at "rc"
    walk_at "rs"
    walk_at "rc"
    refine ⟨m, _, dx, _, _, rfl, hm, T.cl_PatternReader, T.na_PatternReader_open_brackets, rfl, ?_⟩
    walk_at "rc"
    refine rd_iteD (fun _ => ?_) fun h => absurd rfl h
    walk_at "rc"
    exact fun d hd => qd d _ rfl (Ex.but (Evl.Ex.new hd)) upd_same
theorem rk_brk (b o k : Nat) (hk : 5 ≤ k) (ho : o < 12) (hS : FnOk P w K mg base (L2.CX P w) k T.a_PatternReader_pattern T.d_PatternReader_pattern ["self"] (spR T 0 (o + 1) fun L z => PatX L z (BrR L z b))) : FnOk P w K mg base (L2.CX P w) (k + 1) T.a_PatternReader_bracketed T.d_PatternReader_bracketed ["self"] (spR T 0 o fun L z => BrR L z (b + 1)) := by
  refine T.f_PatternReader_bracketed.okX sc_PatternReader_bracketed spR_len (fun cdv A outer s H vs Q E hr h => ?_)
  · obtain ⟨m, L, z, p, rfl, R, lz, lL, pl, qy, qb, qd⟩ := h
    have ok_PatternReader_pattern : ∀ _ : Txt K mg, FnOk P w K mg base (L2.CX P w) k T.a_PatternReader_pattern T.d_PatternReader_pattern ["self"] (spR T 0 (o + 1) fun L z => PatX L z (BrR L z b)) := fun _ => hS
    obtain ⟨dx, hm⟩ := id R
    refine ⟨_, (pss_cons (ps_if (pt_cmpR (kEq K rfl hr.units) (kFld K rfl (pe_fld (pv 0) rfl)) (pe_globI (by rfl) T.c_MOST_OPEN_BRACKETS) (by first | rfl | exact nomark _))
    (pss_one (ps_raiseW rfl T.x_TooLarge (ok_init T) T.tI T.bI (hr.mono (by omega)) T.g_TooLarge (takes_of rfl rfl rfl rfl) (pa_cons (pe_globI (by rfl) T.c_MOST_OPEN_BRACKETS) pa_nil) (MonoA.one mono_c)))
    pss_nil)
  (pss_cons (kFa K rfl (ps_fldaug (pv 0) pe_int in_add))
  (pss_cons (ps_set (i := 1) sc_PatternReader_bracketed.nd rfl (by first | exact Or.inl rfl | exact Or.inr rfl) (pe_methR0 T.m_PatternReader_pattern T.cl_PatternReader (pv 0) (ok_PatternReader_pattern T) (hr.mono (by omega)) T.b_PatternReader_pattern (takes_of rfl rfl rfl rfl)))
  (pss_cons (ps_expr (pe_methRs T.m_PatternReader_take T.cl_PatternReader (pv 0) (ok_PatternReader_take T) (hr.mono (by omega)) T.b_PatternReader_take (takes_of rfl rfl rfl rfl) (pa_cons pe_str pa_nil)))
  (pss_cons (kFa K rfl (ps_fldaug (pv 0) pe_int in_sub))
  (pss_one (ps_ret (pv 1)))))))), ?_⟩
    walk_at "rc"
    walk_at "rs"
    walk_at "rc"
    refine ⟨m, _, dx, _, _, rfl, hm, T.cl_PatternReader, T.na_PatternReader_open_brackets, rfl, ?_⟩
    walk_at "rc"
    refine rd_iteD (fun h => absurd h (by omega)) fun _ => ?_
    walk_at "rc"
    walk_at "rs"
    refine rd_fa ?_
    walk_at "rc"
    refine ⟨m, _, dx, _, _, rfl, hm, T.cl_PatternReader, T.na_PatternReader_open_brackets, rfl, ?_⟩
    walk_at "rc"
    refine ⟨_, _, rfl, rfl, dx, _, hm, by show 4 < 1000; decide, ?_⟩
    have b1 : But m H (upd H m (.ins T.C_PatternReader dx (putF "open_brackets" (.int ((o : Int) + 1)) [("letters", .str L), ("text", .str z), ("place", .int (p : Int)), ("open_brackets", .int (o : Int))]))) := But.of
    have R1 := rdr_ob T (H := H) (m := m) (L := L) (z := z) (p := p) (o := o + 1) (dx := dx) (v := .int ((o : Int) + 1)) (q := .int (o : Int)) rfl
    generalize upd H m (.ins T.C_PatternReader dx (putF "open_brackets" (.int ((o : Int) + 1)) [("letters", .str L), ("text", .str z), ("place", .int (p : Int)), ("open_brackets", .int (o : Int))])) = H1 at b1 R1
    obtain ⟨dx1, hm1⟩ := id R1
    walk_at "rc"
    refine ⟨m, dx1, _, rfl, hm1, rfl, ?_⟩
    walk_at "rc"
    refine ⟨m, L, z, p, rfl, R1, lz, lL, pl, fun x v p2 H2 hx hv nx h1 h2 b2 R2 => ?_, fun q d H2 hq b2 hd => qb q d H2 ⟨_, hq, rfl⟩ (b1.trans b2) hd, fun d H2 hq b2 hd => qd d H2 ⟨_, hq, rfl⟩ (b1.trans b2) hd⟩
    obtain ⟨dx2, hm2⟩ := id R2
    walk_at "rc"
    refine ⟨m, dx2, _, rfl, hm2, rfl, ?_⟩
    walk_at "rc"
    refine ⟨m, L, z, p2, o + 1, _, rfl, R2, lz, fun c H3 hc hcs pl3 b3 R3 => ?_, fun hf d H3 b3 hd => qb p2 d H3 ⟨_, hx, ?_⟩ ((b1.trans b2).trans b3) hd⟩
    · have hcs : c = 41 := by
        rw [show (Str.ofString ")").cps.toList = [41] by decide +kernel] at hcs
        simpa using hcs
      subst hcs
      have hv3 := R2.dp T b3 nx hv
      obtain ⟨dx3, hm3⟩ := id R3
      walk_at "rc"
      walk_at "rs"
      refine rd_fa ?_
      walk_at "rc"
      refine ⟨m, _, dx3, _, _, rfl, hm3, T.cl_PatternReader, T.na_PatternReader_open_brackets, rfl, ?_⟩
      walk_at "rc"
      refine ⟨_, _, rfl, rfl, dx3, _, hm3, by show 4 < 1000; decide, ?_⟩
      have b4 : But m H3 (upd H3 m (.ins T.C_PatternReader dx3 (putF "open_brackets" (.int (((o + 1 : Nat) : Int) - 1)) [("letters", .str L), ("text", .str z), ("place", .int ((p2 + 1 : Nat) : Int)), ("open_brackets", .int ((o + 1 : Nat) : Int))]))) := But.of
      have R4 := rdr_ob T (H := H3) (m := m) (L := L) (z := z) (p := p2 + 1) (o := o) (dx := dx3) (v := .int (((o + 1 : Nat) : Int) - 1)) (q := .int ((o + 1 : Nat) : Int)) (by rw [show (((o + 1 : Nat) : Int) - 1) = (o : Int) by omega])
      have hv4 := R3.dp T b4 nx hv3
      generalize upd H3 m (.ins T.C_PatternReader dx3 (putF "open_brackets" (.int (((o + 1 : Nat) : Int) - 1)) [("letters", .str L), ("text", .str z), ("place", .int ((p2 + 1 : Nat) : Int)), ("open_brackets", .int ((o + 1 : Nat) : Int))])) = H4 at b4 R4 hv4
      walk_at "rc"
      refine qy x v (p2 + 1) H4 ⟨_, hx, ?_⟩ hv4 nx (by omega) pl3 (((b1.trans b2).trans b3).trans b4) R4
      show _ = if z.cps.toList[p2]? = some 41 then _ else _
      rw [if_pos hc]
    · show _ = if z.cps.toList[p2]? = some 41 then _ else _
      rw [if_neg (fun e => fcl_no hf e (by decide +kernel))]
theorem rk_pat_of (b o k : Nat) (hk : 5 ≤ k) (hB : FnOk P w K mg base (L2.CX P w) k T.a_PatternReader_bracketed T.d_PatternReader_bracketed ["self"] (spR T 0 o fun L z => BrR L z b)) : FnOk P w K mg base (L2.CX P w) (k + 6) T.a_PatternReader_pattern T.d_PatternReader_pattern ["self"] (spR T 0 o fun L z => PatX L z (BrR L z b)) :=
  rk_pattern T b o (k + 5) (by omega) (rk_meets T b o (k + 4) (by omega) (rk_row T b o (k + 3) (by omega) (rk_unary T b o (k + 2) (by omega) (rk_counted T b o (k + 1) (by omega) (rk_simple T b o k hk hB)))))
theorem rk_brs : ∀ (b : Nat), b ≤ 12 → FnOk P w K mg base (L2.CX P w) (7 * b + 6) T.a_PatternReader_bracketed T.d_PatternReader_bracketed ["self"] (spR T 0 (12 - b) fun L z => BrR L z b)
  | 0, _ => rk_brk0 T
  | b + 1, h => rk_brk T b (12 - (b + 1)) (7 * b + 12) (by omega) (by omega) (by
    rw [show 12 - (b + 1) + 1 = 12 - b by omega]
    exact rk_pat_of T b (12 - b) (7 * b + 6) (by omega) (rk_brs b (by omega)))
theorem ok_PatternReader_pattern : FnOk P w K mg base (L2.CX P w) 96 T.a_PatternReader_pattern T.d_PatternReader_pattern ["self"] (spR T 0 0 fun L z => PatX L z (BrR L z 12)) := rk_pat_of T 12 0 90 (by decide) (rk_brs T 12 (Nat.le_refl _))
def spWhole : Sp := fun vs H Q E => ∃ (m : Addr) (L z : Str), vs = [.ref m] ∧ Rdr T H m L z 0 0 ∧ z.length ≤ 400 ∧ L.length ≤ 100 ∧
  (∀ x v p' H', WholeR L z.cps.toList (.ok x p') → Dp K H' v (dT x) → NL x → But m H H' → Q v H') ∧
  (∀ q d H', WholeR L z.cps.toList (.bad q) → But m H H' → H' d = some (.xd [("what", .int (q : Int))]) → E (.ref T.C_BadPattern) (some d) H') ∧
  (∀ d H', WholeR L z.cps.toList .deep → But m H H' → H' d = some (.xd [("what", .int 12)]) → E (.ref T.C_TooLarge) (some d) H')
theorem ok_PatternReader_whole : FnOk P w K mg base (L2.CX P w) 97 T.a_PatternReader_whole T.d_PatternReader_whole ["self"] (spWhole T) := by
  refine T.f_PatternReader_whole.okX sc_PatternReader_whole (fun vs H Q E h => ?_) (fun cdv A outer s H vs Q E hr h => ?_)
  · obtain ⟨_, _, _, rfl, _⟩ := h; rfl
  · obtain ⟨m, L, z, rfl, R, lz, lL, qy, qb, qd⟩ := h
    have hzl : z.cps.toList.length = z.length := rfl
    obtain ⟨dx, hm⟩ := id R
    refine ⟨_, (pss_cons (ps_set (i := 1) sc_PatternReader_whole.nd rfl (by first | exact Or.inl rfl | exact Or.inr rfl) (pe_methR0 T.m_PatternReader_pattern T.cl_PatternReader (pv 0) (ok_PatternReader_pattern T) (hr.mono (by decide)) T.b_PatternReader_pattern (takes_of rfl rfl rfl rfl)))
  (pss_cons (ps_if (pt_cmpR op_ltP (kFld K rfl (pe_fld (pv 0) rfl)) (pe_callB (kLen K) (by rfl) T.nb_len (by decide +kernel) (pa_cons (kFld K rfl (pe_fld (pv 0) rfl)) pa_nil)) (by first | rfl | exact nomark _))
    (pss_one (ps_raiseW rfl T.x_BadPattern (ok_init T) T.tI T.bI (hr.mono (by decide)) T.g_BadPattern (takes_of rfl rfl rfl rfl) (pa_cons (kFld K rfl (pe_fld (pv 0) rfl)) pa_nil) (MonoA.one mono_fld)))
    pss_nil)
  (pss_one (ps_ret (pv 1))))), ?_⟩
    walk_at "rc"
    refine ⟨m, dx, _, rfl, hm, rfl, ?_⟩
    walk_at "rc"
    refine ⟨m, L, z, 0, rfl, R, lz, lL, Nat.zero_le _, fun x v p1 H1 hx hv nx h1 h2 b1 R1 => ?_, fun q d H1 hq b1 hd => qb q d H1 ⟨_, hq, rfl⟩ b1 hd, fun d H1 hq b1 hd => qd d H1 ⟨_, hq, rfl⟩ b1 hd⟩
    obtain ⟨dx1, hm1⟩ := id R1
    walk_at "rc"
    walk_at "rs"
    walk_at "rc"
    refine ⟨m, _, dx1, _, _, rfl, hm1, T.cl_PatternReader, T.na_PatternReader_place, rfl, ?_⟩
    walk_at "rc"
    refine ⟨m, _, dx1, _, _, rfl, hm1, T.cl_PatternReader, T.na_PatternReader_text, rfl, ?_⟩
    walk_at "rc"
    refine rd_lenS (l400 lz) ?_
    walk_at "rc"
    refine rd_iteD (fun hlt => ?_) fun hge => ?_
    · walk_at "rc"
      refine ⟨m, _, dx1, _, _, rfl, hm1, T.cl_PatternReader, T.na_PatternReader_place, rfl, ?_⟩
      refine ⟨_, rfl, fun d hd => qb p1 d _ ⟨_, hx, ?_⟩ (b1.ex (Evl.Ex.new hd)) upd_same⟩
      show _ = if p1 < z.cps.toList.length then _ else _
      rw [if_pos (by omega)]
    · walk_at "rc"
      refine qy x v p1 H1 ⟨_, hx, ?_⟩ hv nx b1
      show _ = if p1 < z.cps.toList.length then _ else _
      rw [if_neg (by omega)]
theorem rd_mkV {C : Addr} {sp : Sp} {dvs : List V} {E : XK} {t : TA} {σ : L2.St} {H : Hp} {Q : VK} (h : t σ H fun vs H1 => ∀ x dx, H1 x = none → H1 dx = none → dx ≠ x → sp (.ref x :: (vs ++ dvs)) (upd (upd H1 dx (.own x)) x (.ins C dx [])) (fun v H2 => v = .non ∧ Q (.ref x) H2) E) : tMake C sp dvs E t σ H Q := h
def spRead : Sp := fun vs H Q E => ∃ (L z : Str), vs = [.str L, .str z] ∧ z.length ≤ sizeLine ∧ L.length ≤ 100 ∧
  (∀ x v p' H', z.length ≤ 400 → WholeR L z.cps.toList (.ok x p') → x.2 ≤ 100 → Dp K H' v x.1 → NL x → Ex H H' → Q v H') ∧
  (∀ q d H', z.length ≤ 400 → WholeR L z.cps.toList (.bad q) → Ex H H' → H' d = some (.xd [("what", .int (q : Int))]) → E (.ref T.C_BadPattern) (some d) H') ∧
  (∀ d H' (n : Nat), (400 < z.length ∧ n = 400 ∨ z.length ≤ 400 ∧ WholeR L z.cps.toList .deep ∧ n = 12 ∨ z.length ≤ 400 ∧ (∃ x p', WholeR L z.cps.toList (.ok x p') ∧ 100 < x.2) ∧ n = 100) → Ex H H' → H' d = some (.xd [("what", .int (n : Int))]) → E (.ref T.C_TooLarge) (some d) H')
theorem ok_read_pattern : FnOk P w K mg base (L2.CX P w) 99 T.a_read_pattern T.d_read_pattern ["letters", "text"] (spRead T) := by
  refine T.f_read_pattern.okX sc_read_pattern (fun vs H Q E h => ?_) (fun cdv A outer s H vs Q E hr h => ?_)
  · obtain ⟨_, _, rfl, _⟩ := h; rfl
  · obtain ⟨L, z, rfl, lz, lL, qy, qb, qd⟩ := h
    refine ⟨_, (pss_cons (ps_if (pt_cmpR op_gtP (pe_callB (kLen K) (by rfl) T.nb_len (by decide +kernel) (pa_cons (pv 1) pa_nil)) (pe_globI (by rfl) T.c_MOST_CHARACTERS) (by first | rfl | exact nomark _))
    (pss_one (ps_raiseW rfl T.x_TooLarge (ok_init T) T.tI T.bI (hr.mono (by decide)) T.g_TooLarge (takes_of rfl rfl rfl rfl) (pa_cons (pe_globI (by rfl) T.c_MOST_CHARACTERS) pa_nil) (MonoA.one mono_c)))
    pss_nil)
  (pss_cons (ps_asg (pe_methR0 T.m_PatternReader_whole T.cl_PatternReader (pe_make T.mk_PatternReader (ok_PatternReader_init T) (hr.mono (by decide)) (by rfl) T.g_PatternReader T.b_PatternReader_init .nil pass0 (pa_cons (pv 0) (pa_cons (pv 1) pa_nil))) (ok_PatternReader_whole T) (hr.mono (by decide)) T.b_PatternReader_whole (takes_of rfl rfl rfl rfl)) (kGt K rfl (pg_tup (n := 2) (by rfl) (pgs_cons (pg_name (i := 2) sc_read_pattern.nd rfl (by first | exact Or.inl rfl | exact Or.inr rfl)) (pgs_cons (pg_name (i := 3) sc_read_pattern.nd rfl (by first | exact Or.inl rfl | exact Or.inr rfl)) pgs_nil)))))
  (pss_cons (ps_if (pt_cmpR op_gtP (pv 3) (pe_globI (by rfl) T.c_MOST_TERMS) (by first | rfl | exact nomark _))
    (pss_one (ps_raiseW rfl T.x_TooLarge (ok_init T) T.tI T.bI (hr.mono (by decide)) T.g_TooLarge (takes_of rfl rfl rfl rfl) (pa_cons (pe_globI (by rfl) T.c_MOST_TERMS) pa_nil) (MonoA.one mono_c)))
    pss_nil)
  (pss_one (ps_ret (pv 2)))))), ?_⟩
    walk_at "rc"
    walk_at "rs"
    walk_at "rc"
    refine rd_lenS lz ?_
    walk_at "rc"
    refine rd_iteD (fun h400 => ?_) fun h400 => ?_
    · walk_at "rc"
      exact fun d hd => qd d _ 400 (.inl ⟨by omega, rfl⟩) (Evl.Ex.new hd) upd_same
    · have lz4 : z.length ≤ 400 := by omega
      walk_at "rc"
      refine rd_mkV ?_
      walk_at "rc"
      intro m dx hmn hdn hne
      have e1 : Ex H (upd (upd H dx (.own m)) m (.ins T.C_PatternReader dx [])) := (Evl.Ex.new hdn).trans (Evl.Ex.new (by rw [upd_ne (fun e => hne e.symm)]; exact hmn))
      have hm1 : upd (upd H dx (.own m)) m (.ins T.C_PatternReader dx []) m = some (.ins T.C_PatternReader dx []) := upd_same
      generalize upd (upd H dx (.own m)) m (.ins T.C_PatternReader dx []) = H1 at e1 hm1
      have exB : ∀ {H' : Hp}, But m H1 H' → Ex H H' := fun b c o q => b c o (fun e => by rw [e, hmn] at q; cases q) (e1 c o q)
      refine ⟨m, dx, L, z, rfl, hm1, fun H2 b2 R2 => ⟨rfl, ?_⟩⟩
      obtain ⟨dx2, hm2⟩ := id R2
      refine ⟨m, dx2, _, rfl, hm2, rfl, ?_⟩
      refine ⟨m, L, z, rfl, R2, lz4, lL, fun x v p' H3 hx hv nx b3 => ?_, fun q d H3 hq b3 hd => qb q d H3 lz4 hq (exB (b2.trans b3)) hd, fun d H3 hq b3 hd => qd d H3 12 (.inr (.inl ⟨lz4, hq, rfl⟩)) (exB (b2.trans b3)) hd⟩
      refine rd_gtD (Evl.Ex.refl _) hv rfl fun xs hxs => ?_
      cases hxs with
      | cons a1 a2 =>
        cases a2 with
        | cons a2 a3 =>
          cases a3
          cases Dp.int_iff a2
          walk_at "rc"
          walk_at "rs"
          walk_at "rc"
          refine rd_iteD (fun h100 => ?_) fun h100 => ?_
          · walk_at "rc"
            exact fun d hd => qd d _ 100 (.inr (.inr ⟨lz4, ⟨x, p', hx, by omega⟩, rfl⟩)) ((exB (b2.trans b3)).trans (Evl.Ex.new hd)) upd_same
          · walk_at "rc"
            exact qy x _ p' H3 lz4 hx (by omega) a1 nx (exB (b2.trans b3))
end
section
/-! ### what is written by the grammar is read back -/
def AtL (z : List Nat) (p : Nat) (s : List Nat) : Prop := ∀ i c, s[i]? = some c → z[p + i]? = some c
theorem AtL.cons {z s : List Nat} {p c : Nat} (h : AtL z p (c :: s)) : z[p]? = some c ∧ AtL z (p + 1) s :=
  ⟨h 0 c rfl, fun i d hd => by rw [show p + 1 + i = p + (i + 1) by omega]; exact h (i + 1) d (by simpa using hd)⟩
theorem AtL.app {z : List Nat} : ∀ {a b : List Nat} {p : Nat}, AtL z p (a ++ b) → AtL z p a ∧ AtL z (p + a.length) b
  | [], b, p, h => ⟨(fun i c e => by simp at e), h⟩
  | x :: a, b, p, h => by
    obtain ⟨h1, h2⟩ := AtL.cons (s := a ++ b) h
    obtain ⟨h3, h4⟩ := AtL.app h2
    refine ⟨fun i c e => ?_, by rw [List.length_cons, show p + (a.length + 1) = p + 1 + a.length by omega]; exact h4⟩
    cases i with
    | zero => rw [List.getElem?_cons_zero] at e; cases e; exact h1
    | succ i => rw [show p + (i + 1) = p + 1 + i by omega]; exact h3 i c (by simpa using e)
theorem AtL.self {z : List Nat} : AtL z 0 z := fun i c e => by rw [Nat.zero_add]; exact e
/-- signs that are no letters -/
def Spc : List Nat := [33, 38, 40, 41, 42, 43, 44, 46, 63, 91, 93, 94, 123, 124, 125]
def Plain (L : Str) : Prop := ∀ c ∈ L.cps.toList, c ∉ Spc
theorem pl_plain : ∀ c ∈ ("abcdefghijklmnopqrstuvwxyzABCDEFGHIJKLMNOPQRSTUVWXYZ0123456789<>=:_@#" : Str).cps.toList, c ∉ Spc := by decide +kernel
variable {L : Str}
theorem fcl_f {z : List Nat} {p c : Nat} {sg : List Nat} (h : z[p]? = some c) (hc : c ∉ sg) : fcl z p sg = false := by
  unfold fcl; rw [h]; exact decide_eq_false hc
theorem ne_some {z : List Nat} {p c k : Nat} (h : z[p]? = some c) (n : c ≠ k) : ¬ z[p]? = some k := fun e => n (by rw [h] at e; exact Option.some.inj e)
def Hd (L : Str) (s : List Nat) (n : Bool) : Prop := ∃ c t, s = c :: t ∧ c ∈ Beg L ∧ (n = true → c ≠ 33)
theorem Hd.app {s t : List Nat} {n : Bool} (h : Hd L s n) : Hd L (s ++ t) n := by
  obtain ⟨c, u, rfl, h1, h2⟩ := h
  exact ⟨c, u ++ t, rfl, h1, h2⟩
structure SimP (L : Str) (d : Nat) (s : List Nat) (x : TN) : Prop where
  hd : Hd L s true
  rd : ∀ z p b, d ≤ b → AtL z p s → SimpleR L z (BrR L z b) p (.ok x (p + s.length))
structure CntP (L : Str) (d : Nat) (s : List Nat) (x : TN) : Prop where
  hd : Hd L s true
  rd : ∀ z p b, d ≤ b → AtL z p s → ∀ r, CL z x (p + s.length) r → CountedR L z (BrR L z b) p r
structure UnP (L : Str) (d : Nat) (s : List Nat) (x : TN) : Prop where
  hd : Hd L s false
  rd : ∀ z p b, d ≤ b → AtL z p s → fcl z (p + s.length) SgC = false → UnaryR L z (BrR L z b) p (.ok x (p + s.length))
structure RowQ (L : Str) (d : Nat) (s : List Nat) (x : TN) : Prop where
  hd : Hd L s false
  rd : ∀ z p b, d ≤ b → AtL z p s → fcl z (p + s.length) SgC = false → ∀ r, RL L z (BrR L z b) x (p + s.length) r → RowR L z (BrR L z b) p r
def RowP (L : Str) (d : Nat) (s : List Nat) (x : TN) : Prop := (s = [] ∧ x = emptyT) ∨ RowQ L d s x
/-- at q stands nothing that goes on with a row -/
def Fr (L : Str) (z : List Nat) (q : Nat) : Prop := fcl z q (Beg L) = false ∧ fcl z q SgC = false
def MeP (L : Str) (d : Nat) (s : List Nat) (x : TN) : Prop := ∀ z p b, d ≤ b → AtL z p s → Fr L z (p + s.length) → ∀ r, ML L z (BrR L z b) x (p + s.length) r → MeetsR L z (BrR L z b) p r
def WhP (L : Str) (d : Nat) (s : List Nat) (x : TN) : Prop := ∀ z p b, d ≤ b → AtL z p s → Fr L z (p + s.length) → ¬ z[p + s.length]? = some 38 → ∀ r, PL' L z (BrR L z b) x (p + s.length) r → PatX L z (BrR L z b) p r
theorem SimP.letter (hL : Plain L) {c : Nat} (hc : c ∈ L.cps.toList) : SimP L 0 [c] (oneOf ⟨#[c]⟩) := by
  have n := hL c hc
  unfold Spc at n
  simp only [List.mem_cons, List.not_mem_nil, or_false] at n
  refine ⟨⟨c, [], rfl, List.mem_append_left _ hc, fun _ => by omega⟩, fun z p b _ h => ?_⟩
  have h0 := (AtL.cons h).1
  unfold SimpleR
  rw [if_pos (fcl_of h0 (List.mem_append_left _ hc)), if_neg (ne_some h0 (by omega)), if_neg (ne_some h0 (by omega)), if_neg (ne_some h0 (by omega))]
  exact ⟨c, h0, rfl⟩
theorem SimP.dot : SimP L 0 [46] (oneOf L) := by
  refine ⟨⟨46, [], rfl, List.mem_append_right _ (by decide), fun _ => by decide⟩, fun z p b _ h => ?_⟩
  have h0 := (AtL.cons h).1
  unfold SimpleR
  rw [if_pos (fcl_of h0 (List.mem_append_right _ (by decide))), if_neg (ne_some h0 (by decide)), if_neg (ne_some h0 (by decide)), if_pos h0]
  rfl
theorem sp_eq {ks : List Nat} : ∀ {s : List Nat} {z : List Nat} {c : Nat}, (∀ x ∈ s, x ∈ ks) → c ∉ ks → AtL z 0 (s ++ [c]) → sp ks z = s.length ∧ z.take s.length = s
  | [], z, c, _, n, h => by
    have h0 := h 0 c rfl
    cases z with
    | nil => simp at h0
    | cons x z =>
      have : x = c := by simpa using h0
      subst this
      exact ⟨if_neg n, rfl⟩
  | x :: s, z, c, hs, n, h => by
    obtain ⟨h0, h1⟩ := AtL.cons (s := s ++ [c]) h
    cases z with
    | nil => simp at h0
    | cons y z =>
      have : y = x := by simpa using h0
      subst this
      obtain ⟨g1, g2⟩ := sp_eq (fun x hx => hs x (List.mem_cons_of_mem _ hx)) n (z := z) (fun i c e => by
        have := h1 i c e
        rw [show 0 + 1 + i = i + 1 by omega] at this
        rw [Nat.zero_add]
        simpa using this)
      refine ⟨?_, by rw [List.length_cons, List.take_succ_cons, g2]⟩
      show (if y ∈ ks then sp ks z + 1 else 0) = _
      rw [if_pos (hs y List.mem_cons_self), g1, List.length_cons]
theorem AtL.drop {z s : List Nat} {p : Nat} (h : AtL z p s) : AtL (z.drop p) 0 s := fun i c e => by rw [List.getElem?_drop, Nat.zero_add]; exact h i c e
theorem chos_at (hL : Plain L) {s z : List Nat} {p : Nat} {o : Bool} (hs : ∀ c ∈ s, c ∈ L.cps.toList) (h : AtL z p (s ++ [93])) : chosO L z p o = .ok (oneOf (keptS L s o)) (p + s.length + 1) := by
  obtain ⟨e1, e2⟩ := sp_eq (ks := L.cps.toList) hs (fun e => hL 93 e (by decide)) h.drop
  unfold chosO
  rw [e1, e2, if_pos (AtL.cons (AtL.app h).2).1]
theorem SimP.set (hL : Plain L) {s : List Nat} {o : Bool} (hs : ∀ c ∈ s, c ∈ L.cps.toList) : SimP L 0 (91 :: ((if o then [94] else []) ++ (s ++ [93]))) (oneOf (keptS L s o)) := by
  refine ⟨⟨91, _, rfl, List.mem_append_right _ (by decide), fun _ => by decide⟩, fun z p b _ h => ?_⟩
  obtain ⟨h0, h1⟩ := AtL.cons h
  unfold SimpleR
  rw [if_pos (fcl_of h0 (List.mem_append_right _ (by decide))), if_neg (ne_some h0 (by decide)), if_pos h0]
  unfold chosR
  cases o with
  | true =>
    obtain ⟨h2, h3⟩ := AtL.cons (s := s ++ [93]) h1
    rw [if_pos h2, chos_at hL hs h3]
    refine congrArg (Rs.ok _) ?_
    simp only [List.length_cons, List.length_append, if_pos]
    simp
    omega
  | false =>
    have h2 : ¬ z[p + 1]? = some 94 := by
      cases s with
      | nil => exact ne_some (AtL.cons (s := []) h1).1 (by decide)
      | cons c t => exact ne_some (AtL.cons (s := t ++ [93]) h1).1 (fun e => hL 94 (hs 94 (by rw [e]; exact List.mem_cons_self)) (by decide))
    rw [if_neg h2, chos_at hL hs h1]
    refine congrArg (Rs.ok _) ?_
    simp
    omega
theorem Lp.stop' {go : Nat → Prop} {item : TN → Nat → RT} {x : TN} {p : Nat} (h : ¬ go p) : Lp go item x p (.ok x p) := .stop h
theorem Fr.at (hL : Plain L) {z : List Nat} {q c : Nat} (h : z[q]? = some c) (hc : c ∈ [38, 41, 44, 93, 94, 124, 125]) : Fr L z q := by
  simp only [List.mem_cons, List.not_mem_nil, or_false] at hc
  refine ⟨fcl_f h fun e => ?_, fcl_f h fun e => ?_⟩
  · rcases List.mem_append.mp e with e | e
    · have := hL c e
      unfold Spc at this
      simp only [List.mem_cons, List.not_mem_nil, or_false] at this
      omega
    · simp only [List.mem_cons, List.not_mem_nil, or_false] at e
      omega
  · unfold SgC at e
    simp only [List.mem_cons, List.not_mem_nil, or_false] at e
    omega
theorem Fr.none {z : List Nat} {q : Nat} (h : z[q]? = none) : Fr L z q := ⟨by unfold fcl; rw [h], by unfold fcl; rw [h]⟩
theorem WhP.whole {d : Nat} {s : List Nat} {x : TN} (h : WhP L d s x) (z : List Nat) (p b : Nat) (hd : d ≤ b) (ha : AtL z p s) (hf : Fr L z (p + s.length)) (n1 : ¬ z[p + s.length]? = some 38) (n2 : ¬ z[p + s.length]? = some 124) : PatX L z (BrR L z b) p (.ok x (p + s.length)) :=
  h z p b hd ha hf n1 _ (.stop n2)
theorem SimP.br (hL : Plain L) {d : Nat} {s : List Nat} {x : TN} (h : WhP L d s x) : SimP L (d + 1) (40 :: (s ++ [41])) x := by
  refine ⟨⟨40, _, rfl, List.mem_append_right _ (by decide), fun _ => by decide⟩, fun z p b hb ha => ?_⟩
  obtain ⟨h0, h1⟩ := AtL.cons ha
  obtain ⟨h2, h3⟩ := AtL.app h1
  have h4 := (AtL.cons h3).1
  obtain ⟨b, rfl⟩ : ∃ c, b = c + 1 := ⟨b - 1, by omega⟩
  unfold SimpleR
  rw [if_pos (fcl_of h0 (List.mem_append_right _ (by decide))), if_pos h0]
  refine ⟨_, h.whole z (p + 1) b (by omega) h2 (Fr.at hL h4 (by decide)) (ne_some h4 (by decide)) (ne_some h4 (by decide)), ?_⟩
  show _ = if z[p + 1 + s.length]? = some 41 then _ else _
  rw [if_pos h4]
  refine congrArg (Rs.ok _) ?_
  simp
  omega
theorem SimP.mono {d e : Nat} {s : List Nat} {x : TN} (h : SimP L d s x) (k : d ≤ e) : SimP L e s x := ⟨h.hd, fun z p b hb => h.rd z p b (Nat.le_trans k hb)⟩
theorem SimP.cnt {d : Nat} {s : List Nat} {x : TN} (h : SimP L d s x) : CntP L d s x := ⟨h.hd, fun z p b hb ha r hr => ⟨_, h.rd z p b hb ha, hr⟩⟩
theorem CntP.sign {d k : Nat} {s t : List Nat} {x y : TN} (h : CntP L d s x) (hk : k ∈ SgC) (hi : ∀ z q, AtL z q (k :: t) → cItem z x q = .ok y (q + (t.length + 1))) : CntP L d (s ++ k :: t) y := by
  refine ⟨h.hd.app, fun z p b hb ha r hr => ?_⟩
  obtain ⟨h1, h2⟩ := AtL.app ha
  refine h.rd z p b hb h1 r (.step (fcl_of (AtL.cons h2).1 hk) (hi z _ h2).symm ?_)
  rw [show p + s.length + (t.length + 1) = p + (s ++ k :: t).length by rw [List.length_append, List.length_cons]; omega]
  exact hr
theorem CntP.star {d : Nat} {s : List Nat} {x : TN} (h : CntP L d s x) : CntP L d (s ++ [42]) (over "star" x) := h.sign (by decide) fun z q ha => by
  unfold cItem; rw [if_pos (AtL.cons ha).1]; rfl
theorem CntP.plus {d : Nat} {s : List Nat} {x : TN} (h : CntP L d s x) : CntP L d (s ++ [43]) (over2 "join" x (over "star" x)) := h.sign (by decide) fun z q ha => by
  have h0 := (AtL.cons ha).1
  unfold cItem; rw [if_neg (ne_some h0 (by decide)), if_pos h0]; rfl
theorem CntP.opt {d : Nat} {s : List Nat} {x : TN} (h : CntP L d s x) : CntP L d (s ++ [63]) (over2 "either" emptyT x) := h.sign (by decide) fun z q ha => by
  have h0 := (AtL.cons ha).1
  unfold cItem; rw [if_neg (ne_some h0 (by decide)), if_neg (ne_some h0 (by decide)), if_pos h0]; rfl
theorem CntP.two {d l m : Nat} {s : List Nat} {x : TN} (h : CntP L d s x) (lm : l ≤ m) (m8 : m ≤ 8) : CntP L d (s ++ [123, 48 + l, 44, 48 + m, 125]) (betw x l m) := h.sign (by decide) fun z q ha => by
  obtain ⟨h0, ha⟩ := AtL.cons ha
  obtain ⟨h1, ha⟩ := AtL.cons ha
  obtain ⟨h2, ha⟩ := AtL.cons ha
  obtain ⟨h3, ha⟩ := AtL.cons ha
  obtain ⟨h4, _⟩ := AtL.cons ha
  have ec : cntR z (q + 1) = .inl (l, m, q + 5) := by
    have h2 : z[q + 1 + 1]? = some 44 := h2
    have h3 : z[q + 1 + 2]? = some (48 + m) := h3
    have h4 : z[q + 1 + 3]? = some 125 := h4
    unfold cntR
    rw [h1]
    simp only
    rw [if_pos (by omega), if_pos h2, h3]
    simp only
    rw [if_pos (by omega), if_pos h4, Nat.add_sub_cancel_left, Nat.add_sub_cancel_left]
  unfold cItem
  rw [if_neg (ne_some h0 (by decide)), if_neg (ne_some h0 (by decide)), if_neg (ne_some h0 (by decide)), ec]
  rfl
theorem CntP.one {d l : Nat} {s : List Nat} {x : TN} (h : CntP L d s x) (l8 : l ≤ 8) : CntP L d (s ++ [123, 48 + l, 125]) (betw x l l) := h.sign (by decide) fun z q ha => by
  obtain ⟨h0, ha⟩ := AtL.cons ha
  obtain ⟨h1, ha⟩ := AtL.cons ha
  obtain ⟨h2, _⟩ := AtL.cons ha
  have ec : cntR z (q + 1) = .inl (l, l, q + 3) := by
    have h2 : z[q + 1 + 1]? = some 125 := h2
    unfold cntR
    rw [h1]
    simp only
    rw [if_pos (by omega), if_neg (ne_some h2 (by decide)), if_pos h2, Nat.add_sub_cancel_left]
  unfold cItem
  rw [if_neg (ne_some h0 (by decide)), if_neg (ne_some h0 (by decide)), if_neg (ne_some h0 (by decide)), ec]
  rfl
theorem sp_0 {z : List Nat} {p c : Nat} (h : z[p]? = some c) (n : c ≠ 33) : sp [33] (z.drop p) = 0 := by
  obtain ⟨hb, e⟩ := List.getElem?_eq_some_iff.mp h
  rw [List.drop_eq_getElem_cons hb, e]
  exact if_neg (by simp [n])
theorem sp_1 {z : List Nat} {p : Nat} (h : z[p]? = some 33) : sp [33] (z.drop p) = sp [33] (z.drop (p + 1)) + 1 := by
  obtain ⟨hb, e⟩ := List.getElem?_eq_some_iff.mp h
  rw [List.drop_eq_getElem_cons hb, e]
  exact if_pos (by simp)
theorem CntP.un {d : Nat} {s : List Nat} {x : TN} (h : CntP L d s x) : UnP L d s x := by
  obtain ⟨c, t, hs, hb, hn⟩ := id h.hd
  refine ⟨⟨c, t, hs, hb, fun z => nomatch z⟩, fun z p b hd ha hf => ?_⟩
  have h0 : z[p]? = some c := ha 0 c (by rw [hs]; rfl)
  refine ⟨.ok x (p + s.length), ?_, ?_⟩
  · rw [sp_0 h0 (hn rfl)]
    exact h.rd z p b hd ha _ (.stop (by rw [hf]; exact Bool.false_ne_true))
  · rw [sp_0 h0 (hn rfl)]; rfl
theorem UnP.not {d : Nat} {s : List Nat} {x : TN} (h : UnP L d s x) : UnP L d (33 :: s) (over "not" x) := by
  refine ⟨⟨33, s, rfl, List.mem_append_right _ (by decide), fun z => nomatch z⟩, fun z p b hd ha hf => ?_⟩
  obtain ⟨h0, h1⟩ := AtL.cons ha
  obtain ⟨r1, g1, g2⟩ := h.rd z (p + 1) b hd h1 (by rw [show p + 1 + s.length = p + (33 :: s).length by rw [List.length_cons]; omega]; exact hf)
  cases r1 with
  | ok y q =>
    obtain ⟨e1, e2⟩ := Rs.ok.inj g2
    have e1 : x = notsT y (sp [33] (z.drop (p + 1))) := e1
    refine ⟨.ok y q, ?_, ?_⟩
    · rw [sp_1 h0, show p + (sp [33] (z.drop (p + 1)) + 1) = p + 1 + sp [33] (z.drop (p + 1)) by omega]
      exact g1
    · rw [sp_1 h0]
      show _ = Rs.ok (over "not" (notsT y (sp [33] (z.drop (p + 1))))) q
      rw [← e1, ← e2, List.length_cons, show p + (s.length + 1) = p + 1 + s.length by omega]
  | bad q => exact nomatch g2
  | deep => exact nomatch g2
theorem UnP.row {d : Nat} {s : List Nat} {x : TN} (h : UnP L d s x) : RowQ L d s x := by
  refine ⟨h.hd, fun z p b hd ha hf r hr => ?_⟩
  obtain ⟨c, t, hs, hb, _⟩ := id h.hd
  unfold RowR
  rw [if_pos (fcl_of (show z[p]? = some c from ha 0 c (by rw [hs]; rfl)) hb)]
  exact ⟨_, h.rd z p b hd ha hf, hr⟩
theorem beg_sgC (hL : Plain L) {c : Nat} (h : c ∈ Beg L) : c ∉ SgC := fun e => by
  unfold SgC at e
  simp only [List.mem_cons, List.not_mem_nil, or_false] at e
  rcases List.mem_append.mp h with h | h
  · have := hL c h
    unfold Spc at this
    simp only [List.mem_cons, List.not_mem_nil, or_false] at this
    omega
  · simp only [List.mem_cons, List.not_mem_nil, or_false] at h
    omega
theorem RowQ.join (hL : Plain L) {d : Nat} {s t : List Nat} {x y : TN} (h : RowQ L d s x) (g : UnP L d t y) : RowQ L d (s ++ t) (over2 "join" x y) := by
  refine ⟨h.hd.app, fun z p b hd ha hf r hr => ?_⟩
  obtain ⟨h1, h2⟩ := AtL.app ha
  obtain ⟨c, u, hs, hb, _⟩ := id g.hd
  have h0 := h2 0 c (by rw [hs]; rfl)
  have el : p + s.length + t.length = p + (s ++ t).length := by rw [List.length_append]; omega
  refine h.rd z p b hd h1 (fcl_f h0 (beg_sgC hL hb)) r (.step (fcl_of h0 hb) ⟨_, g.rd z (p + s.length) b hd h2 (by rw [el]; exact hf), rfl⟩ ?_)
  rw [el]
  exact hr
theorem RowP.rd {d : Nat} {s : List Nat} {x : TN} (h : RowP L d s x) (z : List Nat) (p b : Nat) (hd : d ≤ b) (ha : AtL z p s) (hf : Fr L z (p + s.length)) : RowR L z (BrR L z b) p (.ok x (p + s.length)) := by
  obtain ⟨n1, n2⟩ := hf
  rcases h with ⟨rfl, rfl⟩ | h
  · unfold RowR
    have n1 : fcl z p (Beg L) = false := n1
    rw [if_neg (by rw [n1]; exact Bool.false_ne_true)]
    rfl
  · exact h.rd z p b hd ha n2 _ (.stop (by rw [n1]; exact Bool.false_ne_true))
theorem RowP.me {d : Nat} {s : List Nat} {x : TN} (h : RowP L d s x) : MeP L d s x := fun z p b hd ha hf r hr => ⟨_, h.rd z p b hd ha hf, hr⟩
theorem MeP.both (hL : Plain L) {d : Nat} {s t : List Nat} {x y : TN} (h : MeP L d s x) (g : RowP L d t y) : MeP L d (s ++ 38 :: t) (over2 "both" x y) := fun z p b hd ha hf r hr => by
  obtain ⟨h1, h2⟩ := AtL.app ha
  obtain ⟨h3, h4⟩ := AtL.cons h2
  have el : p + s.length + 1 + t.length = p + (s ++ 38 :: t).length := by rw [List.length_append, List.length_cons]; omega
  refine h z p b hd h1 (Fr.at hL h3 (by decide)) r (.step h3 ⟨_, g.rd z (p + s.length + 1) b hd h4 (by rw [el]; exact hf), rfl⟩ ?_)
  rw [el]; exact hr
theorem MeP.rd {d : Nat} {s : List Nat} {x : TN} (h : MeP L d s x) (z : List Nat) (p b : Nat) (hd : d ≤ b) (ha : AtL z p s) (hf : Fr L z (p + s.length)) (n1 : ¬ z[p + s.length]? = some 38) : MeetsR L z (BrR L z b) p (.ok x (p + s.length)) := h z p b hd ha hf _ (.stop n1)
theorem MeP.wh {d : Nat} {s : List Nat} {x : TN} (h : MeP L d s x) : WhP L d s x := fun z p b hd ha hf n1 r hr => ⟨_, h.rd z p b hd ha hf n1, hr⟩
theorem WhP.either (hL : Plain L) {d : Nat} {s t : List Nat} {x y : TN} (h : WhP L d s x) (g : MeP L d t y) : WhP L d (s ++ 124 :: t) (over2 "either" x y) := fun z p b hd ha hf n1 r hr => by
  obtain ⟨h1, h2⟩ := AtL.app ha
  obtain ⟨h3, h4⟩ := AtL.cons h2
  have el : p + s.length + 1 + t.length = p + (s ++ 124 :: t).length := by rw [List.length_append, List.length_cons]; omega
  refine h z p b hd h1 (Fr.at hL h3 (by decide)) (ne_some h3 (by decide)) r (.step h3 ⟨_, g.rd z (p + s.length + 1) b hd h4 (by rw [el]; exact hf) (by rw [el]; exact n1), rfl⟩ ?_)
  rw [el]; exact hr
theorem WhP.read {d : Nat} {s : List Nat} {x : TN} (h : WhP L d s x) (h12 : d ≤ 12) : WholeR L s (.ok x s.length) := by
  refine ⟨.ok x (0 + s.length), h.whole s 0 12 h12 AtL.self (Fr.none (List.getElem?_eq_none (by omega))) (by rw [List.getElem?_eq_none (by omega)]; exact fun z => nomatch z) (by rw [List.getElem?_eq_none (by omega)]; exact fun z => nomatch z), ?_⟩
  show _ = if 0 + s.length < s.length then _ else _
  rw [if_neg (by omega), Nat.zero_add]
/-! sizes and depths of terms -/
structure Tm (x : TN) (u : Nat) : Prop where
  c : x.1.canLay0 = true
  d : 2 * x.1.depth ≤ x.2 + u + 2
  p : 1 ≤ x.2
  n : NL x
theorem Tm.mono {x : TN} {u v : Nat} (h : Tm x u) (k : u ≤ v) : Tm x v := ⟨h.c, by have := h.d; omega, h.p, h.n⟩
theorem dep1 {a b : PyData} : (PyData.tuple [a, b]).depth = max a.depth b.depth + 1 := by
  show Nat.succ (max a.depth (max b.depth 0)) = _
  omega
theorem dep2 {a b c : PyData} : (PyData.tuple [a, b, c]).depth = max a.depth (max b.depth c.depth) + 1 := by
  show Nat.succ (max a.depth (max b.depth (max c.depth 0))) = _
  omega
theorem lay1 {a b : PyData} (h : a.canLay0 = true) (g : b.canLay0 = true) : (PyData.tuple [a, b]).canLay0 = true := by
  show (a.canLay0 && (b.canLay0 && true)) = true
  rw [h, g]; rfl
theorem lay2 {a b c : PyData} (h : a.canLay0 = true) (g : b.canLay0 = true) (k : c.canLay0 = true) : (PyData.tuple [a, b, c]).canLay0 = true := by
  show (a.canLay0 && (b.canLay0 && (c.canLay0 && true))) = true
  rw [h, g, k]; rfl
theorem Tm.over {k : Str} (hk : okS k) {x : TN} {u : Nat} (h : Tm x u) : Tm (over k x) (u + 1) := by
  refine ⟨lay1 hk h.c, ?_, by show 1 ≤ x.2 + 1; omega, h.n.over⟩
  have e : (AT.over k x).1.depth = x.1.depth + 1 := by
    show (PyData.tuple [.str k, x.1]).depth = _
    rw [dep1, show (PyData.str k).depth = 0 from rfl]; omega
  rw [e]
  have := h.d
  show _ ≤ x.2 + 1 + _ + 2
  omega
theorem Tm.over2 {k : Str} (hk : okS k) {x y : TN} {u : Nat} (h : Tm x u) (g : Tm y u) : Tm (over2 k x y) u := by
  refine ⟨lay2 hk h.c g.c, ?_, by show 1 ≤ x.2 + y.2 + 1; omega, h.n.over2 g.n⟩
  have e : (AT.over2 k x y).1.depth = max x.1.depth y.1.depth + 1 := by
    show (PyData.tuple [.str k, x.1, y.1]).depth = _
    rw [dep2, show (PyData.str k).depth = 0 from rfl]; omega
  rw [e]
  have := h.d
  have := g.d
  have := h.p
  have := g.p
  show _ ≤ x.2 + y.2 + 1 + _ + 2
  omega
theorem okj : okS (Str.ofString "join") := by unfold okS; decide +kernel
theorem oke : okS (Str.ofString "either") := by unfold okS; decide +kernel
theorem okb : okS (Str.ofString "both") := by unfold okS; decide +kernel
theorem okn : okS (Str.ofString "not") := by unfold okS; decide +kernel
theorem oks : okS (Str.ofString "star") := by unfold okS; decide +kernel
theorem Tm.emptyT {u : Nat} : Tm emptyT u := by
  refine ⟨by decide +kernel, ?_, Nat.le_refl _, NL.emptyT⟩
  show 2 * 1 ≤ 1 + u + 2
  omega
theorem Tm.oneOf {s : Str} (h : okS s) {u : Nat} : Tm (oneOf s) u := by
  unfold AT.oneOf
  split
  · refine ⟨by decide +kernel, ?_, Nat.le_refl _, rfl⟩
    show 2 * 1 ≤ 1 + u + 2
    omega
  · refine ⟨lay1 (by decide +kernel) h, ?_, Nat.le_refl _, rfl⟩
    show 2 * 1 ≤ 1 + u + 2
    omega
theorem Tm.iterJ {x : TN} {u : Nat} (h : Tm x u) : ∀ n, Tm (iterJ x n) u
  | 0 => h
  | n + 1 => (Tm.iterJ h n).over2 okj h
theorem Tm.iterE {x : TN} {u : Nat} (h : Tm x u) : ∀ n, Tm (iterE x n) u
  | 0 => Tm.emptyT.over2 oke h
  | n + 1 => Tm.emptyT.over2 oke (h.over2 okj (Tm.iterE h n))
theorem Tm.times {x : TN} {u : Nat} (h : Tm x u) : ∀ n, Tm (timesT x n) u
  | 0 => Tm.emptyT
  | n + 1 => h.iterJ n
theorem Tm.betw {x : TN} {u : Nat} (h : Tm x u) (l m : Nat) : Tm (betw x l m) u := by
  unfold AT.betw
  split
  · exact h.times l
  · split
    · exact h.iterE _
    · exact (h.times l).over2 okj (h.iterE _)
theorem size_iterE (x : TN) : ∀ n, (iterE x n).2 + 1 = (n + 1) * (x.2 + 3)
  | 0 => by show 1 + x.2 + 1 + 1 = _; omega
  | n + 1 => by
    have := size_iterE x n
    show 1 + (x.2 + (iterE x n).2 + 1) + 1 + 1 = _
    rw [Nat.succ_mul, ← this]; omega
end
section
/-- a pattern, as terms of terms -/
inductive Pt
  | nul (k : Str)
  | one (s : Str)
  | un (k : Str) (a : Pt)
  | bi (k : Str) (a b : Pt)
def Pt.kind : Pt → Str
  | .nul k => k
  | .one _ => "one"
  | .un k _ => k
  | .bi k _ _ => k
def Pt.parts : Pt → List Pt
  | .nul _ => []
  | .one _ => []
  | .un _ a => [a]
  | .bi _ a b => [a, b]
def Pt.ok : Pt → Prop
  | .nul k => k = "none" ∨ k = "empty"
  | .one s => s.length ≤ 100
  | .un k a => (k = "not" ∨ k = "star") ∧ a.ok
  | .bi k a b => (k = "join" ∨ k = "either" ∨ k = "both") ∧ a.ok ∧ b.ok
def Pt.size : Pt → Nat
  | .nul _ => 1
  | .one _ => 1
  | .un _ a => a.size + 1
  | .bi _ a b => a.size + b.size + 1
def Pt.D : Pt → PyData
  | .nul k => .tuple [.str k]
  | .one s => .tuple [.str "one", .str s]
  | .un k a => .tuple [.str k, a.D]
  | .bi k a b => .tuple [.str k, a.D, b.D]
def PtV (H : Hp) : Pt → V → Prop
  | .nul k, v => ∃ a, v = .ref a ∧ H a = some (.tup [.str k])
  | .one s, v => ∃ a, v = .ref a ∧ H a = some (.tup [.str "one", .str s])
  | .un k t, v => ∃ a u, v = .ref a ∧ H a = some (.tup [.str k, u]) ∧ PtV H t u
  | .bi k t r, v => ∃ a u x, v = .ref a ∧ H a = some (.tup [.str k, u, x]) ∧ PtV H t u ∧ PtV H r x
def PtL (H : Hp) : List Pt → List V → Prop
  | [], [] => True
  | t :: ts, v :: vs => PtV H t v ∧ PtL H ts vs
  | _, _ => False
/-- the tuples stay -/
def KT (H H' : Hp) : Prop := ∀ b xs, H b = some (.tup xs) → H' b = some (.tup xs)
theorem KT.refl (H : Hp) : KT H H := fun _ _ h => h
theorem KT.trans {H H1 H2 : Hp} (a : KT H H1) (b : KT H1 H2) : KT H H2 := fun x o h => b x o (a x o h)
theorem KT.ex {H H' : Hp} (e : Ex H H') : KT H H' := fun b xs h => e b _ h
theorem KT.put {H : Hp} {p : Addr} {o : HO} (h : ∀ xs, H p ≠ some (.tup xs)) : KT H (upd H p o) := fun b xs e => by
  by_cases z : b = p
  · subst z
    exact absurd e (h xs)
  · rw [upd_ne z]
    exact e
theorem KT.putL {H : Hp} {p : Addr} {o : HO} {ys : List V} (h : H p = some (.lst ys)) : KT H (upd H p o) := .put fun xs e => by rw [h] at e; cases e
theorem KT.new {H : Hp} {p : Addr} {o : HO} (h : H p = none) : KT H (upd H p o) := .put fun xs e => by rw [h] at e; cases e
theorem PtV.kt {H H' : Hp} (e : KT H H') : ∀ (t : Pt) {v : V}, PtV H t v → PtV H' t v
  | .nul _, _, ⟨a, h1, h2⟩ => ⟨a, h1, e _ _ h2⟩
  | .one _, _, ⟨a, h1, h2⟩ => ⟨a, h1, e _ _ h2⟩
  | .un _ t, _, ⟨a, u, h1, h2, h3⟩ => ⟨a, u, h1, e _ _ h2, PtV.kt e t h3⟩
  | .bi _ t r, _, ⟨a, u, x, h1, h2, h3, h4⟩ => ⟨a, u, x, h1, e _ _ h2, PtV.kt e t h3, PtV.kt e r h4⟩
theorem PtL.kt {H H' : Hp} (e : KT H H') : ∀ {ts : List Pt} {vs : List V}, PtL H ts vs → PtL H' ts vs
  | [], [], _ => True.intro
  | _ :: _, _ :: _, ⟨h1, h2⟩ => ⟨PtV.kt e _ h1, PtL.kt e h2⟩
  | [], _ :: _, h => h
  | _ :: _, [], h => h
theorem PtV.dp {K : PySem.W.Frag} {H : Hp} : ∀ (t : Pt) {v : V}, PtV H t v → Dp K H v t.D
  | .nul _, _, ⟨a, h1, h2⟩ => h1 ▸ .tup (Evl.st_of h2) (.cons (.str _) .nil)
  | .one _, _, ⟨a, h1, h2⟩ => h1 ▸ .tup (Evl.st_of h2) (.cons (.str _) (.cons (.str _) .nil))
  | .un _ t, _, ⟨a, u, h1, h2, h3⟩ => h1 ▸ .tup (Evl.st_of h2) (.cons (.str _) (.cons (PtV.dp t h3) .nil))
  | .bi _ t r, _, ⟨a, u, x, h1, h2, h3, h4⟩ => h1 ▸ .tup (Evl.st_of h2) (.cons (.str _) (.cons (PtV.dp t h3) (.cons (PtV.dp r h4) .nil)))
theorem PtL.length {H : Hp} : ∀ {ts : List Pt} {vs : List V}, PtL H ts vs → ts.length = vs.length
  | [], [], _ => rfl
  | _ :: _, _ :: _, ⟨_, h⟩ => congrArg (· + 1) h.length
  | [], _ :: _, h => h.elim
  | _ :: _, [], h => h.elim
theorem PtL.app {H : Hp} : ∀ {ts us : List Pt} {vs ws : List V}, PtL H ts vs → PtL H us ws → PtL H (ts ++ us) (vs ++ ws)
  | [], _, [], _, _, g => g
  | _ :: _, _, _ :: _, _, ⟨h1, h2⟩, g => ⟨h1, PtL.app h2 g⟩
  | [], _, _ :: _, _, h, _ => h.elim
  | _ :: _, _, [], _, h, _ => h.elim
theorem PtL.snoc {H : Hp} {ts : List Pt} {t : Pt} : ∀ {vs : List V}, PtL H (ts ++ [t]) vs → ∃ ws v, vs = ws ++ [v] ∧ PtL H ts ws ∧ PtV H t v := by
  induction ts with
  | nil =>
    intro vs h
    match vs, h with
    | [v], h => exact ⟨[], v, rfl, True.intro, h.1⟩
    | [], h => exact h.elim
    | _ :: _ :: _, h => exact h.2.elim
  | cons t' ts ih =>
    intro vs h
    match vs, h with
    | [], h => exact h.elim
    | v' :: vs, h =>
      obtain ⟨ws, v, rfl, h1, h2⟩ := ih h.2
      exact ⟨v' :: ws, v, rfl, ⟨h.1, h1⟩, h2⟩
def sizes (ts : List Pt) : Nat := (ts.map Pt.size).sum
theorem sizes_app {ts us : List Pt} : sizes (ts ++ us) = sizes ts + sizes us := by unfold sizes; rw [List.map_append, List.sum_append]
theorem Pt.size_pos : ∀ t : Pt, 0 < t.size
  | .nul _ => Nat.one_pos
  | .one _ => Nat.one_pos
  | .un _ _ => Nat.succ_pos _
  | .bi _ _ _ => Nat.succ_pos _
theorem Pt.size_parts : ∀ t : Pt, t.size = sizes t.parts + 1
  | .nul _ => rfl
  | .one _ => rfl
  | .un _ _ => rfl
  | .bi _ _ _ => by show _ = _ + (_ + 0) + 1; rfl
theorem Pt.ok_parts : ∀ {t : Pt}, t.ok → ∀ p ∈ t.parts, p.ok
  | .nul _, _, p, hp => by cases hp
  | .one _, _, p, hp => by cases hp
  | .un _ a, h, p, hp => by rw [List.mem_singleton.mp hp]; exact h.2
  | .bi _ a b, h, p, hp => by
    rcases List.mem_cons.mp hp with e | hp
    · rw [e]; exact h.2.1
    · rw [List.mem_singleton.mp hp]; exact h.2.2
theorem sizes_len : ∀ ts : List Pt, ts.length ≤ sizes ts
  | [] => Nat.le_refl _
  | t :: ts => by
    have h := sizes_len ts
    have h2 := t.size_pos
    show ts.length + 1 ≤ t.size + sizes ts
    omega
/-- a term begins with its kind, its parts come next -/
theorem PtV.at {H : Hp} : ∀ {t : Pt} {v : V}, PtV H t v → ∃ a us, v = .ref a ∧ H a = some (.tup (.str t.kind :: us)) ∧ (t.parts ≠ [] → PtL H t.parts us)
  | .nul _, _, ⟨a, h1, h2⟩ => ⟨a, _, h1, h2, fun h => absurd rfl h⟩
  | .one _, _, ⟨a, h1, h2⟩ => ⟨a, _, h1, h2, fun h => absurd rfl h⟩
  | .un _ t, _, ⟨a, u, h1, h2, h3⟩ => ⟨a, _, h1, h2, fun _ => ⟨h3, True.intro⟩⟩
  | .bi _ t r, _, ⟨a, u, x, h1, h2, h3, h4⟩ => ⟨a, _, h1, h2, fun _ => ⟨h3, h4, True.intro⟩⟩
def Pt.leaf (t : Pt) : Bool := t.parts.isEmpty
theorem Pt.leaf_in : ∀ {t : Pt}, t.ok → inV (.str t.kind) (["none", "empty", "one"].map fun s : String => V.str s) = t.leaf
  | .nul k, h => by rcases h with h | h <;> (show inV (.str k) _ = true; rw [h]; decide +kernel)
  | .one _, _ => by show inV (.str "one") _ = true; decide +kernel
  | .un k _, h => by rcases h.1 with h | h <;> (show inV (.str k) _ = false; rw [h]; decide +kernel)
  | .bi k _ _, h => by rcases h.1 with h | h | h <;> (show inV (.str k) _ = false; rw [h]; decide +kernel)
end
section
variable (T : Txt K mg)
theorem rd_inDt {a : Addr} {x : Str} {ys : List Str} {b : Bool} {H : Hp} {Q : VK} (h : Dp K H (.ref a) (.tuple (ys.map PyData.str))) (hb : inV (.str x) (ys.map V.str) = b) (q : Q (.bl b) H) : oIn K (.str x) (.ref a) H Q := by
  obtain ⟨a', vs, e, hs, hd⟩ := Dp.tupv h
  cases e
  have hv : vs = ys.map V.str := by
    clear h hb q hs
    induction ys generalizing vs with
    | nil => cases hd; rfl
    | cons y ys ih =>
      cases hd with
      | cons h1 h2 => rw [Dp.str_iff h1, ih _ h2]; rfl
  subst hv
  refine .inr ⟨a, ys.map V.str, rfl, .inr hs, rfl, ?_, ?_⟩
  · rw [List.all_eq_true]
    intro v hv
    obtain ⟨x, _, rfl⟩ := List.mem_map.mp hv
    rfl
  · rw [if_neg (by decide), hb]
    exact q
theorem cut1 {x : V} {l : List V} : cutV (x :: l) (some 1) none = l := by
  show List.take (HT.sIx (x :: l).length (x :: l).length none - HT.sIx (x :: l).length 0 (some 1)) (List.drop (HT.sIx (x :: l).length 0 (some 1)) (x :: l)) = _
  have : HT.sIx (x :: l).length 0 (some 1) = 1 := by
    have := HT.sIx_nat (x :: l).length 0 1
    refine this.trans ?_
    rw [List.length_cons]; omega
  rw [this, HT.sIx_none, List.drop_succ_cons, List.drop_zero, List.length_cons, Nat.add_sub_cancel, List.take_length]
theorem rd_bm0 {K : PySem.W.Frag} {T : String} {r : V → List V → Hp → VK → Prop} {to : TE} {σ : L2.St} {H : Hp} {Q : VK} (h : to σ H fun x H1 => tyV K T x H1 ∧ r x [] H1 Q) : tBM0 K T r to σ H Q := h
def spParts : Sp := fun vs H Q _ => ∃ (t : Pt) (v : V), vs = [v] ∧ t.ok ∧ PtV H t v ∧ ∀ a us H', Ex H H' → H' a = some (.tup us) → PtL H' t.parts us → Q (.ref a) H'
theorem ok_parts_of : FnOk P w K mg base CX0 1 T.a_parts_of T.d_parts_of ["term"] spParts := by
  refine T.f_parts_of.ok sc_parts_of (fun vs H Q E h => ?_) (fun cdv A outer s H vs Q E hr h => ?_)
  · obtain ⟨_, _, rfl, _⟩ := h; rfl
  · obtain ⟨t, v, rfl, hk, hv, q⟩ := h
    obtain ⟨a, us, rfl, h1, h2⟩ := hv.at
    refine ⟨_, (pss_cons (ps_if (pt_cmpR (kIn K) (pe_ix (kIx K) (pv 0) pe_int (fun _ _ => rfl)) (pe_globR (by rfl) T.c_LEAVES) (by first | rfl | exact nomark _))
    (pss_one (ps_ret (pe_tup pa_nil)))
    pss_nil)
  (pss_one (ps_ret (pe_slice (kSl K) (pv 0) (po_some pe_int) po_none)))), ?_⟩
    walk_at "rc"
    walk_at "rs"
    walk_at "rc"
    refine rd_ixT (SqT.of h1) (atI_nat (j := 0) rfl) ?_
    walk_at "rc"
    refine rd_inDt (b := t.leaf) (ys := ["none", "empty", "one"].map fun s : String => (s : Str)) (T.v_LEAVES H) (by rw [List.map_map]; exact t.leaf_in hk) ?_
    walk_at "rc"
    cases hl : t.leaf with
    | true =>
      refine rd_iteT ?_
      walk_at "rc"
      refine ⟨Nat.zero_le _, fun p hp => ?_⟩
      walk_at "rc"
      have hz : t.parts = [] := List.isEmpty_iff.mp hl
      exact q p [] _ (Evl.Ex.new hp) upd_same (by rw [hz]; exact True.intro)
    | false =>
      refine rd_iteF ?_
      walk_at "rc"
      have hz : t.parts ≠ [] := fun e => by unfold Pt.leaf at hl; rw [e] at hl; cases hl
      refine .inr (.inr ⟨a, _, rfl, SqT.of h1, fun hw => ?_, fun _ p hp => ?_⟩)
      · have e1 := hw.1
        have e2 := HT.sIx_nat (.str t.kind :: us).length 0 1
        simp only [List.length_cons] at e1 e2
        have e3 : min 1 (us.length + 1) = 0 := e2.symm.trans e1
        omega
      · rw [cut1]
        exact q p us _ (Evl.Ex.new hp) upd_same (PtL.kt (.new hp) (h2 hz))
/-- a walk over terms, counted -/
def spSize : Sp := fun vs H Q _ => ∃ (t : Pt) (v : V), vs = [v] ∧ t.ok ∧ PtV H t v ∧ t.size ≤ 10000 ∧ ∀ H', Ex H H' → Q (.int (t.size : Int)) H'
theorem ok_size : FnOk P w K mg base CX0 2 T.a_size T.d_size ["pattern"] spSize := by
  refine T.f_size.ok sc_size (fun vs H Q E h => ?_) (fun cdv A outer s H vs Q E hr h => ?_)
  · obtain ⟨_, _, rfl, _⟩ := h; rfl
  · obtain ⟨t, v, rfl, hk, hv, hs, q⟩ := h
    have sz : 10000 ≤ sizeLine := by decide
    refine ⟨_, (pss_cons (ps_set (i := 1) sc_size.nd rfl (by first | exact Or.inl rfl | exact Or.inr rfl) pe_int)
  (pss_cons (ps_set (i := 2) sc_size.nd rfl (by first | exact Or.inl rfl | exact Or.inr rfl) (pe_lst (pa_cons (pv 0) pa_nil)))
  (pss_cons (ps_while PassesOwn.never (pt_truth (pv 2) (by intro _; rfl))
    (pss_cons (ps_set (i := 3) sc_size.nd rfl (by first | exact Or.inl rfl | exact Or.inr rfl) (kBm0 K rfl (pe_bm0 PySem.F.plainAttrs_list PySem.F.slot_list_pop PySem.F.type_list_pop mt_pop (pv 2))))
  (pss_cons (ps_aug (i := 1) sc_size.nd rfl (by first | exact Or.inl rfl | exact Or.inr rfl) pe_int ip_add)
  (pss_one (ps_expr (kBm K rfl (pe_bm PySem.F.plainAttrs_list PySem.F.slot_list_extend PySem.F.type_list_extend (mt_extendT K rfl) (pv 2) (pa_cons (pe_callE (ok_parts_of T) (hr.mono (by decide)) T.o_parts_of (pa_cons (pv 3) pa_nil)) pa_nil))))))))
  (pss_one (ps_ret (pv 1)))))), ?_⟩
    walk_at "rc"
    refine ⟨by show 1 ≤ sizeLine; decide, fun l hl => ?_⟩
    walk_at "rc"
    walk_at "rs"
    refine rd_wh (fun mm σ H' => ∃ (n : Nat) (ts : List Pt) (us : List V) (k3 : Option V), σ = [some v, some (.int (n : Int)), some (.ref l), k3] ∧ Ex H H' ∧ H' l = some (.lst us) ∧ PtL H' ts us ∧ (∀ p ∈ ts, p.ok) ∧ n + sizes ts = t.size ∧ mm = sizes ts)
      _ ⟨0, [t], [v], _, rfl, Evl.Ex.new hl, upd_same, ⟨PtV.kt (.new hl) t hv, True.intro⟩, fun p hp => by rw [List.mem_singleton.mp hp]; exact hk, by show 0 + (t.size + 0) = _; omega, rfl⟩ ?_
    rintro mm σ H1 ⟨n, ts, us, k3, rfl, e1, h1, hp, hok, hn, rfl⟩
    walk_at "rc"
    refine ⟨!us.isEmpty, .inl ⟨_, SqL.of h1, rfl⟩, ?_⟩
    rcases List.eq_nil_or_concat ts with rfl | ⟨ts, t1, rfl⟩
    · have e : us = [] := by
        have := hp.length
        exact List.length_eq_zero_iff.mp this.symm
      subst e
      refine rd_iteF ?_
      walk_at "rc"
      have e : n = t.size := hn
      subst e
      exact q H1 e1
    · rw [List.concat_eq_append] at hp hok hn
      obtain ⟨us, v1, rfl, hp1, hv1⟩ := hp.snoc
      have h5 : (!(us ++ [v1]).isEmpty) = true := by simp
      rw [h5]
      refine rd_iteT ?_
      refine ⟨_, fun σ2 H2 z => z, ?_⟩
      rw [sizes_app] at hn
      have hn1 : sizes [t1] = t1.size := Nat.add_zero _
      have hps := t1.size_parts
      walk_at "rc"
      refine rd_bm0 ?_
      walk_at "rc"
      refine ⟨.inl ⟨rfl, _, SqL.of h1⟩, ?_⟩
      have hlast : (us ++ [v1])[(us ++ [v1]).length - 1]? = some v1 := by rw [List.length_append, List.length_singleton, Nat.add_sub_cancel, List.getElem?_append_right (Nat.le_refl _), Nat.sub_self]; rfl
      refine ⟨l, _, v1, rfl, rfl, h1, hlast, ?_⟩
      rw [List.dropLast_concat]
      have k1 : KT H1 (upd H1 l (.lst us)) := .putL h1
      walk_at "rc"
      refine rd_aug rfl ?_
      walk_at "rc"
      refine ⟨_, _, rfl, rfl, ?_⟩
      walk_at "rc"
      refine ⟨.inl ⟨rfl, _, SqL.of upd_same⟩, ?_⟩
      walk_at "rc"
      refine ⟨t1, v1, rfl, hok _ (by simp), PtV.kt k1 t1 hv1, fun a ws H2 ex ha hpa => ?_⟩
      walk_at "rc"
      have h2 : H2 l = some (.lst us) := ex l _ upd_same
      have k2 : KT H1 (upd H2 l (.lst (us ++ ws))) := (k1.trans (.ex ex)).trans (.putL h2)
      have b1 := sizes_len ts
      have b2 := sizes_len t1.parts
      have b3 := hp1.length
      have b4 := hpa.length
      refine ⟨l, a, us, ws, rfl, rfl, h2, SqT.of ha, by omega, ?_⟩
      walk_at "rc"
      refine ⟨sizes (ts ++ t1.parts), ?_, n + 1, ts ++ t1.parts, us ++ ws, _, rfl, (Evl.Ex.trans (e1.mut hl) ex).mut hl, upd_same, (PtL.kt k2 hp1).app (PtL.kt (.putL h2) hpa), fun p hp => ?_, ?_, rfl⟩
      · rw [List.concat_eq_append, sizes_app, sizes_app]
        omega
      · rcases List.mem_append.mp hp with h | h
        · exact hok _ (List.mem_append_left _ h)
        · exact Pt.ok_parts (hok _ (by simp)) _ h
      · rw [sizes_app]
        omega
end
section
/-- a term, its parts as numbers -/
inductive Fl
  | nul (k : Str)
  | one (s : Str)
  | un (k : Str) (n : Nat)
  | bi (k : Str) (n m : Nat)
def Fl.vs : Fl → List V
  | .nul k => [.str k]
  | .one s => [.str "one", .str s]
  | .un k n => [.str k, .int (n : Int)]
  | .bi k n m => [.str k, .int (n : Int), .int (m : Int)]
def Fl.ks : Fl → List NestedKey
  | .nul k => [.text k]
  | .one s => [.text "one", .text s]
  | .un k n => [.text k, .num (n : Int)]
  | .bi k n m => [.text k, .num (n : Int), .num (m : Int)]
def Fl.key (f : Fl) : NestedKey := .tup f.ks
theorem Fl.nvs {H : Hp} : ∀ f : Fl, NVs H f.ks f.vs
  | .nul _ => .cons (.str _) .nil
  | .one _ => .cons (.str _) (.cons (.str _) .nil)
  | .un _ _ => .cons (.str _) (.cons (.int _) .nil)
  | .bi _ _ _ => .cons (.str _) (.cons (.int _) (.cons (.int _) .nil))
theorem Fl.kyn {H : Hp} {a : Addr} {f : Fl} (h : H a = some (.tup f.vs)) : KyN H f.key (.ref a) := ⟨.tup h f.nvs, by cases f <;> simp [Fl.key, Fl.ks, NestedKey.depth, NestedKey.depthAll], fun x z => by cases z⟩
theorem Fl.inj {f g : Fl} (h : f.key = g.key) : f = g := by
  have h2 : f.ks = g.ks := by
    unfold Fl.key at h
    injection h
  cases f <;> cases g <;> simp only [Fl.ks, List.cons.injEq, NestedKey.text.injEq, NestedKey.num.injEq, and_true, reduceCtorEq, and_false, false_and] at h2
  · rw [h2]
  · rw [h2.2]
  · obtain ⟨h1, h3⟩ := h2
    rw [h1, Int.ofNat.inj h3]
  · obtain ⟨h1, h3, h4⟩ := h2
    rw [h1, Int.ofNat.inj h3, Int.ofNat.inj h4]
def FlOf (E : List Pt) : Pt → Fl → Prop
  | .nul k, .nul k' => k = k'
  | .one s, .one s' => s = s'
  | .un k a, .un k' n => k = k' ∧ E[n]? = some a
  | .bi k a b, .bi k' n m => k = k' ∧ E[n]? = some a ∧ E[m]? = some b
  | _, _ => False
theorem FlOf.mono {E E' : List Pt} (e : ∀ (i : Nat) x, E[i]? = some x → E'[i]? = some x) : ∀ {t : Pt} {f : Fl}, FlOf E t f → FlOf E' t f
  | .nul _, .nul _, h => h
  | .one _, .one _, h => h
  | .un _ _, .un _ _, h => ⟨h.1, e _ _ h.2⟩
  | .bi _ _ _, .bi _ _ _, h => ⟨h.1, e _ _ h.2.1, e _ _ h.2.2⟩
theorem FlOf.inj {E : List Pt} : ∀ {t t' : Pt} {f : Fl}, FlOf E t f → FlOf E t' f → t = t'
  | .nul _, .nul _, .nul _, h, g => by rw [show _ = _ from h, show _ = _ from g]
  | .one _, .one _, .one _, h, g => by rw [show _ = _ from h, show _ = _ from g]
  | .un _ _, .un _ _, .un _ _, h, g => by
    have e := h.2.symm.trans g.2
    cases e
    rw [h.1, g.1]
  | .bi _ _ _, .bi _ _ _, .bi _ _ _, h, g => by
    have e := h.2.1.symm.trans g.2.1
    have e' := h.2.2.symm.trans g.2.2
    cases e
    cases e'
    rw [h.1, g.1]
structure Tab (E : List Pt) (F : List Fl) : Prop where
  n : E.length = F.length
  fl : ∀ (i : Nat) t f, E[i]? = some t → F[i]? = some f → FlOf (E.take i) t f
theorem take_at {α : Type} {E : List α} {i j : Nat} {x : α} (h : (E.take i)[j]? = some x) : E[j]? = some x := by
  rw [List.getElem?_take] at h
  split at h
  · exact h
  · cases h
theorem Tab.nil : Tab [] [] := ⟨rfl, fun i t f h => by simp at h⟩
theorem Tab.snoc {E : List Pt} {F : List Fl} {t : Pt} {f : Fl} (h : Tab E F) (g : FlOf E t f) : Tab (E ++ [t]) (F ++ [f]) := by
  refine ⟨by rw [List.length_append, List.length_append, h.n]; rfl, fun i t' f' e1 e2 => ?_⟩
  rcases Nat.lt_trichotomy i E.length with hi | hi | hi
  · rw [List.getElem?_append_left hi] at e1
    rw [List.getElem?_append_left (by rw [← h.n]; exact hi)] at e2
    rw [List.take_append_of_le_length (Nat.le_of_lt hi)]
    exact h.fl i t' f' e1 e2
  · subst hi
    rw [List.getElem?_append_right (Nat.le_refl _), Nat.sub_self] at e1
    rw [List.getElem?_append_right (by rw [h.n]; exact Nat.le_refl _), h.n, Nat.sub_self] at e2
    cases e1
    cases e2
    rw [List.take_left]
    exact g
  · rw [List.getElem?_eq_none (by rw [List.length_append, List.length_singleton]; omega)] at e1
    cases e1
/-- the dict of numbers -/
def KvF (H : Hp) : List Fl → KA → Nat → Prop
  | [], [], _ => True
  | f :: fs, kv :: kvs, i => (kv.1 = f.key ∧ kv.2.2 = .int (i : Int) ∧ ∃ a, kv.2.1 = .ref a ∧ H a = some (.tup f.vs)) ∧ KvF H fs kvs (i + 1)
  | _, _, _ => False
theorem KvF.kt {H H' : Hp} (e : KT H H') : ∀ {F : List Fl} {kvs : KA} {i : Nat}, KvF H F kvs i → KvF H' F kvs i
  | [], [], _, h => h
  | _ :: _, _ :: _, _, ⟨⟨h1, h2, a, h3, h4⟩, h5⟩ => ⟨⟨h1, h2, a, h3, e _ _ h4⟩, KvF.kt e h5⟩
  | [], _ :: _, _, h => h
  | _ :: _, [], _, h => h
theorem KvF.length {H : Hp} : ∀ {F : List Fl} {kvs : KA} {i : Nat}, KvF H F kvs i → F.length = kvs.length
  | [], [], _, _ => rfl
  | _ :: _, _ :: _, _, h => congrArg (· + 1) h.2.length
  | [], _ :: _, _, h => h.elim
  | _ :: _, [], _, h => h.elim
theorem KvF.ks {H : Hp} : ∀ {F : List Fl} {kvs : KA} {i : Nat}, KvF H F kvs i → KsN H kvs
  | [], [], _, _ => fun p hp => nomatch hp
  | f :: _, (k, v, x) :: _, _, ⟨⟨h1, _, a, h3, h4⟩, h5⟩ => fun p hp => by
    rcases List.mem_cons.mp hp with e | hp
    · rw [e]
      cases h1
      cases h3
      exact Fl.kyn h4
    · exact KvF.ks h5 p hp
  | [], _ :: _, _, h => h.elim
  | _ :: _, [], _, h => h.elim
theorem KvF.val {H : Hp} {f : Fl} {v : V} : ∀ {F : List Fl} {kvs : KA} {i : Nat}, KvF H F kvs i → valN kvs f.key = some v → ∃ j, F[j]? = some f ∧ v = .int ((i + j : Nat) : Int)
  | [], [], _, _, e => by cases e
  | f' :: F, (k, v', x) :: kvs, i, ⟨⟨h1, h2, _⟩, h5⟩, e => by
    unfold valN at e
    split at e
    · next z =>
      have z2 : f'.key = f.key := h1.symm.trans z
      exact ⟨0, by rw [Fl.inj z2]; rfl, by cases h2; exact (Option.some.inj e).symm⟩
    · obtain ⟨j, a, b⟩ := KvF.val h5 e
      exact ⟨j + 1, a, by rw [b]; congr 2; omega⟩
  | [], _ :: _, _, h, _ => h.elim
  | _ :: _, [], _, h, _ => h.elim
theorem KvF.snoc {H : Hp} {f : Fl} {a : Addr} (hf : H a = some (.tup f.vs)) : ∀ {F : List Fl} {kvs : KA} {i n : Nat}, KvF H F kvs i → n = i + kvs.length → KvF H (F ++ [f]) (kvs ++ [(f.key, .ref a, .int (n : Int))]) i
  | [], [], i, _, _, e => by subst e; exact ⟨⟨rfl, rfl, a, rfl, hf⟩, True.intro⟩
  | _ :: _, _ :: _, i, _, h, e => ⟨h.1, KvF.snoc hf h.2 (by rw [e, List.length_cons]; omega)⟩
  | [], _ :: _, _, _, h, _ => h.elim
  | _ :: _, [], _, _, h, _ => h.elim
/-- the terms of the dict, listed -/
def FlL (H : Hp) : List Fl → List V → Prop
  | [], [] => True
  | f :: fs, v :: vs => (∃ a, v = .ref a ∧ H a = some (.tup f.vs)) ∧ FlL H fs vs
  | _, _ => False
theorem KvF.fl {H : Hp} : ∀ {F : List Fl} {kvs : KA} {i : Nat}, KvF H F kvs i → FlL H F (kvs.map fun kv => kv.2.1)
  | [], [], _, _ => True.intro
  | _ :: _, _ :: _, _, h => ⟨h.1.2.2, KvF.fl h.2⟩
  | [], _ :: _, _, h => h.elim
  | _ :: _, [], _, h => h.elim
theorem FlL.kt {H H' : Hp} (e : KT H H') : ∀ {F : List Fl} {vs : List V}, FlL H F vs → FlL H' F vs
  | [], [], h => h
  | _ :: _, _ :: _, ⟨⟨a, h3, h4⟩, h5⟩ => ⟨⟨a, h3, e _ _ h4⟩, FlL.kt e h5⟩
  | [], _ :: _, h => h
  | _ :: _, [], h => h
theorem FlL.length {H : Hp} : ∀ {F : List Fl} {vs : List V}, FlL H F vs → F.length = vs.length
  | [], [], _ => rfl
  | _ :: _, _ :: _, h => congrArg (· + 1) h.2.length
  | [], _ :: _, h => h.elim
  | _ :: _, [], h => h.elim
theorem FlL.at {H : Hp} : ∀ {F : List Fl} {vs : List V} {i : Nat} {f : Fl}, FlL H F vs → F[i]? = some f → ∃ a, vs[i]? = some (.ref a) ∧ H a = some (.tup f.vs)
  | _ :: _, _ :: _, 0, f, h, e => by
    cases e
    obtain ⟨⟨a, h1, h2⟩, _⟩ := h
    exact ⟨a, by rw [h1]; rfl, h2⟩
  | _ :: F, _ :: vs, i + 1, f, h, e => FlL.at (F := F) (vs := vs) h.2 e
  | [], [], _, _, _, e => by cases e
  | [], _ :: _, _, _, h, _ => h.elim
  | _ :: _, [], _, _, h, _ => h.elim
/-- the numbers of the terms that are done -/
def DnE (E : List Pt) : List Nat → List Pt → Prop
  | [], [] => True
  | n :: ns, t :: ts => E[n]? = some t ∧ DnE E ns ts
  | _, _ => False
theorem DnE.mono {E E' : List Pt} (e : ∀ (i : Nat) x, E[i]? = some x → E'[i]? = some x) : ∀ {ds : List Nat} {es : List Pt}, DnE E ds es → DnE E' ds es
  | [], [], h => h
  | _ :: _, _ :: _, h => ⟨e _ _ h.1, DnE.mono e h.2⟩
  | [], _ :: _, h => h
  | _ :: _, [], h => h
theorem DnE.length {E : List Pt} : ∀ {ds : List Nat} {es : List Pt}, DnE E ds es → ds.length = es.length
  | [], [], _ => rfl
  | _ :: _, _ :: _, h => congrArg (· + 1) h.2.length
  | [], _ :: _, h => h.elim
  | _ :: _, [], h => h.elim
theorem DnE.app {E : List Pt} {t : Pt} {n : Nat} (g : E[n]? = some t) : ∀ {ds : List Nat} {es : List Pt}, DnE E ds es → DnE E (ds ++ [n]) (es ++ [t])
  | [], [], _ => ⟨g, True.intro⟩
  | _ :: _, _ :: _, h => ⟨h.1, DnE.app g h.2⟩
  | [], _ :: _, h => h.elim
  | _ :: _, [], h => h.elim
theorem DnE.split {E : List Pt} {ps : List Pt} : ∀ {es : List Pt} {ds : List Nat}, DnE E ds (es ++ ps) → ∃ d1 d2, ds = d1 ++ d2 ∧ DnE E d1 es ∧ DnE E d2 ps
  | [], ds, h => ⟨[], ds, rfl, True.intro, h⟩
  | _ :: _, d :: ds, h => by
    obtain ⟨d1, d2, e, a, b⟩ := DnE.split h.2
    exact ⟨d :: d1, d2, by rw [e]; rfl, ⟨h.1, a⟩, b⟩
  | _ :: _, [], h => h.elim
/-- what waits, topmost first: it makes p of what is done -/
inductive Good (p : Pt) : List (Pt × Bool) → List Pt → Prop
  | fin : Good p [] [p]
  | new {t : Pt} {ws : List (Pt × Bool)} {es : List Pt} : Good p ws (es ++ [t]) → Good p ((t, false) :: ws) es
  | old {t : Pt} {ws : List (Pt × Bool)} {es : List Pt} : Good p ws (es ++ [t]) → Good p ((t, true) :: ws) (es ++ t.parts)
def asNew (ps : List Pt) : List (Pt × Bool) := ps.map fun t => (t, false)
theorem Good.news {p : Pt} {ws : List (Pt × Bool)} : ∀ {ps es : List Pt}, Good p ws (es ++ ps) → Good p (asNew ps ++ ws) es
  | [], es, h => by rw [List.append_nil] at h; exact h
  | t :: ps, es, h => .new (Good.news (ps := ps) (es := es ++ [t]) (by rw [List.append_assoc]; exact h))
theorem Good.open {p t : Pt} {ws : List (Pt × Bool)} {es : List Pt} (h : Good p ((t, false) :: ws) es) : Good p (asNew t.parts ++ (t, true) :: ws) es := by
  cases h with
  | new h => exact .news (.old h)
theorem Good.done {p t : Pt} {b : Bool} {ws : List (Pt × Bool)} {es : List Pt} (h : Good p ((t, b) :: ws) es) (hb : b = false → t.parts = []) : ∃ es0, es = es0 ++ t.parts ∧ Good p ws (es0 ++ [t]) := by
  cases h with
  | new h => exact ⟨es, by rw [hb rfl, List.append_nil], h⟩
  | old h => exact ⟨_, rfl, h⟩
def wt1 (x : Pt × Bool) : Nat := if x.2 then 1 else 2 * x.1.size
def wt (ws : List (Pt × Bool)) : Nat := (ws.map wt1).sum
theorem wt_cons {x : Pt × Bool} {ws : List (Pt × Bool)} : wt (x :: ws) = wt1 x + wt ws := rfl
theorem wt_app {ws us : List (Pt × Bool)} : wt (ws ++ us) = wt ws + wt us := by unfold wt; rw [List.map_append, List.sum_append]
theorem wt_new : ∀ ps : List Pt, wt (asNew ps) = 2 * sizes ps
  | [] => rfl
  | t :: ps => by
    have h := wt_new ps
    show 2 * t.size + wt (asNew ps) = 2 * (t.size + sizes ps)
    omega
theorem wt_open {t : Pt} {ws : List (Pt × Bool)} : wt (asNew t.parts ++ (t, true) :: ws) + 1 = wt ((t, false) :: ws) := by
  have h := t.size_parts
  rw [wt_app, wt_new, wt_cons, wt_cons]
  show 2 * sizes t.parts + (1 + wt ws) + 1 = 2 * t.size + wt ws
  omega
theorem wt1_pos {x : Pt × Bool} : 0 < wt1 x := by
  have := x.1.size_pos
  unfold wt1
  split <;> omega
theorem wt_len : ∀ ws : List (Pt × Bool), ws.length ≤ wt ws
  | [] => Nat.le_refl _
  | x :: ws => by
    have h := wt_len ws
    have h2 := wt1_pos (x := x)
    rw [wt_cons, List.length_cons]
    omega
/-- p waits lowest, all that is numbered is smaller; or it is the last that was numbered -/
def Bot (p : Pt) (E : List Pt) (ws : List (Pt × Bool)) : Prop := (ws = [] ∧ E.getLast? = some p ∧ ∀ x ∈ E, x.size ≤ p.size) ∨ ∃ ws' b, ws = ws' ++ [(p, b)] ∧ (∀ x ∈ ws', x.1.size < p.size) ∧ ∀ t ∈ E, t.size < p.size
theorem size_mem : ∀ {ps : List Pt} {t : Pt}, t ∈ ps → t.size ≤ sizes ps
  | x :: ps, t, h => by
    show t.size ≤ x.size + sizes ps
    rcases List.mem_cons.mp h with e | h
    · rw [e]; omega
    · have := size_mem h; omega
theorem size_part {t x : Pt} (h : x ∈ t.parts) : x.size < t.size := by
  have h1 := size_mem h
  have h2 := t.size_parts
  omega
theorem mem_new {ps : List Pt} {x : Pt × Bool} (h : x ∈ asNew ps) : x.1 ∈ ps := by
  obtain ⟨t, ht, rfl⟩ := List.mem_map.mp h
  exact ht
theorem Bot.open {p t : Pt} {E : List Pt} {ws : List (Pt × Bool)} (h : Bot p E ((t, false) :: ws)) : Bot p E (asNew t.parts ++ (t, true) :: ws) := by
  rcases h with ⟨e, _⟩ | ⟨ws', b, e, h1, h2⟩
  · cases e
  · cases ws' with
    | nil =>
      cases e
      exact .inr ⟨asNew p.parts, true, rfl, fun x hx => size_part (mem_new hx), h2⟩
    | cons y ws' =>
      cases e
      have ht : t.size < p.size := h1 _ List.mem_cons_self
      refine .inr ⟨asNew t.parts ++ (t, true) :: ws', b, by rw [List.append_assoc]; rfl, fun x hx => ?_, h2⟩
      rcases List.mem_append.mp hx with hx | hx
      · exact Nat.lt_trans (size_part (mem_new hx)) ht
      · rcases List.mem_cons.mp hx with e | hx
        · rw [e]; exact ht
        · exact h1 _ (List.mem_cons_of_mem _ hx)
theorem Bot.new {p t : Pt} {b : Bool} {E : List Pt} {ws : List (Pt × Bool)} (h : Bot p E ((t, b) :: ws)) : Bot p (E ++ [t]) ws := by
  rcases h with ⟨e, _⟩ | ⟨ws', b', e, h1, h2⟩
  · cases e
  · cases ws' with
    | nil =>
      cases e
      refine .inl ⟨rfl, List.getLast?_concat, fun x hx => ?_⟩
      rcases List.mem_append.mp hx with hx | hx
      · exact Nat.le_of_lt (h2 x hx)
      · rw [List.mem_singleton.mp hx]
        exact Nat.le_refl _
    | cons y ws' =>
      cases e
      refine .inr ⟨ws', b', rfl, fun x hx => h1 _ (List.mem_cons_of_mem _ hx), fun x hx => ?_⟩
      rcases List.mem_append.mp hx with hx | hx
      · exact h2 x hx
      · rw [List.mem_singleton.mp hx]
        exact h1 _ List.mem_cons_self
theorem Bot.old {p t : Pt} {b : Bool} {E : List Pt} {ws : List (Pt × Bool)} (h : Bot p E ((t, b) :: ws)) (ht : t ∈ E) : Bot p E ws := by
  rcases h with ⟨e, _⟩ | ⟨ws', b', e, h1, h2⟩
  · cases e
  · cases ws' with
    | nil =>
      cases e
      exact absurd (h2 _ ht) (Nat.lt_irrefl _)
    | cons y ws' =>
      cases e
      exact .inr ⟨ws', b', rfl, fun x hx => h1 _ (List.mem_cons_of_mem _ hx), h2⟩
theorem Bot.fin {p : Pt} {E : List Pt} (h : Bot p E []) : E.getLast? = some p ∧ ∀ x ∈ E, x.size ≤ p.size := by
  rcases h with ⟨_, h⟩ | ⟨ws', b, e, _⟩
  · exact h
  · exact absurd e (by simp)
/-- what waits, in the heap, topmost first -/
def WsV (H : Hp) : List (Pt × Bool) → List V → Prop
  | [], [] => True
  | x :: ws, u :: us => (∃ a v, u = .ref a ∧ H a = some (.tup [v, .bl x.2]) ∧ PtV H x.1 v) ∧ WsV H ws us
  | _, _ => False
theorem WsV.kt {H H' : Hp} (e : KT H H') : ∀ {ws : List (Pt × Bool)} {us : List V}, WsV H ws us → WsV H' ws us
  | [], [], h => h
  | _ :: _, _ :: _, ⟨⟨a, v, h1, h2, h3⟩, h⟩ => ⟨⟨a, v, h1, e _ _ h2, PtV.kt e _ h3⟩, WsV.kt e h⟩
  | [], _ :: _, h => h
  | _ :: _, [], h => h
theorem WsV.length {H : Hp} : ∀ {ws : List (Pt × Bool)} {us : List V}, WsV H ws us → ws.length = us.length
  | [], [], _ => rfl
  | _ :: _, _ :: _, h => congrArg (· + 1) h.2.length
  | [], _ :: _, h => h.elim
  | _ :: _, [], h => h.elim
theorem WsV.app {H : Hp} {ws2 : List (Pt × Bool)} {us2 : List V} (g : WsV H ws2 us2) : ∀ {ws : List (Pt × Bool)} {us : List V}, WsV H ws us → WsV H (ws ++ ws2) (us ++ us2)
  | [], [], _ => g
  | _ :: _, _ :: _, h => ⟨h.1, WsV.app g h.2⟩
  | [], _ :: _, h => h.elim
  | _ :: _, [], h => h.elim
theorem WsV.cons {H : Hp} {x : Pt × Bool} {ws : List (Pt × Bool)} {us : List V} (h : WsV H (x :: ws) us) : ∃ a v us', us = .ref a :: us' ∧ H a = some (.tup [v, .bl x.2]) ∧ PtV H x.1 v ∧ WsV H ws us' :=
  match us, h with
  | _ :: us', ⟨⟨a, v, h1, h2, h3⟩, h⟩ => ⟨a, v, us', by rw [h1], h2, h3, h⟩
theorem PtL.at {H : Hp} : ∀ {ts : List Pt} {vs : List V} {i : Nat} {v : V}, PtL H ts vs → vs[i]? = some v → ∃ t, ts[i]? = some t ∧ PtV H t v
  | t :: _, _ :: _, 0, _, h, e => by cases e; exact ⟨t, rfl, h.1⟩
  | _ :: ts, _ :: vs, i + 1, _, h, e => PtL.at (ts := ts) (vs := vs) h.2 e
  | [], [], _, _, _, e => by cases e
  | [], _ :: _, _, _, h, _ => h.elim
  | _ :: _, [], _, _, h, _ => h.elim
end
section
variable (T : Txt K mg)
theorem walk_revT {a : Addr} {xs : List V} : Walk (RT.ItvT K a xs.length) xs.length (fun H => SqT K H a xs) (fun i H x H' => H' = H ∧ xs[xs.length - 1 - i]? = some x) :=
  ⟨fun i _ hi q => ⟨hi, xs, xs[xs.length - 1 - i]'(by omega), q, by simp [show xs.length - 1 - i < xs.length by omega]⟩, fun _ _ => Nat.le_refl _, fun _ _ _ _ _ q y => ⟨y.1, y.2 xs q⟩⟩
theorem lc_revw {ts : List Pt} {us : List V} {a : Addr} {j : Nat} {σ : L2.St} {H : Hp} {Q : VK} (hn : us.length < 1000) (hq : H a = some (.tup us)) (hp : PtL H ts us) (hw : ∀ v : V, wipe ((wipe σ [j]).set j (some v)) [j] = wipe σ [j]) (hj : ∀ v : V, ((wipe σ [j]).set j (some v))[j]? = some (some v))
    (h : ∀ L Hc zs, Ex H Hc → H L = none → Hc L = some (.lst zs.reverse) → WsV Hc (asNew ts) zs → Q (.ref L) Hc) : lcB (gName j) tYes (tTup (tCons (tVar j) (tCons (tC (.bl false)) tNil))) [j] σ Q (RT.ItvT K a us.length) H := by
  have hl := hp.length
  intro L hL
  refine lc_it walk_revT (fun i Hc => i ≤ us.length ∧ Ex H Hc ∧ ∃ rs, Hc L = some (.lst rs.reverse) ∧ WsV Hc (asNew (ts.drop (ts.length - i))) rs)
    ⟨Nat.zero_le _, Evl.Ex.new hL, [], upd_same, by rw [Nat.sub_zero, List.drop_length]; exact True.intro⟩ (fun i Hc _ z => SqT.of (z.2.1 _ _ hq)) (fun i x Hc H' hi z y => ?_) fun Hc z => ?_
  · obtain ⟨i1, e1, rs, h1, h2⟩ := z
    obtain ⟨rfl, hx⟩ := y
    obtain ⟨t, ht, hv⟩ := hp.at hx
    refine ⟨hw x, rd_yes ?_⟩
    refine rd_iteT ?_
    refine rd_tup ?_
    refine ⟨_, hj x, ?_⟩
    walk_at "rc"
    refine ⟨by show 2 ≤ sizeLine; decide, fun q hq' => ?_⟩
    have nq : q ≠ L := fun z => by rw [z, h1] at hq'; cases hq'
    have hr := h2.length
    have k1 : KT H' (upd H' q (.tup [x, .bl false])) := .new hq'
    have hlen : (asNew (ts.drop (ts.length - i))).length = i := by unfold asNew; rw [List.length_map, List.length_drop]; omega
    have hd : ts.drop (ts.length - (i + 1)) = t :: ts.drop (ts.length - i) := by
      have e : us.length - 1 - i = ts.length - (i + 1) := by omega
      rw [e] at ht
      have e2 : ts.length - i = ts.length - (i + 1) + 1 := by omega
      rw [e2]
      obtain ⟨h5, h6⟩ := List.getElem?_eq_some_iff.mp ht
      rw [List.drop_eq_getElem_cons h5, h6]
    refine ⟨rs.reverse, by rw [upd_ne (Ne.symm nq)]; exact h1, ?_, hi, Evl.Ex.mut (ex_upd e1 hq') hL, .ref q :: rs, by rw [upd_same, List.reverse_cons], ?_⟩
    · rw [List.length_reverse, ← hr, hlen]
      exact Nat.lt_of_lt_of_le (Nat.lt_trans hi hn) (by decide)
    · rw [hd]
      have k2 : KT (upd H' q (.tup [x, .bl false])) (upd (upd H' q (.tup [x, .bl false])) L (.lst (rs.reverse ++ [.ref q]))) := .putL (by rw [upd_ne (Ne.symm nq)]; exact h1)
      exact ⟨⟨q, x, rfl, k2 _ _ upd_same, PtV.kt (((KT.ex e1).trans k1).trans k2) t hv⟩, WsV.kt (k1.trans k2) h2⟩
  · obtain ⟨_, e1, rs, h1, h2⟩ := z
    rw [hl, Nat.sub_self, List.drop_zero] at h2
    exact h L Hc rs e1 hL h1 h2
theorem rd_gn {i : Nat} {x : V} {σ : L2.St} {H : Hp} {Q : L2.St → Hp → Prop} (h : Q (σ.set i (some x)) H) : gName i x σ H Q := h
theorem rd_itecut {te1 te2 : TE} {c : Bool} {σ : L2.St} {H : Hp} {Q : VK} (Pv : V → Hp → Prop) (h1 : ∀ Q' : VK, (∀ y H', Pv y H' → Q' y H') → if c = true then te1 σ H Q' else te2 σ H Q') (h2 : ∀ y H', Pv y H' → Q y H') : if c = true then te1 σ H Q else te2 σ H Q := h1 Q h2
theorem rd_vcut {te : TE} {σ : L2.St} {H : Hp} {Q : VK} (Pv : V → Hp → Prop) (h1 : ∀ Q' : VK, (∀ y H', Pv y H' → Q' y H') → te σ H Q') (h2 : ∀ y H', Pv y H' → Q y H') : te σ H Q := h1 Q h2
theorem rd_tcut {tt : TT} {σ : L2.St} {H : Hp} {Q : Bool → Hp → Prop} (b : Bool) (h1 : ∀ Q' : Bool → Hp → Prop, Q' b H → tt σ H Q') (h2 : Q b H) : tt σ H Q := h1 Q h2
theorem fl_leaf {E : List Pt} {H : Hp} {v : V} : ∀ {t : Pt}, t.parts = [] → PtV H t v → ∃ q f, v = .ref q ∧ H q = some (.tup f.vs) ∧ FlOf E t f
  | .nul k, _, ⟨a, h1, h2⟩ => ⟨a, .nul k, h1, h2, rfl⟩
  | .one s, _, ⟨a, h1, h2⟩ => ⟨a, .one s, h1, h2, rfl⟩
  | .un _ _, h, _ => by cases h
  | .bi _ _ _, h, _ => by cases h
theorem fl_made {E : List Pt} {ns : List Nat} : ∀ {t : Pt}, t.parts ≠ [] → DnE E ns t.parts → ∃ f, FlOf E t f ∧ f.vs = [.str t.kind] ++ ns.map fun n : Nat => V.int (n : Int)
  | .nul k, h, _ => absurd rfl h
  | .one s, h, _ => absurd rfl h
  | .un k a, _, g => by
    match ns, g with
    | [n], g => exact ⟨.un k n, ⟨rfl, g.1⟩, rfl⟩
    | [], g => exact g.elim
    | _ :: _ :: _, g => exact g.2.elim
  | .bi k a b, _, g => by
    match ns, g with
    | [n, m], g => exact ⟨.bi k n m, ⟨rfl, g.1, g.2.1⟩, rfl⟩
    | [], g => exact g.elim
    | [_], g => exact g.2.elim
    | _ :: _ :: _ :: _, g => exact g.2.2.elim
theorem cut_from {xs ys : List V} : cutV (xs ++ ys) (some (xs.length : Int)) none = ys := by
  have e1 := HT.sIx_nat (xs ++ ys).length 0 xs.length
  unfold cutV
  rw [e1, HT.sIx_none, List.length_append, Nat.min_eq_left (Nat.le_add_right _ _), List.drop_left, Nat.add_sub_cancel_left, List.take_length]
theorem Pt.parts_len : ∀ t : Pt, t.parts.length ≤ 2
  | .nul _ => Nat.zero_le _
  | .one _ => Nat.zero_le _
  | .un _ _ => by show 1 ≤ 2; decide
  | .bi _ _ _ => Nat.le_refl _
structure FlI (w : World) (t : Pt) (nm d l : Addr) (H H' : Hp) (E : List Pt) (F : List Fl) (ds : List Nat) (es : List Pt) (ws : List (Pt × Bool)) (us : List V) (kvs : KA) : Prop where
  ex : Ex H H'
  hn : H' nm = some (dN w nm kvs)
  hd : H' d = some (.lst (ds.map fun n : Nat => V.int (n : Int)))
  hl : H' l = some (.lst us.reverse)
  wv : WsV H' ws us
  gd : Good t ws es
  dn : DnE E ds es
  tb : Tab E F
  kv : KvF H' F kvs 0
  bt : Bot t E ws
  oe : ∀ x ∈ E, x.ok
  ow : ∀ x ∈ ws, x.1.ok
  be : E.length + wt ws ≤ 2 * t.size
  bd : ds.length + wt ws ≤ 2 * t.size
/-- the terms in the order of their making, their parts as numbers -/
def spFlat : Sp := fun vs H Q _ => ∃ (t : Pt) (v : V), vs = [v] ∧ t.ok ∧ PtV H t v ∧ t.size ≤ 10000 ∧ ∀ l us E F H', Ex H H' → H' l = some (.lst us) → FlL H' F us → Tab E F → (∀ x ∈ E, x.ok ∧ x.size ≤ t.size) → E.getLast? = some t → E.length ≤ 2 * t.size → Q (.ref l) H'
theorem ok_flat_terms : FnOk P w K mg base CX0 2 T.a_flat_terms T.d_flat_terms ["pattern"] spFlat := by
  refine T.f_flat_terms.ok sc_flat_terms (fun vs H Q E h => ?_) (fun cdv A outer s H vs Q E hr h => ?_)
  · obtain ⟨_, _, rfl, _⟩ := h; rfl
  · obtain ⟨t, v, rfl, hk, hv, hs, q⟩ := h
    have sz : 100000 ≤ sizeLine := by decide
    refine ⟨_, (pss_cons (ps_set (i := 1) sc_flat_terms.nd rfl (by first | exact Or.inl rfl | exact Or.inr rfl) (pe_dnewN w rfl))
  (pss_cons (ps_set (i := 2) sc_flat_terms.nd rfl (by first | exact Or.inl rfl | exact Or.inr rfl) (pe_lst pa_nil))
  (pss_cons (ps_set (i := 3) sc_flat_terms.nd rfl (by first | exact Or.inl rfl | exact Or.inr rfl) (pe_lst (pa_cons (pe_tup (pa_cons (pv 0) (pa_cons pe_bl pa_nil))) pa_nil)))
  (pss_cons (ps_while PassesOwn.never (pt_truth (pv 3) (by intro _; rfl))
    (pss_cons (ps_asg (kBm0 K rfl (pe_bm0 PySem.F.plainAttrs_list PySem.F.slot_list_pop PySem.F.type_list_pop mt_pop (pv 3))) (kGt K rfl (pg_tup (n := 2) (by rfl) (pgs_cons (pg_name (i := 4) sc_flat_terms.nd rfl (by first | exact Or.inl rfl | exact Or.inr rfl)) (pgs_cons (pg_name (i := 5) sc_flat_terms.nd rfl (by first | exact Or.inl rfl | exact Or.inr rfl)) pgs_nil)))))
  (pss_cons (ps_set (i := 6) sc_flat_terms.nd rfl (by first | exact Or.inl rfl | exact Or.inr rfl) (pe_callE (ok_parts_of T) (hr.mono (by decide)) T.o_parts_of (pa_cons (pv 4) pa_nil)))
  (pss_one (ps_if (PW.pt (pw_and (pt_truth (pv 6) (by intro _; rfl)) (pw_and1 (pt_not (pt_val (pv 5))))))
    (pss_cons (ps_expr (kBm K rfl (pe_bm PySem.F.plainAttrs_list PySem.F.slot_list_append PySem.F.type_list_append mt_append (pv 3) (pa_cons (pe_tup (pa_cons (pv 4) (pa_cons pe_bl pa_nil))) pa_nil))))
  (pss_one (ps_expr (kBm K rfl (pe_bm PySem.F.plainAttrs_list PySem.F.slot_list_extend PySem.F.type_list_extend mt_extend (pv 3) (pa_cons (pe_lc (own := [("part", 7)]) (g := gName 7) (tt := tYes) (by rfl) sc_flat_terms.nd (kRevA K rfl (by rfl) T.nb_reversed (pv 6)) (blkOk_by (own := [("part", 7)]) (N := ["pattern", "numbers", "done", "waiting", "term", "has_parts", "parts", "part", "first", "flat"]) (sc := defScope s_flat_terms) (by decide +kernel)) (fun _ _ _ _ _ => (pg_name (i := 7) sc_flat_terms.nd rfl (by first | exact Or.inl rfl | exact Or.inr rfl))) (fun _ _ _ _ _ => pts_nil) (fun _ _ _ _ _ => (pe_tup (pa_cons (pv 7) (pa_cons pe_bl pa_nil))))) pa_nil))))))
    (pss_cons (ps_set (i := 8) sc_flat_terms.nd rfl (by first | exact Or.inl rfl | exact Or.inr rfl) (pe_op op_subP (pe_callB (kLen K) (by rfl) T.nb_len (by decide +kernel) (pa_cons (pv 2) pa_nil)) (pe_callB (kLen K) (by rfl) T.nb_len (by decide +kernel) (pa_cons (pv 6) pa_nil))))
  (pss_cons (ps_set (i := 9) sc_flat_terms.nd rfl (by first | exact Or.inl rfl | exact Or.inr rfl) (pe_ifExp (pt_truth (pv 6) (by intro _; rfl)) (pe_op (kAdd K) (pe_tup (pa_cons (pe_ix (kIx K) (pv 4) pe_int (fun _ _ => rfl)) pa_nil)) (pe_callTy (kTupOf K) (by rfl) T.nb_tuple (by decide +kernel) (pa_cons (pe_slice (kSl K) (pv 2) (po_some (pv 8)) po_none) pa_nil))) (pv 4)))
  (pss_cons (ps_delTl (pv 2) (pv 8))
  (pss_one (ps_expr (kBm K rfl (pe_bm PySem.F.plainAttrs_list PySem.F.slot_list_append PySem.F.type_list_append mt_append (pv 2) (pa_cons (pe_dsetdX w rfl (hu40 hr) (pv 1) (pv 9) (pe_callB (call_len_dN w rfl) (by rfl) T.nb_len (by decide +kernel) (pa_cons (pv 1) pa_nil)) ⟨by rfl, by rfl, by rfl, by rfl⟩) pa_nil)))))))))))))
  (pss_one (ps_ret (pe_callTy (call_list_dN w rfl (by rfl)) (by rfl) T.nb_list (by decide +kernel) (pa_cons (pv 1) pa_nil)))))))), ?_⟩
    walk_at "rc"
    intro nm hnm
    walk_at "rc"
    refine ⟨Nat.zero_le _, fun d hd => ?_⟩
    have nd : d ≠ nm := fun z => by rw [z, upd_same] at hd; cases hd
    have hdH : H d = none := by rw [upd_ne nd] at hd; exact hd
    walk_at "rc"
    refine ⟨by show 2 ≤ sizeLine; decide, fun w0 hw0 => ?_⟩
    walk_at "rc"
    refine ⟨by show 1 ≤ sizeLine; decide, fun l hl => ?_⟩
    have nl : l ≠ nm ∧ l ≠ d ∧ l ≠ w0 := by
      refine ⟨fun z => ?_, fun z => ?_, fun z => ?_⟩
      · have nw : w0 ≠ nm := fun z => by
          rw [z, upd_ne (Ne.symm nd), upd_same] at hw0
          cases hw0
        rw [z, upd_ne (Ne.symm nw), upd_ne (Ne.symm nd), upd_same] at hl
        cases hl
      · have nw : w0 ≠ d := fun z => by
          rw [z, upd_same] at hw0
          cases hw0
        rw [z, upd_ne (Ne.symm nw), upd_same] at hl
        cases hl
      · rw [z, upd_same] at hl
        cases hl
    have nw : w0 ≠ nm ∧ w0 ≠ d := by
      refine ⟨fun z => ?_, fun z => ?_⟩
      · rw [z, upd_ne (Ne.symm nd), upd_same] at hw0
        cases hw0
      · rw [z, upd_same] at hw0
        cases hw0
    have hlH : H l = none := by rw [upd_ne nl.2.2, upd_ne nl.2.1, upd_ne nl.1] at hl; exact hl
    walk_at "rc"
    walk_at "rs"
    refine rd_wh (fun mm σ H' => ∃ E F ds es ws us kvs k4 k5 k6 k7 k8 k9, σ = [some v, some (.ref nm), some (.ref d), some (.ref l), k4, k5, k6, k7, k8, k9] ∧ FlI w t nm d l H H' E F ds es ws us kvs ∧ mm = wt ws)
      _ ⟨[], [], [], [], [(t, false)], [.ref w0], [], _, _, _, _, _, _, rfl, ⟨?_, ?_, ?_, upd_same, ⟨⟨w0, v, rfl, ?_, ?_⟩, True.intro⟩, .new .fin, True.intro, .nil, True.intro, .inr ⟨[], false, rfl, (fun x hx => nomatch hx), fun x hx => nomatch hx⟩, (fun x hx => nomatch hx), (fun x hx => by rw [List.mem_singleton.mp hx]; exact hk), ?_, ?_⟩, rfl⟩ ?_
    · exact Evl.Ex.trans (Evl.Ex.new hnm) (Evl.Ex.trans (Evl.Ex.new hd) (Evl.Ex.trans (Evl.Ex.new hw0) (Evl.Ex.new hl)))
    · rw [upd_ne (Ne.symm nl.1), upd_ne (Ne.symm nw.1), upd_ne (Ne.symm nd), upd_same]
    · rw [upd_ne (Ne.symm nl.2.1), upd_ne (Ne.symm nw.2), upd_same]
      rfl
    · rw [upd_ne (Ne.symm nl.2.2), upd_same]
    · exact PtV.kt (.ex (Evl.Ex.trans (Evl.Ex.new hnm) (Evl.Ex.trans (Evl.Ex.new hd) (Evl.Ex.trans (Evl.Ex.new hw0) (Evl.Ex.new hl))))) t hv
    · show 0 + (2 * t.size + 0) ≤ _
      omega
    · show 0 + (2 * t.size + 0) ≤ _
      omega
    rintro mm σ H1 ⟨E1, F, ds, es, ws, us, kvs, k4, k5, k6, k7, k8, k9, rfl, J, rfl⟩
    walk_at "rc"
    refine ⟨!us.reverse.isEmpty, .inl ⟨_, SqL.of J.hl, rfl⟩, ?_⟩
    cases ws with
    | nil =>
      have e : us = [] := List.length_eq_zero_iff.mp J.wv.length.symm
      subst e
      refine rd_iteF ?_
      walk_at "rc"
      refine ⟨nm, kvs, rfl, J.hn, J.kv.ks, fun r hr => ?_⟩
      exact q r _ E1 F _ (Evl.Ex.trans J.ex (Evl.Ex.new hr)) upd_same (FlL.kt (.new hr) J.kv.fl) J.tb (fun x hx => ⟨J.oe x hx, J.bt.fin.2 x hx⟩) J.bt.fin.1 (by have := J.be; omega)
    | cons x ws =>
      obtain ⟨a, v1, us, rfl, ha, hv1, hws⟩ := J.wv.cons
      have h5 : (!((V.ref a :: us).reverse).isEmpty) = true := by simp
      rw [h5]
      refine rd_iteT ?_
      refine ⟨_, fun σ2 H2 z => z, ?_⟩
      walk_at "rc"
      refine rd_bm0 ?_
      walk_at "rc"
      refine ⟨.inl ⟨rfl, _, SqL.of J.hl⟩, ?_⟩
      have h6 : H1 l = some (.lst (us.reverse ++ [.ref a])) := by rw [J.hl, List.reverse_cons]
      have hlast : (us.reverse ++ [V.ref a])[(us.reverse ++ [V.ref a]).length - 1]? = some (.ref a) := by rw [List.length_append, List.length_singleton, Nat.add_sub_cancel, List.getElem?_append_right (Nat.le_refl _), Nat.sub_self]; rfl
      refine ⟨l, _, _, rfl, rfl, h6, hlast, ?_⟩
      rw [List.dropLast_concat]
      have k1 : KT H1 (upd H1 l (.lst us.reverse)) := .putL J.hl
      walk_at "rc"
      refine ⟨a, _, rfl, SqT.of (k1 _ _ ha), rfl, ?_⟩
      walk_at "rc"
      obtain ⟨t1, b⟩ := x
      have ok1 : t1.ok := J.ow _ List.mem_cons_self
      refine ⟨t1, v1, rfl, ok1, PtV.kt k1 t1 hv1, fun b1 ps H2 ex2 hps hpp => ?_⟩
      have k2 : KT H1 H2 := k1.trans (.ex ex2)
      have h2l : H2 l = some (.lst us.reverse) := ex2 l _ upd_same
      have h2d : H2 d = some (.lst (ds.map fun n : Nat => V.int (n : Int))) := ex2 d _ (by rw [upd_ne (Ne.symm nl.2.1)]; exact J.hd)
      have h2n : H2 nm = some (dN w nm kvs) := ex2 nm _ (by rw [upd_ne (Ne.symm nl.1)]; exact J.hn)
      have e2 : Ex H H2 := Evl.Ex.trans (J.ex.mut hlH) ex2
      have lpp := hpp.length
      have be := J.be
      have bd := J.bd
      have hl1 := wt_len ws
      have hsp := t1.size_parts
      have hspl := sizes_len t1.parts
      have hwl := hws.length
      have hwc : wt ((t1, b) :: ws) = wt1 (t1, b) + wt ws := wt_cons
      have hwp := wt1_pos (x := (t1, b))
      have hp2 := t1.parts_len
      refine rd_gn ?_
      dsimp only
      refine rd_if ?_
      refine rd_tcut ((!ps.isEmpty) && !b) (fun Q' hQ => ?_) ?_
      · walk_at "rc"
        refine ⟨!ps.isEmpty, .inr (.inl ⟨_, SqT.of hps, rfl⟩), ?_⟩
        cases hpe : (!ps.isEmpty) with
        | false =>
          rw [hpe] at hQ
          refine rd_iteF ?_
          exact hQ
        | true =>
          rw [hpe] at hQ
          refine rd_iteT ?_
          walk_at "rc"
          exact hQ
      refine rd_ite (fun hc => ?_) fun hc => ?_
      · have hb : b = false := by
          cases b
          · rfl
          · rw [Bool.not_true, Bool.and_false] at hc; cases hc
        subst hb
        have hpe : (!ps.isEmpty) = true := by rw [Bool.not_false, Bool.and_true] at hc; exact hc
        walk_at "rc"
        refine ⟨.inl ⟨rfl, _, SqL.of h2l⟩, ?_⟩
        walk_at "rc"
        refine ⟨by show 2 ≤ sizeLine; decide, fun r hr => ?_⟩
        walk_at "rc"
        have nr : r ≠ l := fun z => by rw [z, h2l] at hr; cases hr
        have f3 : Ex H2 (upd H2 r (.tup [v1, .bl true])) := Evl.Ex.new hr
        have h3l := f3 _ _ h2l
        refine ⟨l, _, _, rfl, rfl, h3l, by rw [List.length_reverse]; omega, ?_⟩
        generalize hH4 : upd (upd H2 r (HO.tup [v1, V.bl true])) l (HO.lst (us.reverse ++ [V.ref r])) = H4
        have h4l : H4 l = some (.lst (us.reverse ++ [.ref r])) := by rw [← hH4]; exact upd_same
        have h4n : H4 nm = some (dN w nm kvs) := by rw [← hH4, upd_ne (Ne.symm nl.1)]; exact f3 _ _ h2n
        have h4d := f3 _ _ h2d
        have h4d : H4 d = some (.lst (ds.map fun n : Nat => V.int (n : Int))) := by rw [← hH4, upd_ne (Ne.symm nl.2.1)]; exact h4d
        have k4 : KT H2 H4 := by rw [← hH4]; exact (KT.ex f3).trans (.putL h3l)
        have h4r : H4 r = some (.tup [v1, .bl true]) := by rw [← hH4, upd_ne nr]; exact upd_same
        have e4 : Ex H H4 := by rw [← hH4]; exact (Evl.Ex.trans e2 f3).mut hlH
        walk_at "rc"
        refine ⟨.inl ⟨rfl, _, SqL.of h4l⟩, ?_⟩
        walk_at "rc"
        refine ⟨_, rfl, b1, ps, rfl, .inr ⟨SqT.of (k4 _ _ hps), ?_⟩⟩
        refine lc_revw (us := ps) (by omega) (k4 _ _ hps) (PtL.kt k4 hpp) (fun _ => rfl) (fun _ => rfl) fun L Hc zs ex5 hL hLc hzs => ?_
        walk_at "rc"
        have h5l := ex5 _ _ h4l
        have lz := hzs.length
        have lz2 : (asNew t1.parts).length = t1.parts.length := List.length_map ..
        refine ⟨l, L, _, _, rfl, rfl, h5l, hLc, by rw [List.length_append, List.length_reverse, List.length_reverse, List.length_singleton]; omega, ?_⟩
        walk_at "rc"
        have k6 : KT Hc (upd Hc l (.lst ((us.reverse ++ [.ref r]) ++ zs.reverse))) := .putL h5l
        have k5 : KT H4 (upd Hc l (.lst ((us.reverse ++ [.ref r]) ++ zs.reverse))) := (KT.ex ex5).trans k6
        have hwo := wt_open (t := t1) (ws := ws)
        refine ⟨wt (asNew t1.parts ++ (t1, true) :: ws), by omega, E1, F, ds, es, asNew t1.parts ++ (t1, true) :: ws, zs ++ .ref r :: us, kvs, _, _, _, _, _, _, rfl, ⟨(Evl.Ex.trans e4 ex5).mut hlH, ?_, ?_, ?_, (WsV.app (ws2 := (t1, true) :: ws) (us2 := .ref r :: us) ⟨⟨r, v1, rfl, k5 _ _ h4r, PtV.kt (k2.trans (k4.trans k5)) t1 hv1⟩, WsV.kt (k2.trans (k4.trans k5)) hws⟩ (WsV.kt k6 hzs)), J.gd.open, J.dn, J.tb, J.kv.kt (k2.trans (k4.trans k5)), J.bt.open, J.oe, fun x hx => ?_, by omega, by omega⟩, rfl⟩
        · rw [upd_ne (Ne.symm nl.1)]; exact ex5 _ _ h4n
        · rw [upd_ne (Ne.symm nl.2.1)]; exact ex5 _ _ h4d
        · rw [upd_same, List.reverse_append, List.reverse_cons]
        · rcases List.mem_append.mp hx with hx | hx
          · exact Pt.ok_parts ok1 _ (mem_new hx)
          · rcases List.mem_cons.mp hx with e | hx
            · rw [e]; exact ok1
            · exact J.ow _ (List.mem_cons_of_mem _ hx)
      · have hb2 : b = false → t1.parts = [] := fun z => by
          subst z
          have e : ps = [] := by
            cases ps with
            | nil => rfl
            | cons _ _ => cases hc
          rw [e] at lpp
          exact List.length_eq_zero_iff.mp lpp
        obtain ⟨es0, ees, hg⟩ := J.gd.done hb2
        obtain ⟨d1, d2, eds, hd1, hd2⟩ := (show DnE E1 ds (es0 ++ t1.parts) from ees ▸ J.dn).split
        have ld2 := hd2.length
        subst eds
        rw [List.length_append] at bd
        have e8 : (((List.map (fun n : Nat => V.int (n : Int)) (d1 ++ d2)).length : Nat) : Int) - ((ps.length : Nat) : Int) = ((d1.length : Nat) : Int) := by
          rw [List.length_map, List.length_append]
          omega
        walk_at "rc"
        refine rd_lenL (SqL.of h2d) ?_
        walk_at "rc"
        refine rd_lenT (SqT.of hps) ?_
        walk_at "rc"
        rw [e8]
        refine rd_vcut (fun y H3 => ∃ q f, y = .ref q ∧ Ex H2 H3 ∧ H3 q = some (.tup f.vs) ∧ FlOf E1 t1 f) (fun Q' hQ => ?_) ?_
        · refine rd_ife ?_
          walk_at "rc"
          refine ⟨!ps.isEmpty, .inr (.inl ⟨_, SqT.of hps, rfl⟩), ?_⟩
          by_cases hp0 : t1.parts = []
          · have e : ps = [] := by
              rw [hp0] at lpp
              exact List.length_eq_zero_iff.mp lpp.symm
            subst e
            refine rd_iteF ?_
            walk_at "rc"
            obtain ⟨qa, f, h1, h2, h3⟩ := fl_leaf (E := E1) hp0 hv1
            exact hQ _ _ ⟨qa, f, h1, Evl.Ex.refl _, k2 _ _ h2, h3⟩
          · have e : (!ps.isEmpty) = true := by
              cases ps with
              | nil => exact absurd (List.length_eq_zero_iff.mp lpp) hp0
              | cons _ _ => rfl
            rw [e]
            refine rd_iteT ?_
            obtain ⟨f, hf1, hf2⟩ := fl_made hp0 hd2
            obtain ⟨a1, us1, rfl, ha1, _⟩ := hv1.at
            walk_at "rc"
            refine rd_ixT (SqT.of (k2 _ _ ha1)) (atI_nat (j := 0) rfl) ?_
            walk_at "rc"
            refine ⟨by show 1 ≤ sizeLine; decide, fun x1 hx1 => ?_⟩
            walk_at "rc"
            have h3d := (Evl.Ex.new (o := .tup [.str (t1, b).fst.kind]) hx1) _ _ h2d
            have hcut : cutV (List.map (fun n : Nat => V.int (n : Int)) (d1 ++ d2)) (some (d1.length : Int)) none = d2.map fun n : Nat => V.int (n : Int) := by
              have e := cut_from (xs := d1.map fun n : Nat => V.int (n : Int)) (ys := d2.map fun n : Nat => V.int (n : Int))
              rw [List.length_map] at e
              rw [List.map_append]
              exact e
            refine .inl ⟨d, _, rfl, SqL.of h3d, fun x2 hx2 => ?_⟩
            rw [hcut]
            walk_at "rc"
            refine rd_tupL (SqL.of upd_same) fun x3 hx3 => ?_
            walk_at "rc"
            have nx2 : x2 ≠ x1 := fun z => by rw [z, upd_same] at hx2; cases hx2
            have nx3 : x3 ≠ x1 := fun z => by rw [z, upd_ne (Ne.symm nx2), upd_same] at hx3; cases hx3
            refine .inr (.inr (.inr ⟨x1, x3, _, _, rfl, rfl, SqT.of (by rw [upd_ne (Ne.symm nx3), upd_ne (Ne.symm nx2), upd_same]), SqT.of upd_same, List.cons_ne_nil _ _, by rw [List.length_map, List.length_singleton]; omega, fun z => ?_, fun _ x4 hx4 => ?_⟩))
            · have z2 : d2.length = 0 := by rw [← List.length_map (f := fun n : Nat => V.int (n : Int)), z]; rfl
              exact absurd (List.length_eq_zero_iff.mp (ld2.symm.trans z2)) hp0
            · exact hQ _ _ ⟨x4, f, rfl, Evl.Ex.trans (Evl.Ex.new hx1) (Evl.Ex.trans (Evl.Ex.new hx2) (Evl.Ex.trans (Evl.Ex.new hx3) (Evl.Ex.new hx4))), by rw [upd_same, hf2], hf1⟩
        · rintro y H3 ⟨q5, f, rfl, e3, hq5, hf⟩
          have h3d := e3 _ _ h2d
          have htk : (List.map (fun n : Nat => V.int (n : Int)) (d1 ++ d2)).take d1.length = d1.map fun n : Nat => V.int (n : Int) := by
            rw [List.map_append, List.take_append_of_le_length (by rw [List.length_map]; exact Nat.le_refl _), List.take_of_length_le (by rw [List.length_map]; exact Nat.le_refl _)]
          walk_at "rc"
          refine rd_gn ?_
          dsimp only
          walk_at "rc"
          refine rd_delTl ?_
          walk_at "rc"
          refine ⟨d, _, d1.length, rfl, rfl, h3d, by rw [List.length_map, List.length_append]; omega, ?_⟩
          rw [htk]
          generalize hH4 : upd H3 d (HO.lst (List.map (fun n : Nat => V.int (n : Int)) d1)) = H4
          have h4d : H4 d = some (.lst (d1.map fun n : Nat => V.int (n : Int))) := by rw [← hH4]; exact upd_same
          have h4n : H4 nm = some (dN w nm kvs) := by rw [← hH4, upd_ne (Ne.symm nd)]; exact e3 _ _ h2n
          have h4l : H4 l = some (.lst us.reverse) := by rw [← hH4, upd_ne nl.2.1]; exact e3 _ _ h2l
          have k34 : KT H3 H4 := by rw [← hH4]; exact .putL h3d
          have k14 : KT H1 H4 := (k2.trans (.ex e3)).trans k34
          have e4 : Ex H H4 := by rw [← hH4]; exact (Evl.Ex.trans e2 e3).mut hdH
          have kv4 := J.kv.kt k14
          have lkv := kv4.length
          have ltb := J.tb.n
          have ld1 := hd1.length
          walk_at "rc"
          refine ⟨.inl ⟨rfl, _, SqL.of h4d⟩, ?_⟩
          walk_at "rc"
          refine rd_dsetdX ?_
          walk_at "rc"
          refine ⟨⟨nm, kvs, rfl, h4n, kv4.ks⟩, ?_⟩
          walk_at "rc"
          refine ⟨nm, kvs, rfl, h4n, kv4.ks, ?_⟩
          walk_at "rc"
          have h4q := k34 _ _ hq5
          refine ⟨nm, kvs, f.key, rfl, ⟨h4n, kv4.ks, Fl.kyn h4q⟩, by omega, fun vv hvv => ?_, fun hno => ?_⟩
          · obtain ⟨j, hj, rfl⟩ := kv4.val hvv
            obtain ⟨t', ht'⟩ : ∃ t', E1[j]? = some t' := ⟨_, List.getElem?_eq_getElem (by rw [ltb]; exact (List.getElem?_eq_some_iff.mp hj).1)⟩
            have et : t' = t1 := FlOf.inj ((J.tb.fl j t' f ht' hj).mono fun _ _ h => take_at h) hf
            subst et
            walk_at "rc"
            refine ⟨d, _, _, rfl, rfl, h4d, by rw [List.length_map]; omega, ?_⟩
            walk_at "rc"
            have k6 : KT H4 (upd H4 d (.lst ((d1.map fun n : Nat => V.int (n : Int)) ++ [V.int ((0 + j : Nat) : Int)]))) := .putL h4d
            refine ⟨wt ws, by omega, E1, F, d1 ++ [j], es0 ++ [t'], ws, us, kvs, _, _, _, _, _, _, rfl, ⟨e4.mut hdH, ?_, ?_, ?_, WsV.kt (k14.trans k6) hws, hg, hd1.app ht', J.tb, kv4.kt k6, J.bt.old (List.mem_of_getElem? ht'), J.oe, fun x hx => J.ow _ (List.mem_cons_of_mem _ hx), by omega, by rw [List.length_append, List.length_singleton]; omega⟩, rfl⟩
            · rw [upd_ne (Ne.symm nd)]; exact h4n
            · rw [upd_same, List.map_append, Nat.zero_add]; rfl
            · rw [upd_ne nl.2.1]; exact h4l
          · generalize hH5 : upd H4 nm (dN w nm (kvs ++ [(f.key, V.ref q5, V.int ((List.length kvs : Nat) : Int))])) = H5
            have k5 : KT H4 H5 := by rw [← hH5]; exact .put fun xs e => by rw [h4n] at e; cases e
            have h5d : H5 d = some (.lst (d1.map fun n : Nat => V.int (n : Int))) := by rw [← hH5, upd_ne nd]; exact h4d
            have h5n : H5 nm = some (dN w nm (kvs ++ [(f.key, V.ref q5, V.int ((List.length kvs : Nat) : Int))])) := by rw [← hH5]; exact upd_same
            have h5l : H5 l = some (.lst us.reverse) := by rw [← hH5, upd_ne nl.1]; exact h4l
            have e5 : Ex H H5 := by rw [← hH5]; exact e4.mut hnm
            walk_at "rc"
            refine ⟨d, _, _, rfl, rfl, h5d, by rw [List.length_map]; omega, ?_⟩
            walk_at "rc"
            have k6 : KT H5 (upd H5 d (.lst ((d1.map fun n : Nat => V.int (n : Int)) ++ [V.int ((List.length kvs : Nat) : Int)]))) := .putL h5d
            have mo : ∀ (i : Nat) x, E1[i]? = some x → (E1 ++ [t1])[i]? = some x := fun i x h => by rw [List.getElem?_append_left (List.getElem?_eq_some_iff.mp h).1]; exact h
            have gl : (E1 ++ [t1])[List.length kvs]? = some t1 := by
              rw [← lkv, ← ltb, List.getElem?_append_right (Nat.le_refl _), Nat.sub_self]
              rfl
            refine ⟨wt ws, by omega, E1 ++ [t1], F ++ [f], d1 ++ [List.length kvs], es0 ++ [t1], ws, us, _, _, _, _, _, _, _, rfl, ⟨e5.mut hdH, ?_, ?_, ?_, WsV.kt ((k14.trans k5).trans k6) hws, hg, (hd1.mono mo).app gl, J.tb.snoc hf, (KvF.snoc ((k5.trans k6) _ _ h4q) (kv4.kt (k5.trans k6)) (by rw [Nat.zero_add])), J.bt.new, fun x hx => ?_, fun x hx => J.ow _ (List.mem_cons_of_mem _ hx), by rw [List.length_append, List.length_singleton]; omega, by rw [List.length_append, List.length_singleton]; omega⟩, rfl⟩
            · rw [upd_ne (Ne.symm nd)]; exact h5n
            · rw [upd_same, List.map_append]; rfl
            · rw [upd_ne nl.2.1]; exact h5l
            · rcases List.mem_append.mp hx with hx | hx
              · exact J.oe x hx
              · rw [List.mem_singleton.mp hx]; exact ok1
end
section
/-- how strongly a pattern binds, how it is written -/
def Pt.st : Pt → Nat
  | .nul _ => 5
  | .one _ => 5
  | .un k _ => if k = "not" then 3 else 4
  | .bi k _ _ => if k = "either" then 0 else if k = "both" then 1 else 2
def sg (k : Str) : Str := if k = "either" then "|" else if k = "both" then "&" else ""
def plc (s : Str) (b a : Nat) : Str := if b < a then "(" ++ s ++ ")" else s
def prL (L s : Str) : Str := if s.length = 1 then s else if s = L then "." else "[" ++ s ++ "]"
def pr (L : Str) : Pt → Str
  | .nul k => if k = "none" then "[]" else "()"
  | .one s => prL L s
  | .un k a => if k = "not" then "!" ++ plc (pr L a) a.st 3 else plc (pr L a) a.st 4 ++ "*"
  | .bi k a b => plc (pr L a) a.st (Pt.bi k a b).st ++ sg k ++ plc (pr L b) b.st ((Pt.bi k a b).st + 1)
theorem plc_len {s : Str} {b a : Nat} : (plc s b a).length ≤ s.length + 2 := by
  unfold plc
  split
  · rw [str_len, str_len]
    have h1 : ("(" : Str).length = 1 := by decide +kernel
    have h2 : (")" : Str).length = 1 := by decide +kernel
    omega
  · omega
theorem sg_len {k : Str} : (sg k).length ≤ 1 := by
  unfold sg
  split
  · decide +kernel
  · split
    · decide +kernel
    · decide +kernel
theorem pr_len {L : Str} : ∀ {t : Pt}, t.ok → (pr L t).length ≤ 110 * t.size
  | .nul k, _ => by
    show (if k = "none" then ("[]" : Str) else "()").length ≤ 110 * 1
    split <;> decide +kernel
  | .one s, h => by
    have h : s.length ≤ 100 := h
    show (prL L s).length ≤ 110 * 1
    unfold prL
    have h1 : ("[" : Str).length = 1 := by decide +kernel
    have h2 : ("]" : Str).length = 1 := by decide +kernel
    have h3 : ("." : Str).length = 1 := by decide +kernel
    split
    · omega
    · split
      · omega
      · rw [str_len, str_len]; omega
  | .un k a, h => by
    have i := pr_len (L := L) h.2
    have j3 := plc_len (s := pr L a) (b := a.st) (a := 3)
    have j4 := plc_len (s := pr L a) (b := a.st) (a := 4)
    have h1 : ("!" : Str).length = 1 := by decide +kernel
    have h2 : ("*" : Str).length = 1 := by decide +kernel
    show (if k = "not" then "!" ++ plc (pr L a) a.st 3 else plc (pr L a) a.st 4 ++ "*").length ≤ 110 * (a.size + 1)
    split <;> rw [str_len] <;> omega
  | .bi k a b, h => by
    have i := pr_len (L := L) h.2.1
    have i2 := pr_len (L := L) h.2.2
    have j1 := plc_len (s := pr L a) (b := a.st) (a := (Pt.bi k a b).st)
    have j2 := plc_len (s := pr L b) (b := b.st) (a := (Pt.bi k a b).st + 1)
    have j3 := sg_len (k := k)
    show (plc (pr L a) a.st (Pt.bi k a b).st ++ sg k ++ plc (pr L b) b.st ((Pt.bi k a b).st + 1)).length ≤ 110 * (a.size + b.size + 1)
    rw [str_len, str_len]
    omega
end
section
variable (T : Txt K mg)
def spNl : Sp := fun vs H Q _ => ∃ L s : Str, vs = [.str L, .str s] ∧ s.length ≤ 100 ∧ Q (.str (prL L s)) H
theorem ok__notation_of_letters : FnOk P w K mg base CX0 1 T.a__notation_of_letters T.d__notation_of_letters ["letters", "kept"] spNl := by
  refine T.f__notation_of_letters.ok sc__notation_of_letters (fun vs H Q E h => ?_) (fun cdv A outer s H vs Q E hr h => ?_)
  · obtain ⟨_, _, rfl, _⟩ := h; rfl
  · obtain ⟨L, s1, rfl, hs, q⟩ := h
    refine ⟨_, (pss_cons (ps_if (pt_cmpR (kEq K rfl hr.units) (pe_callB (kLen K) (by rfl) T.nb_len (by decide +kernel) (pa_cons (pv 1) pa_nil)) pe_int (by first | rfl | exact nomark _))
    (pss_one (ps_ret (pv 1)))
    pss_nil)
  (pss_cons (ps_if (pt_cmpR (kEq K rfl hr.units) (pv 1) (pv 0) (by first | rfl | exact nomark _))
    (pss_one (ps_ret pe_str))
    pss_nil)
  (pss_one (ps_ret (pe_op (kAdd K) (pe_op (kAdd K) pe_str (pv 1)) pe_str))))), ?_⟩
    have sz : 100000 ≤ sizeLine := by decide
    have h1 : ("[" : Str).length = 1 := by decide +kernel
    have h2 : ("]" : Str).length = 1 := by decide +kernel
    unfold prL at q
    walk_at "rc"
    walk_at "rs"
    walk_at "rc"
    refine rd_lenS (by omega) ?_
    walk_at "rc"
    refine rd_iteD (fun h => ?_) fun h => ?_
    · rw [if_pos (by omega)] at q
      walk_at "rc"
      exact q
    · rw [if_neg (by omega)] at q
      walk_at "rc"
      walk_at "rs"
      walk_at "rc"
      refine rd_iteD (fun h => ?_) fun h => ?_
      · rw [if_pos h] at q
        walk_at "rc"
        exact q
      · rw [if_neg h] at q
        walk_at "rc"
        refine rd_addS (by omega) ?_
        refine rd_addS (by rw [str_len]; omega) ?_
        exact q
def spPl : Sp := fun vs H Q _ => ∃ (p : Addr) (s : Str) (b a : Nat), vs = [.ref p, .int (a : Int)] ∧ H p = some (.tup [.str s, .int (b : Int)]) ∧ s.length + 2 ≤ sizeLine ∧ Q (.str (plc s b a)) H
theorem ok__placed : FnOk P w K mg base CX0 1 T.a__placed T.d__placed ["part", "asked"] spPl := by
  refine T.f__placed.ok sc__placed (fun vs H Q E h => ?_) (fun cdv A outer s H vs Q E hr h => ?_)
  · obtain ⟨_, _, _, _, rfl, _⟩ := h; rfl
  · obtain ⟨p, s1, b, a, rfl, hp, hs, q⟩ := h
    refine ⟨_, (pss_cons (ps_asg (pv 0) (kGt K rfl (pg_tup (n := 2) (by rfl) (pgs_cons (pg_name (i := 2) sc__placed.nd rfl (by first | exact Or.inl rfl | exact Or.inr rfl)) (pgs_cons (pg_name (i := 3) sc__placed.nd rfl (by first | exact Or.inl rfl | exact Or.inr rfl)) pgs_nil)))))
  (pss_one (ps_ret (pe_ifExp (pt_cmpR op_ltP (pv 3) (pv 1) (by first | rfl | exact nomark _)) (pe_op (kAdd K) (pe_op (kAdd K) pe_str (pv 2)) pe_str) (pv 2))))), ?_⟩
    have h1 : ("(" : Str).length = 1 := by decide +kernel
    have h2 : (")" : Str).length = 1 := by decide +kernel
    unfold plc at q
    walk_at "rc"
    refine ⟨p, _, rfl, SqT.of hp, rfl, ?_⟩
    walk_at "rc"
    refine rd_ife ?_
    walk_at "rc"
    refine rd_iteD (fun h => ?_) fun h => ?_
    · rw [if_pos (by omega)] at q
      walk_at "rc"
      refine rd_addS (by omega) ?_
      refine rd_addS (by rw [str_len]; omega) ?_
      exact q
    · rw [if_neg (by omega)] at q
      walk_at "rc"
      exact q
end
class HasD {K : PySem.W.Frag} {mg : Str → Option Value} (T : Txt K mg) (w : World) : Prop where
  d : Dcs T w
section
variable (T : Txt K mg) [DC : HasD T w]
def PrL (H : Hp) (L : Str) (E : List Pt) (us : List V) : Prop := ∀ (i : Nat) x, E[i]? = some x → ∃ a, us[i]? = some (.ref a) ∧ H a = some (.tup [.str (pr L x), .int (x.st : Int)])
def spNo : Sp := fun vs H Q _ => ∃ (L : Str) (t : Pt) (f : Fl) (q l : Addr) (E : List Pt) (us : List V), vs = [.str L, .ref q, .int (t.st : Int), .ref l] ∧ H q = some (.tup f.vs) ∧ FlOf E t f ∧ t.ok ∧ t.size ≤ 10000 ∧ H l = some (.lst us) ∧ PrL H L E us ∧ Q (.str (pr L t)) H
theorem ok__notation : FnOk P w K mg base CX0 2 T.a__notation T.d__notation ["letters", "term", "strength", "printed"] spNo := by
  refine T.f__notation.ok sc__notation (fun vs H Q E h => ?_) (fun cdv A outer s H vs Q E hr h => ?_)
  · obtain ⟨_, _, _, _, _, _, _, rfl, _⟩ := h; rfl
  · obtain ⟨L, t, f, q1, l, E1, us, rfl, hq1, hf, hk, hs, hl, hpr, q⟩ := h
    refine ⟨_, (pss_cons (ps_set (i := 4) sc__notation.nd rfl (by first | exact Or.inl rfl | exact Or.inr rfl) (pe_ix (kIx K) (pv 1) pe_int (fun _ _ => rfl)))
  (pss_cons (ps_if (pt_cmpR (kEq K rfl hr.units) (pv 4) pe_str (by first | rfl | exact nomark _))
    (pss_one (ps_ret pe_str))
    pss_nil)
  (pss_cons (ps_if (pt_cmpR (kEq K rfl hr.units) (pv 4) pe_str (by first | rfl | exact nomark _))
    (pss_one (ps_ret pe_str))
    pss_nil)
  (pss_cons (ps_if (pt_cmpR (kEq K rfl hr.units) (pv 4) pe_str (by first | rfl | exact nomark _))
    (pss_one (ps_ret (pe_callE (ok__notation_of_letters T) (hr.mono (by decide)) T.o__notation_of_letters (pa_cons (pv 0) (pa_cons (pe_ix (kIx K) (pv 1) pe_int (fun _ _ => rfl)) pa_nil)))))
    pss_nil)
  (pss_cons (ps_set (i := 5) sc__notation.nd rfl (by first | exact Or.inl rfl | exact Or.inr rfl) (pe_callE (ok__placed T) (hr.mono (by decide)) T.o__placed (pa_cons (pe_ix (kIx K) (pv 3) (pe_ix (kIx K) (pv 1) pe_int (fun _ _ => rfl)) (fun _ _ => rfl)) (pa_cons (pv 2) pa_nil))))
  (pss_cons (ps_if (pt_cmpR (kEq K rfl hr.units) (pv 4) pe_str (by first | rfl | exact nomark _))
    (pss_one (ps_ret (pe_op (kAdd K) pe_str (pv 5))))
    pss_nil)
  (pss_cons (ps_if (pt_cmpR (kEq K rfl hr.units) (pv 4) pe_str (by first | rfl | exact nomark _))
    (pss_one (ps_ret (pe_op (kAdd K) (pv 5) pe_str)))
    pss_nil)
  (pss_one (ps_ret (pe_op (kAdd K) (pe_op (kAdd K) (pv 5) (pe_ix (kIxD K w rfl rfl) (pe_globR (by rfl) T.c_SIGNS) (pv 4) (fun _ _ => rfl))) (pe_callE (ok__placed T) (hr.mono (by decide)) T.o__placed (pa_cons (pe_ix (kIx K) (pv 3) (pe_ix (kIx K) (pv 1) pe_int (fun _ _ => rfl)) (fun _ _ => rfl)) (pa_cons (pe_op (kAdd K) (pv 2) pe_int) pa_nil))))))))))))), ?_⟩
    have sz : 2000000 ≤ sizeLine := by decide
    match t, f, hf with
    | .nul k, .nul k', hf =>
      obtain rfl : k = k' := hf
      walk_at "rc"
      refine rd_ixT (SqT.of hq1) (atI_nat (j := 0) rfl) ?_
      walk_at "rc"
      walk_at "rs"
      walk_at "rc"
      refine rd_iteD (fun h => ?_) fun h => ?_
      · have e : pr L (.nul k) = "[]" := if_pos h
        rw [e] at q
        walk_at "rc"
        exact q
      · have h2 : k = "empty" := by
          rcases hk with z | z
          · exact absurd z h
          · exact z
        have e : pr L (.nul k) = "()" := if_neg h
        rw [e] at q
        walk_at "rc"
        walk_at "rs"
        walk_at "rc"
        refine rd_iteD (fun h => ?_) fun h => absurd h2 h
        walk_at "rc"
        exact q
    | .one x, .one x', hf =>
      obtain rfl : x = x' := hf
      walk_at "rc"
      refine rd_ixT (SqT.of hq1) (atI_nat (j := 0) rfl) ?_
      walk_at "rc"
      walk_at "rs"
      walk_at "rc"
      refine rd_iteD (fun h => absurd h (by decide +kernel)) fun _ => ?_
      walk_at "rc"
      walk_at "rs"
      walk_at "rc"
      refine rd_iteD (fun h => absurd h (by decide +kernel)) fun _ => ?_
      walk_at "rc"
      walk_at "rs"
      walk_at "rc"
      refine rd_iteD (fun _ => ?_) fun h => absurd rfl h
      walk_at "rc"
      refine rd_ixT (SqT.of hq1) (atI_nat (j := 1) rfl) ?_
      walk_at "rc"
      exact ⟨L, x, rfl, hk, q⟩
    | .un k a, .un k' n, hf =>
      obtain ⟨rfl, hn⟩ := hf
      obtain ⟨a1, hu, ha⟩ := hpr n a hn
      have hla := pr_len (L := L) hk.2
      have hs : a.size + 1 ≤ 10000 := hs
      have hkk := hk.1
      walk_at "rc"
      refine rd_ixT (SqT.of hq1) (atI_nat (j := 0) rfl) ?_
      walk_at "rc"
      walk_at "rs"
      walk_at "rc"
      refine rd_iteD (fun h => ?_) fun _ => ?_
      · subst h
        exact absurd hkk (by decide +kernel)
      walk_at "rc"
      walk_at "rs"
      walk_at "rc"
      refine rd_iteD (fun h => ?_) fun _ => ?_
      · subst h
        exact absurd hkk (by decide +kernel)
      walk_at "rc"
      walk_at "rs"
      walk_at "rc"
      refine rd_iteD (fun h => ?_) fun _ => ?_
      · subst h
        exact absurd hkk (by decide +kernel)
      walk_at "rc"
      refine rd_ixT (SqT.of hq1) (atI_nat (j := 1) rfl) ?_
      walk_at "rc"
      refine rd_ixL (SqL.of hl) (atI_nat hu) ?_
      walk_at "rc"
      refine ⟨a1, pr L a, a.st, (Pt.un k a).st, rfl, ha, by omega, ?_⟩
      have h1 : ("!" : Str).length = 1 := by decide +kernel
      have h2 : ("*" : Str).length = 1 := by decide +kernel
      have hp := plc_len (s := pr L a) (b := a.st) (a := (Pt.un k a).st)
      walk_at "rc"
      walk_at "rs"
      walk_at "rc"
      refine rd_iteD (fun h => ?_) fun h => ?_
      · have e : pr L (.un k a) = "!" ++ plc (pr L a) a.st (Pt.un k a).st := by
          rw [show (Pt.un k a).st = 3 from if_pos h]
          exact if_pos h
        rw [e] at q
        walk_at "rc"
        refine rd_addS (by omega) ?_
        exact q
      · have e : pr L (.un k a) = plc (pr L a) a.st (Pt.un k a).st ++ "*" := by
          rw [show (Pt.un k a).st = 4 from if_neg h]
          exact if_neg h
        have h3 : k = "star" := by
          rcases hkk with z | z
          · exact absurd z h
          · exact z
        rw [e] at q
        walk_at "rc"
        walk_at "rs"
        walk_at "rc"
        refine rd_iteD (fun h => ?_) fun h => absurd h3 h
        walk_at "rc"
        refine rd_addS (by omega) ?_
        exact q
    | .bi k a b, .bi k' n m, hf =>
      obtain ⟨rfl, hn, hm⟩ := hf
      obtain ⟨a1, hu, ha⟩ := hpr n a hn
      obtain ⟨a2, hu2, ha2⟩ := hpr m b hm
      have hla := pr_len (L := L) hk.2.1
      have hlb := pr_len (L := L) hk.2.2
      have hs : a.size + b.size + 1 ≤ 10000 := hs
      have hkk := hk.1
      walk_at "rc"
      refine rd_ixT (SqT.of hq1) (atI_nat (j := 0) rfl) ?_
      walk_at "rc"
      walk_at "rs"
      walk_at "rc"
      refine rd_iteD (fun h => ?_) fun _ => ?_
      · subst h
        exact absurd hkk (by decide +kernel)
      walk_at "rc"
      walk_at "rs"
      walk_at "rc"
      refine rd_iteD (fun h => ?_) fun _ => ?_
      · subst h
        exact absurd hkk (by decide +kernel)
      walk_at "rc"
      walk_at "rs"
      walk_at "rc"
      refine rd_iteD (fun h => ?_) fun _ => ?_
      · subst h
        exact absurd hkk (by decide +kernel)
      walk_at "rc"
      refine rd_ixT (SqT.of hq1) (atI_nat (j := 1) rfl) ?_
      walk_at "rc"
      refine rd_ixL (SqL.of hl) (atI_nat hu) ?_
      walk_at "rc"
      refine ⟨a1, pr L a, a.st, (Pt.bi k a b).st, rfl, ha, by omega, ?_⟩
      have hp := plc_len (s := pr L a) (b := a.st) (a := (Pt.bi k a b).st)
      have hp2 := plc_len (s := pr L b) (b := b.st) (a := (Pt.bi k a b).st + 1)
      have hsg := sg_len (k := k)
      walk_at "rc"
      walk_at "rs"
      walk_at "rc"
      refine rd_iteD (fun h => ?_) fun _ => ?_
      · subst h
        exact absurd hkk (by decide +kernel)
      walk_at "rc"
      walk_at "rs"
      walk_at "rc"
      refine rd_iteD (fun h => ?_) fun _ => ?_
      · subst h
        exact absurd hkk (by decide +kernel)
      have hsgn : KDct K w T.a_SIGNS k (.str (sg k)) := by
        rcases hkk with rfl | rfl | rfl
        · exact DC.d.v_SIGNS_2
        · exact DC.d.v_SIGNS_0
        · exact DC.d.v_SIGNS_1
      walk_at "rc"
      refine ⟨_, _, _, rfl, rfl, hsgn, ?_⟩
      walk_at "rc"
      refine rd_addS (by omega) ?_
      walk_at "rc"
      refine rd_ixT (SqT.of hq1) (atI_nat (j := 2) rfl) ?_
      walk_at "rc"
      refine rd_ixL (SqL.of hl) (atI_nat hu2) ?_
      walk_at "rc"
      refine ⟨a2, pr L b, b.st, (Pt.bi k a b).st + 1, rfl, ha2, by omega, ?_⟩
      refine rd_addS (by rw [str_len]; omega) ?_
      exact q
end
section
variable (T : Txt K mg) [DC : HasD T w]
theorem fl_kind {E : List Pt} : ∀ {t : Pt} {f : Fl}, FlOf E t f → ∃ tl, f.vs = .str t.kind :: tl
  | .nul k, .nul _, h => ⟨[], by rw [show k = _ from h]; rfl⟩
  | .one _, .one _, h => ⟨_, rfl⟩
  | .un _ _, .un _ n, h => ⟨[.int (n : Int)], by rw [h.1]; rfl⟩
  | .bi _ _ _, .bi _ n m, h => ⟨[.int (n : Int), .int (m : Int)], by rw [h.1]; rfl⟩
theorem st_of : ∀ {t : Pt}, t.ok → (KDct K w T.a_STRENGTHS t.kind (.int (t.st : Int))) ∨ (KMiss K w T.a_STRENGTHS t.kind ∧ t.st = 5)
  | .nul k, h => .inr ⟨by
      rcases h with h | h
      · rw [show (Pt.nul k).kind = "none" from h]; exact DC.d.m_STRENGTHS_0
      · rw [show (Pt.nul k).kind = "empty" from h]; exact DC.d.m_STRENGTHS_1, rfl⟩
  | .one _, h => .inr ⟨DC.d.m_STRENGTHS_2, rfl⟩
  | .un k a, h => .inl (by
      rcases h.1 with h | h
      · subst h; exact DC.d.v_STRENGTHS_3
      · subst h; exact DC.d.v_STRENGTHS_4)
  | .bi k a b, h => .inl (by
      rcases h.1 with h | h | h
      · subst h; exact DC.d.v_STRENGTHS_2
      · subst h; exact DC.d.v_STRENGTHS_0
      · subst h; exact DC.d.v_STRENGTHS_1)
theorem kget_join {d : Addr} {k : Str} {x : Nat} {H : Hp} (Q : VK) (o : (d == sysModules) = false) (hs : KDct K w d k (.int (x : Int)) ∨ (KMiss K w d k ∧ x = 5)) (h : Q (.int (x : Int)) H) : ∃ s, V.str k = .str s ∧ (d == sysModules) = false ∧ ((∃ v, KDct K w d s v ∧ Q v H) ∨ (KMiss K w d s ∧ Q (.int 5) H)) := by
  rcases hs with hs | ⟨hs, e⟩
  · exact ⟨k, rfl, o, .inl ⟨_, hs, h⟩⟩
  · subst e
    exact ⟨k, rfl, o, .inr ⟨hs, h⟩⟩
theorem rd_un1 {σ : L2.St} {H : Hp} {Q : VK} (h : Q (.int (-1)) H) : tUn (rU fun i => V.int (-i)) (tC (V.int 1)) σ H Q := ⟨1, rfl, h⟩
theorem rd_il {te : TE} {σ : L2.St} {H : Hp} {R : It → Hp → Prop} (h : te σ H fun x H1 => ∃ a, x = .ref a ∧ (∃ xs, SqL K H1 a xs) ∧ R (Itl K a) H1) : iList K te σ H R := h
instance cx_d {a : List Str} {b : Str} {c : Scope} {d : Addr} {e : Value} {A : Around} {o : List Env} {s : Shared} {H : Hp} {E : XK} : HasD T (cxOf CX0 P w K mg base a b c d e A o s H E).nox.w := DC
def spPrint : Sp := fun vs H Q _ => ∃ (L : Str) (t : Pt) (v : V), vs = [.str L, v] ∧ t.ok ∧ PtV H t v ∧ t.size ≤ 10000 ∧ ∀ H', Ex H H' → Q (.str (pr L t)) H'
theorem ok_print_pattern : FnOk P w K mg base CX0 3 T.a_print_pattern T.d_print_pattern ["letters", "pattern"] spPrint := by
  refine T.f_print_pattern.ok sc_print_pattern (fun vs H Q E h => ?_) (fun cdv A outer s H vs Q E hr h => ?_)
  · obtain ⟨_, _, _, rfl, _⟩ := h; rfl
  · obtain ⟨L, t, v, rfl, hk, hv, hs, q⟩ := h
    refine ⟨_, (pss_cons (ps_set (i := 2) sc_print_pattern.nd rfl (by first | exact Or.inl rfl | exact Or.inr rfl) (pe_lst pa_nil))
  (pss_cons (ps_for PassesOwn.never rfl (kAny K rfl (pe_callE (ok_flat_terms T) (hr.mono (by decide)) T.o_flat_terms (pa_cons (pv 1) pa_nil))) (pg_name (i := 3) sc_print_pattern.nd rfl (by first | exact Or.inl rfl | exact Or.inr rfl))
    (pss_cons (ps_set (i := 4) sc_print_pattern.nd rfl (by first | exact Or.inl rfl | exact Or.inr rfl) (pe_kget2 K w rfl rfl (pe_globR (by rfl) T.c_STRENGTHS) (pe_ix (kIx K) (pv 3) pe_int (fun _ _ => rfl)) (pe_globI (by rfl) T.c_STRONGEST) ⟨by rfl, by rfl, by rfl, by rfl⟩))
  (pss_one (ps_expr (kBm K rfl (pe_bm PySem.F.plainAttrs_list PySem.F.slot_list_append PySem.F.type_list_append mt_append (pv 2) (pa_cons (pe_tup (pa_cons (pe_callE (ok__notation T) (hr.mono (by decide)) T.o__notation (pa_cons (pv 0) (pa_cons (pv 3) (pa_cons (pv 4) (pa_cons (pv 2) pa_nil))))) (pa_cons (pv 4) pa_nil))) pa_nil)))))))
  (pss_one (ps_ret (pe_ix (kIx K) (pe_ix (kIx K) (pv 2) (pe_un un_neg pe_int) (fun _ _ => rfl)) pe_int (fun _ _ => rfl)))))), ?_⟩
    have sz : 100000 ≤ sizeLine := by decide
    walk_at "rc"
    refine ⟨Nat.zero_le _, fun pl hpl => ?_⟩
    walk_at "rc"
    walk_at "rs"
    refine .inl ?_
    refine rd_il ?_
    walk_at "rc"
    refine ⟨t, v, rfl, hk, PtV.kt (.new hpl) t hv, hs, fun l us E1 F H2 ex hl hfl htb hok hlast hlen => ?_⟩
    refine ⟨l, rfl, ⟨us, SqL.of hl⟩, ?_⟩
    have e2 : Ex H H2 := Evl.Ex.trans (Evl.Ex.new hpl) ex
    have hn1 := htb.n
    have hn2 := hfl.length
    refine fo_list (xs := us) (fun i σ H' => ∃ ps k3 k4, σ = [some (.str L), some v, some (.ref pl), k3, k4] ∧ Ex H H' ∧ H' l = some (.lst us) ∧ H' pl = some (.lst ps) ∧ ps.length = i ∧ FlL H' F us ∧ PrL H' L (E1.take i) ps)
      ⟨[], _, _, rfl, e2, hl, ex _ _ upd_same, rfl, hfl, fun i x h => by simp at h⟩ (fun i σ H' _ z => ?_) (fun i x σ H' hx z => ?_) fun σ H' z => ?_
    · obtain ⟨_, _, _, _, _, z, _⟩ := z
      exact SqL.of z
    · obtain ⟨ps, k3, k4, rfl, e3, h3l, h3p, hpn, hf3, hpr⟩ := z
      have hi : i < us.length := (List.getElem?_eq_some_iff.mp hx).1
      obtain ⟨f, hf⟩ : ∃ f, F[i]? = some f := ⟨_, List.getElem?_eq_getElem (by omega)⟩
      obtain ⟨t1, ht1⟩ : ∃ t1, E1[i]? = some t1 := ⟨_, List.getElem?_eq_getElem (by omega)⟩
      obtain ⟨q1, hq1, hq2⟩ := hf3.at hf
      rw [hx] at hq1
      cases hq1
      have ho := htb.fl i t1 f ht1 hf
      obtain ⟨ok1, sz1⟩ := hok t1 (List.mem_of_getElem? ht1)
      obtain ⟨tl, hk1⟩ := fl_kind ho
      walk_at "rc"
      refine rd_kget2 ?_
      walk_at "rc"
      refine ⟨_, rfl, DC.d.l_STRENGTHS, ?_⟩
      walk_at "rc"
      refine rd_ixT (SqT.of hq2) (by rw [hk1]; exact atI_nat (j := 0) rfl) ?_
      walk_at "rc"
      refine kget_join (fun v1 Hx => gName 4 v1 _ Hx _) DC.d.o_STRENGTHS (st_of T ok1) ?_
      refine rd_gn ?_
      dsimp only
      walk_at "rc"
      refine ⟨.inl ⟨rfl, _, SqL.of h3p⟩, ?_⟩
      walk_at "rc"
      have htk : ∀ (j : Nat) x, (E1.take (i + 1))[j]? = some x → (j < i ∧ (E1.take i)[j]? = some x) ∨ (j = i ∧ x = t1) := fun j x hj => by
        rw [List.getElem?_take] at hj
        split at hj
        · rcases Nat.lt_or_ge j i with h | h
          · exact .inl ⟨h, by rw [List.getElem?_take, if_pos h]; exact hj⟩
          · obtain rfl : j = i := by omega
            rw [ht1] at hj
            exact .inr ⟨rfl, (Option.some.inj hj).symm⟩
        · cases hj
      refine ⟨L, t1, f, q1, pl, E1.take i, ps, rfl, hq2, ho, ok1, by omega, h3p, hpr, ?_⟩
      walk_at "rc"
      refine ⟨by show 2 ≤ sizeLine; decide, fun r hr => ?_⟩
      walk_at "rc"
      have nr : r ≠ pl := fun z => by rw [z, h3p] at hr; cases hr
      have nlp : l ≠ pl := fun z => by
        have hh := ex pl _ upd_same
        rw [← z, hl] at hh
        have e : us = [] := by
          injection hh with hh
          injection hh
        rw [e] at hi
        exact absurd hi (Nat.not_lt_zero _)
      refine ⟨pl, _, _, rfl, rfl, by rw [upd_ne (Ne.symm nr)]; exact h3p, by omega, ?_⟩
      walk_at "rc"
      have k1 : KT H' (upd H' r (.tup [.str (pr L t1), .int (t1.st : Int)])) := .new hr
      have k2 : KT (upd H' r (.tup [.str (pr L t1), .int (t1.st : Int)])) (upd (upd H' r (.tup [.str (pr L t1), .int (t1.st : Int)])) pl (.lst (ps ++ [.ref r]))) := .putL (by rw [upd_ne (Ne.symm nr)]; exact h3p)
      refine ⟨ps ++ [.ref r], _, _, rfl, (Evl.Ex.trans e3 (Evl.Ex.new hr)).mut hpl, ?_, upd_same, by rw [List.length_append, hpn]; rfl, FlL.kt (k1.trans k2) hf3, fun j x hj => ?_⟩
      · rw [upd_ne nlp]
        exact (Evl.Ex.new hr) _ _ h3l
      · rcases htk j x hj with ⟨h1, h2⟩ | ⟨h1, h2⟩
        · obtain ⟨a, g1, g2⟩ := hpr j x h2
          exact ⟨a, by rw [List.getElem?_append_left (by omega)]; exact g1, k2 _ _ (k1 _ _ g2)⟩
        · subst h1 h2
          exact ⟨r, by rw [List.getElem?_append_right (by omega), hpn, Nat.sub_self]; rfl, k2 _ _ upd_same⟩
    · obtain ⟨ps, k3, k4, rfl, e3, h3l, h3p, hpn, hf3, hpr⟩ := z
      have hln : E1.take us.length = E1 := List.take_of_length_le (by omega)
      rw [hln] at hpr
      have hpos : 0 < E1.length := by
        cases E1 with
        | nil => cases hlast
        | cons _ _ => exact Nat.succ_pos _
      have hl2 : E1[E1.length - 1]? = some t := by rw [← List.getLast?_eq_getElem?]; exact hlast
      obtain ⟨a, g1, g2⟩ := hpr _ t hl2
      have g3 : atI ps (-1) = some (.ref a) := by
        rw [AT.atI_last (by omega)]
        have e : ps.length - 1 = E1.length - 1 := by omega
        rw [← g1, ← e, List.getElem?_eq_getElem (by omega)]
      walk_at "rc"
      refine rd_un1 ?_
      refine rd_ixL (SqL.of h3p) g3 ?_
      walk_at "rc"
      refine rd_ixT (SqT.of g2) (atI_nat (j := 0) rfl) ?_
      exact q _ e3
end
section
variable (T : Txt K mg)
def stK : List (L2.Key × V) := [(.inr "either", .int 0), (.inr "both", .int 1), (.inr "join", .int 2), (.inr "not", .int 3), (.inr "star", .int 4)]
theorem stK_at : ∀ {t : Pt}, t.ok → (valV (mergeK [] stK) (.inr t.kind)).getD (.int 5) = .int (t.st : Int)
  | .nul k, h => by
    rcases h with h | h <;> (subst h; kernel_rfl)
  | .one _, h => by kernel_rfl
  | .un k a, h => by
    rcases h.1 with h | h <;> (subst h; kernel_rfl)
  | .bi k a b, h => by
    rcases h.1 with h | h | h <;> (subst h; kernel_rfl)
def spSt : Sp := fun vs H Q _ => ∃ (t : Pt) (v : V), vs = [v] ∧ t.ok ∧ PtV H t v ∧ ∀ H', Ex H H' → Q (.int (t.st : Int)) H'
theorem ok_strength : FnOk P w K mg base CX0 1 T.a_strength T.d_strength ["pattern"] spSt := by
  refine T.f_strength.ok sc_strength (fun vs H Q E h => ?_) (fun cdv A outer s H vs Q E hr h => ?_)
  · obtain ⟨_, _, rfl, _⟩ := h; rfl
  · obtain ⟨t, v, rfl, hk, hv, q⟩ := h
    obtain ⟨a, us, rfl, h1, _⟩ := hv.at
    refine ⟨_, (pss_one (ps_ret (pe_dget2 (hu_of hr) (pe_disp (pps_cons pe_str pe_int (pps_cons pe_str pe_int (pps_cons pe_str pe_int (pps_cons pe_str pe_int (pps_cons pe_str pe_int pps_nil))))) (by rfl) (by rfl) (fun z => by cases z) (by decide)) (pe_ix (kIx K) (pv 0) pe_int (fun _ _ => rfl)) pe_int ⟨by rfl, by rfl, by rfl, by rfl⟩))), ?_⟩
    refine fun p hp => ?_
    refine ⟨upd_same, stK, rfl, by show 5 ≤ 15; decide, ?_⟩
    rw [upd_upd]
    have e1 : Ex H (upd H p (.dK (mergeK [] stK))) := Evl.Ex.new hp
    refine ⟨p, rfl, .inl ⟨_, .inl upd_same⟩, ?_⟩
    walk_at "rc"
    refine rd_ixT (SqT.of (e1 _ _ h1)) (atI_nat (j := 0) rfl) ?_
    walk_at "rc"
    refine ⟨valV (mergeK [] stK) (.inr t.kind), .inl ⟨_, .inr t.kind, .inl upd_same, rfl, rfl⟩, ?_⟩
    rw [stK_at hk]
    exact q _ e1
def Pt.dep : Pt → Nat
  | .nul _ => 0
  | .one _ => 0
  | .un _ a => a.dep + 1
  | .bi _ a b => max a.dep b.dep + 1
def spLp (d : Nat) : Sp := fun vs H Q _ => ∃ (L : Str) (t : Pt) (v : V), vs = [.str L, v] ∧ t.ok ∧ PtV H t v ∧ t.dep ≤ d ∧ t.size ≤ 10000 ∧ ∀ H', Ex H H' → Q (.str (pr L t)) H'
def spPa (d : Nat) : Sp := fun vs H Q _ => ∃ (L : Str) (t : Pt) (v : V) (a : Nat), vs = [.str L, v, .int (a : Int)] ∧ t.ok ∧ PtV H t v ∧ t.dep ≤ d ∧ t.size ≤ 10000 ∧ ∀ H', Ex H H' → Q (.str (plc (pr L t) t.st a)) H'
theorem ok_pa (d : Nat) (hP : FnOk P w K mg base CX0 (2 * d + 2) T.a_print T.d_print ["letters", "pattern"] (spLp d)) : FnOk P w K mg base CX0 (2 * d + 3) T.a_part T.d_part ["letters", "pattern", "asked"] (spPa d) := by
  refine T.f_part.ok sc_part (fun vs H Q E h => ?_) (fun cdv A outer s H vs Q E hr h => ?_)
  · obtain ⟨_, _, _, _, rfl, _⟩ := h; rfl
  · obtain ⟨L, t, v, a, rfl, hk, hv, hd, hs, q⟩ := h
    have ok_print : ∀ _ : Txt K mg, FnOk P w K mg base CX0 (2 * d + 2) T.a_print T.d_print ["letters", "pattern"] (spLp d) := fun _ => hP
    have sz : 2000000 ≤ sizeLine := by decide
    have lp := pr_len (L := L) hk
    have h1 : ("(" : Str).length = 1 := by decide +kernel
    have h2 : (")" : Str).length = 1 := by decide +kernel
    unfold plc at q
    refine ⟨_, (pss_cons (ps_set (i := 3) sc_part.nd rfl (by first | exact Or.inl rfl | exact Or.inr rfl) (pe_callE (ok_print T) (hr.mono (by omega)) T.o_print (pa_cons (pv 0) (pa_cons (pv 1) pa_nil))))
  (pss_cons (ps_if (pt_cmpR op_ltP (pe_callE (ok_strength T) (hr.mono (by omega)) T.o_strength (pa_cons (pv 1) pa_nil)) (pv 2) (by first | rfl | exact nomark _))
    (pss_one (ps_ret (pe_op (kAdd K) (pe_op (kAdd K) pe_str (pv 3)) pe_str)))
    pss_nil)
  (pss_one (ps_ret (pv 3))))), ?_⟩
    walk_at "rc"
    refine ⟨L, t, v, rfl, hk, hv, hd, hs, fun H1 e1 => ?_⟩
    walk_at "rc"
    walk_at "rs"
    walk_at "rc"
    refine ⟨t, v, rfl, hk, PtV.kt (.ex e1) t hv, fun H2 e2 => ?_⟩
    walk_at "rc"
    refine rd_iteD (fun h => ?_) fun h => ?_
    · rw [if_pos (by omega)] at q
      walk_at "rc"
      refine rd_addS (by omega) ?_
      refine rd_addS (by rw [str_len]; omega) ?_
      exact q _ (Evl.Ex.trans e1 e2)
    · rw [if_neg (by omega)] at q
      walk_at "rc"
      exact q _ (Evl.Ex.trans e1 e2)
end
local macro_rules | `(tactic| walk_at "skp") => `(tactic| (walk_at "rs"; walk_at "rc"; refine rd_iteD (fun h => absurd h (by decide +kernel)) fun _ => ?_; walk_at "rc"))
local macro_rules | `(tactic| walk_at "hit") => `(tactic| (walk_at "rs"; walk_at "rc"; refine rd_iteD (fun _ => ?_) fun h => absurd rfl h; walk_at "rc"))
section
variable (T : Txt K mg)
theorem str_nil (x : Str) : x ++ ("" : Str) = x := by
  have e : ("" : Str) = ⟨#[]⟩ := by kernel_rfl
  rw [e]
  show Str.mk (x.cps ++ #[]) = x
  rw [Array.append_empty]
theorem pr_ei {L : Str} {a b : Pt} : pr L (.bi "either" a b) = plc (pr L a) a.st 0 ++ "|" ++ plc (pr L b) b.st 1 := by
  have h1 : (Pt.bi "either" a b).st = 0 := by kernel_rfl
  have h2 : sg "either" = "|" := if_pos rfl
  show plc (pr L a) a.st (Pt.bi "either" a b).st ++ sg "either" ++ plc (pr L b) b.st ((Pt.bi "either" a b).st + 1) = _
  rw [h1, h2]
theorem pr_bo {L : Str} {a b : Pt} : pr L (.bi "both" a b) = plc (pr L a) a.st 1 ++ "&" ++ plc (pr L b) b.st 2 := by
  have h1 : (Pt.bi "both" a b).st = 1 := by kernel_rfl
  have h2 : sg "both" = "&" := (if_neg (by decide +kernel)).trans (if_pos rfl)
  show plc (pr L a) a.st (Pt.bi "both" a b).st ++ sg "both" ++ plc (pr L b) b.st ((Pt.bi "both" a b).st + 1) = _
  rw [h1, h2]
theorem pr_jn {L : Str} {a b : Pt} : pr L (.bi "join" a b) = plc (pr L a) a.st 2 ++ plc (pr L b) b.st 3 := by
  have h1 : (Pt.bi "join" a b).st = 2 := by kernel_rfl
  have h2 : sg "join" = "" := (if_neg (by decide +kernel)).trans (if_neg (by decide +kernel))
  show plc (pr L a) a.st (Pt.bi "join" a b).st ++ sg "join" ++ plc (pr L b) b.st ((Pt.bi "join" a b).st + 1) = _
  rw [h1, h2, str_nil]
theorem pr_nt {L : Str} {a : Pt} : pr L (.un "not" a) = "!" ++ plc (pr L a) a.st 3 := if_pos rfl
theorem pr_sr {L : Str} {a : Pt} : pr L (.un "star" a) = plc (pr L a) a.st 4 ++ "*" := if_neg (by decide +kernel)
theorem pr_no {L : Str} : pr L (.nul "none") = "[]" := if_pos rfl
theorem pr_em {L : Str} : pr L (.nul "empty") = "()" := if_neg (by decide +kernel)
def PX : Nat → Sp
  | 0 => fun vs H Q _ => vs.length = 3 ∧ False
  | d + 1 => spPa d
theorem ok_lp (d : Nat) (hA : FnOk P w K mg base CX0 (2 * d + 1) T.a_part T.d_part ["letters", "pattern", "asked"] (PX d)) : FnOk P w K mg base CX0 (2 * d + 2) T.a_print T.d_print ["letters", "pattern"] (spLp d) := by
  refine T.f_print.ok sc_print (fun vs H Q E h => ?_) (fun cdv A outer s H vs Q E hr h => ?_)
  · obtain ⟨_, _, _, rfl, _⟩ := h; rfl
  · obtain ⟨L, t, v, rfl, hk, hv, hd, hs, q⟩ := h
    have ok_part : ∀ _ : Txt K mg, FnOk P w K mg base CX0 (2 * d + 1) T.a_part T.d_part ["letters", "pattern", "asked"] (PX d) := fun _ => hA
    have sz : 3000000 ≤ sizeLine := by decide
    have lp := pr_len (L := L) hk
    refine ⟨_, (pss_cons (ps_set (i := 2) sc_print.nd rfl (by first | exact Or.inl rfl | exact Or.inr rfl) (pe_ix (kIx K) (pv 1) pe_int (fun _ _ => rfl)))
  (pss_cons (ps_if (pt_cmpR (kEq K rfl hr.units) (pv 2) pe_str (by first | rfl | exact nomark _))
    (pss_one (ps_ret pe_str))
    pss_nil)
  (pss_cons (ps_if (pt_cmpR (kEq K rfl hr.units) (pv 2) pe_str (by first | rfl | exact nomark _))
    (pss_one (ps_ret pe_str))
    pss_nil)
  (pss_cons (ps_if (pt_cmpR (kEq K rfl hr.units) (pv 2) pe_str (by first | rfl | exact nomark _))
    (pss_cons (ps_if (pt_cmpR (kEq K rfl hr.units) (pe_callB (kLen K) (by rfl) T.nb_len (by decide +kernel) (pa_cons (pe_ix (kIx K) (pv 1) pe_int (fun _ _ => rfl)) pa_nil)) pe_int (by first | rfl | exact nomark _))
    (pss_one (ps_ret (pe_ix (kIx K) (pv 1) pe_int (fun _ _ => rfl))))
    pss_nil)
  (pss_one (ps_ret (pe_ifExp (pt_cmpR (kEq K rfl hr.units) (pe_ix (kIx K) (pv 1) pe_int (fun _ _ => rfl)) (pv 0) (by first | rfl | exact nomark _)) pe_str (pe_op (kAdd K) (pe_op (kAdd K) pe_str (pe_ix (kIx K) (pv 1) pe_int (fun _ _ => rfl))) pe_str)))))
    pss_nil)
  (pss_cons (ps_if (pt_cmpR (kEq K rfl hr.units) (pv 2) pe_str (by first | rfl | exact nomark _))
    (pss_one (ps_ret (pe_op (kAdd K) (pe_op (kAdd K) (pe_callE (ok_part T) (hr.mono (by omega)) T.o_part (pa_cons (pv 0) (pa_cons (pe_ix (kIx K) (pv 1) pe_int (fun _ _ => rfl)) (pa_cons pe_int pa_nil)))) pe_str) (pe_callE (ok_part T) (hr.mono (by omega)) T.o_part (pa_cons (pv 0) (pa_cons (pe_ix (kIx K) (pv 1) pe_int (fun _ _ => rfl)) (pa_cons pe_int pa_nil)))))))
    pss_nil)
  (pss_cons (ps_if (pt_cmpR (kEq K rfl hr.units) (pv 2) pe_str (by first | rfl | exact nomark _))
    (pss_one (ps_ret (pe_op (kAdd K) (pe_op (kAdd K) (pe_callE (ok_part T) (hr.mono (by omega)) T.o_part (pa_cons (pv 0) (pa_cons (pe_ix (kIx K) (pv 1) pe_int (fun _ _ => rfl)) (pa_cons pe_int pa_nil)))) pe_str) (pe_callE (ok_part T) (hr.mono (by omega)) T.o_part (pa_cons (pv 0) (pa_cons (pe_ix (kIx K) (pv 1) pe_int (fun _ _ => rfl)) (pa_cons pe_int pa_nil)))))))
    pss_nil)
  (pss_cons (ps_if (pt_cmpR (kEq K rfl hr.units) (pv 2) pe_str (by first | rfl | exact nomark _))
    (pss_one (ps_ret (pe_op (kAdd K) (pe_callE (ok_part T) (hr.mono (by omega)) T.o_part (pa_cons (pv 0) (pa_cons (pe_ix (kIx K) (pv 1) pe_int (fun _ _ => rfl)) (pa_cons pe_int pa_nil)))) (pe_callE (ok_part T) (hr.mono (by omega)) T.o_part (pa_cons (pv 0) (pa_cons (pe_ix (kIx K) (pv 1) pe_int (fun _ _ => rfl)) (pa_cons pe_int pa_nil)))))))
    pss_nil)
  (pss_cons (ps_if (pt_cmpR (kEq K rfl hr.units) (pv 2) pe_str (by first | rfl | exact nomark _))
    (pss_one (ps_ret (pe_op (kAdd K) pe_str (pe_callE (ok_part T) (hr.mono (by omega)) T.o_part (pa_cons (pv 0) (pa_cons (pe_ix (kIx K) (pv 1) pe_int (fun _ _ => rfl)) (pa_cons pe_int pa_nil)))))))
    pss_nil)
  (pss_one (ps_ret (pe_op (kAdd K) (pe_callE (ok_part T) (hr.mono (by omega)) T.o_part (pa_cons (pv 0) (pa_cons (pe_ix (kIx K) (pv 1) pe_int (fun _ _ => rfl)) (pa_cons pe_int pa_nil)))) pe_str))))))))))), ?_⟩
    match t, hk, hv with
    | .nul k, hk, ⟨a, e, h1⟩ =>
      subst e
      rcases hk with hk | hk
      · subst hk
        rw [pr_no] at q
        walk_at "rc"
        refine rd_ixT (SqT.of h1) (atI_nat (j := 0) rfl) ?_
        walk_at "rc"
        walk_at "hit"
        exact q H (Evl.Ex.refl H)
      · subst hk
        rw [pr_em] at q
        walk_at "rc"
        refine rd_ixT (SqT.of h1) (atI_nat (j := 0) rfl) ?_
        walk_at "rc"
        walk_at "skp"
        walk_at "hit"
        exact q H (Evl.Ex.refl H)
    | .one x, hk, ⟨a, e, h1⟩ =>
      subst e
      have hx : x.length ≤ 100 := hk
      have q : ∀ H', Ex H H' → Q (.str (prL L x)) H' := q
      unfold prL at q
      have l1 : ("[" : Str).length = 1 := by decide +kernel
      have l2 : ("]" : Str).length = 1 := by decide +kernel
      walk_at "rc"
      refine rd_ixT (SqT.of h1) (atI_nat (j := 0) rfl) ?_
      walk_at "rc"
      walk_at "skp"
      walk_at "skp"
      walk_at "hit"
      walk_at "rs"
      walk_at "rc"
      refine rd_ixT (SqT.of h1) (atI_nat (j := 1) rfl) ?_
      walk_at "rc"
      refine rd_lenS (by omega) ?_
      walk_at "rc"
      refine rd_iteD (fun h => ?_) fun h => ?_
      · rw [if_pos (by omega)] at q
        walk_at "rc"
        refine rd_ixT (SqT.of h1) (atI_nat (j := 1) rfl) ?_
        exact q H (Evl.Ex.refl H)
      · rw [if_neg (by omega)] at q
        walk_at "rc"
        refine rd_ife ?_
        walk_at "rc"
        refine rd_ixT (SqT.of h1) (atI_nat (j := 1) rfl) ?_
        walk_at "rc"
        refine rd_iteD (fun h => ?_) fun h => ?_
        · rw [if_pos h] at q
          walk_at "rc"
          exact q H (Evl.Ex.refl H)
        · rw [if_neg h] at q
          walk_at "rc"
          refine rd_ixT (SqT.of h1) (atI_nat (j := 1) rfl) ?_
          refine rd_addS (by omega) ?_
          walk_at "rc"
          refine rd_addS (by rw [str_len]; omega) ?_
          exact q H (Evl.Ex.refl H)
    | .un k a, hk, ⟨p, u, e, h1, hu⟩ =>
      subst e
      obtain ⟨d, rfl⟩ : ∃ d', d = d' + 1 := ⟨d - 1, by have : a.dep + 1 ≤ d := hd; omega⟩
      have hd2 : a.dep ≤ d := Nat.le_of_succ_le_succ hd
      have hs : a.size + 1 ≤ 10000 := hs
      have la := pr_len (L := L) hk.2
      have l1 : ("!" : Str).length = 1 := by decide +kernel
      have l2 : ("*" : Str).length = 1 := by decide +kernel
      have p3 := plc_len (s := pr L a) (b := a.st) (a := 3)
      have p4 := plc_len (s := pr L a) (b := a.st) (a := 4)
      have hk1 := hk.1
      have hk2 := hk.2
      clear hk lp
      rcases hk1 with hk1 | hk1
      · subst hk1
        rw [pr_nt] at q
        walk_at "rc"
        refine rd_ixT (SqT.of h1) (atI_nat (j := 0) rfl) ?_
        walk_at "rc"
        walk_at "skp"
        walk_at "skp"
        walk_at "skp"
        walk_at "skp"
        walk_at "skp"
        walk_at "skp"
        walk_at "hit"
        refine rd_ixT (SqT.of h1) (atI_nat (j := 1) rfl) ?_
        walk_at "rc"
        refine ⟨L, a, u, 3, rfl, hk2, hu, hd2, by omega, fun H1 e1 => ?_⟩
        refine rd_addS (by omega) ?_
        exact q H1 e1
      · subst hk1
        rw [pr_sr] at q
        walk_at "rc"
        refine rd_ixT (SqT.of h1) (atI_nat (j := 0) rfl) ?_
        walk_at "rc"
        walk_at "skp"
        walk_at "skp"
        walk_at "skp"
        walk_at "skp"
        walk_at "skp"
        walk_at "skp"
        walk_at "skp"
        refine rd_ixT (SqT.of h1) (atI_nat (j := 1) rfl) ?_
        walk_at "rc"
        refine ⟨L, a, u, 4, rfl, hk2, hu, hd2, by omega, fun H1 e1 => ?_⟩
        walk_at "rc"
        refine rd_addS (by omega) ?_
        exact q H1 e1
    | .bi k a b, hk, ⟨p, u, x, e, h1, hu, hx⟩ =>
      subst e
      obtain ⟨d, rfl⟩ : ∃ d', d = d' + 1 := ⟨d - 1, by have : max a.dep b.dep + 1 ≤ d := hd; omega⟩
      have hd2 : max a.dep b.dep ≤ d := Nat.le_of_succ_le_succ hd
      have hs : a.size + b.size + 1 ≤ 10000 := hs
      have la := pr_len (L := L) hk.2.1
      have lb := pr_len (L := L) hk.2.2
      have l1 : ("|" : Str).length = 1 := by decide +kernel
      have l2 : ("&" : Str).length = 1 := by decide +kernel
      have hk1 := hk.1
      have hk2 := hk.2.1
      have hk3 := hk.2.2
      clear hk lp
      rcases hk1 with hk1 | hk1 | hk1
      · subst hk1
        rw [pr_jn] at q
        have p3 := plc_len (s := pr L a) (b := a.st) (a := 2)
        have p4 := plc_len (s := pr L b) (b := b.st) (a := 3)
        walk_at "rc"
        refine rd_ixT (SqT.of h1) (atI_nat (j := 0) rfl) ?_
        walk_at "rc"
        walk_at "skp"
        walk_at "skp"
        walk_at "skp"
        walk_at "skp"
        walk_at "skp"
        walk_at "hit"
        refine rd_ixT (SqT.of h1) (atI_nat (j := 1) rfl) ?_
        walk_at "rc"
        refine ⟨L, a, u, 2, rfl, hk2, hu, by omega, by omega, fun H1 e1 => ?_⟩
        walk_at "rc"
        refine rd_ixT (SqT.of (e1 _ _ h1)) (atI_nat (j := 2) rfl) ?_
        walk_at "rc"
        refine ⟨L, b, x, 3, rfl, hk3, PtV.kt (.ex e1) b hx, by omega, by omega, fun H2 e2 => ?_⟩
        refine rd_addS (by omega) ?_
        exact q H2 (Evl.Ex.trans e1 e2)
      · subst hk1
        rw [pr_ei] at q
        have p3 := plc_len (s := pr L a) (b := a.st) (a := 0)
        have p4 := plc_len (s := pr L b) (b := b.st) (a := 1)
        walk_at "rc"
        refine rd_ixT (SqT.of h1) (atI_nat (j := 0) rfl) ?_
        walk_at "rc"
        walk_at "skp"
        walk_at "skp"
        walk_at "skp"
        walk_at "hit"
        refine rd_ixT (SqT.of h1) (atI_nat (j := 1) rfl) ?_
        walk_at "rc"
        refine ⟨L, a, u, 0, rfl, hk2, hu, by omega, by omega, fun H1 e1 => ?_⟩
        walk_at "rc"
        refine rd_addS (by omega) ?_
        walk_at "rc"
        refine rd_ixT (SqT.of (e1 _ _ h1)) (atI_nat (j := 2) rfl) ?_
        walk_at "rc"
        refine ⟨L, b, x, 1, rfl, hk3, PtV.kt (.ex e1) b hx, by omega, by omega, fun H2 e2 => ?_⟩
        refine rd_addS (by rw [str_len]; omega) ?_
        exact q H2 (Evl.Ex.trans e1 e2)
      · subst hk1
        rw [pr_bo] at q
        have p3 := plc_len (s := pr L a) (b := a.st) (a := 1)
        have p4 := plc_len (s := pr L b) (b := b.st) (a := 2)
        walk_at "rc"
        refine rd_ixT (SqT.of h1) (atI_nat (j := 0) rfl) ?_
        walk_at "rc"
        walk_at "skp"
        walk_at "skp"
        walk_at "skp"
        walk_at "skp"
        walk_at "hit"
        refine rd_ixT (SqT.of h1) (atI_nat (j := 1) rfl) ?_
        walk_at "rc"
        refine ⟨L, a, u, 1, rfl, hk2, hu, by omega, by omega, fun H1 e1 => ?_⟩
        walk_at "rc"
        refine rd_addS (by omega) ?_
        walk_at "rc"
        refine rd_ixT (SqT.of (e1 _ _ h1)) (atI_nat (j := 2) rfl) ?_
        walk_at "rc"
        refine ⟨L, b, x, 2, rfl, hk3, PtV.kt (.ex e1) b hx, by omega, by omega, fun H2 e2 => ?_⟩
        refine rd_addS (by rw [str_len]; omega) ?_
        exact q H2 (Evl.Ex.trans e1 e2)
theorem ok_lps : ∀ d, FnOk P w K mg base CX0 (2 * d + 2) T.a_print T.d_print ["letters", "pattern"] (spLp d)
  | 0 => ok_lp T 0 (T.f_part.ok sc_part (fun vs H Q E h => h.1) (fun cdv A outer s H vs Q E hr h => h.2.elim))
  | d + 1 => ok_lp T (d + 1) (ok_pa T d (ok_lps d))
theorem ok_print : FnOk P w K mg base CX0 62 T.a_print T.d_print ["letters", "pattern"] (spLp 30) := ok_lps T 30
end
section
variable (T : Txt K mg)
def spLc (d : Nat) : Sp := fun vs H Q _ => ∃ (t : Pt) (v : V), vs = [v] ∧ t.ok ∧ PtV H t v ∧ t.dep ≤ d ∧ t.size ≤ 10000 ∧ ∀ H', Ex H H' → Q (.int (t.size : Int)) H'
def CXd : Nat → Sp
  | 0 => fun vs H Q _ => vs.length = 1 ∧ False
  | d + 1 => spLc d
theorem rd_inT3 {p : Addr} {x : Str} {ys : List Str} {b : Bool} {H : Hp} {Q : VK} (h : H p = some (.tup (ys.map V.str))) (hb : inV (.str x) (ys.map V.str) = b) (q : Q (.bl b) H) : oIn K (.str x) (.ref p) H Q := by
  refine .inr ⟨p, ys.map V.str, rfl, .inr (SqT.of h), rfl, ?_, ?_⟩
  · rw [List.all_eq_true]
    intro v hv
    obtain ⟨x, _, rfl⟩ := List.mem_map.mp hv
    rfl
  · rw [if_neg (by decide), hb]
    exact q
theorem sum_sizes : ∀ ts : List Pt, (ts.map fun t => (t.size : Int)).sum = ((sizes ts : Nat) : Int)
  | [] => rfl
  | t :: ts => by
    have h := sum_sizes ts
    show (t.size : Int) + (ts.map fun t => (t.size : Int)).sum = ((t.size + sizes ts : Nat) : Int)
    rw [h]
    omega
theorem dep_part : ∀ {t p : Pt}, p ∈ t.parts → p.dep + 1 ≤ t.dep
  | .nul _, p, h => by cases h
  | .one _, p, h => by cases h
  | .un _ a, p, h => by rw [List.mem_singleton.mp h]; exact Nat.le_refl _
  | .bi _ a b, p, h => by
    show p.dep + 1 ≤ max a.dep b.dep + 1
    rcases List.mem_cons.mp h with e | h
    · rw [e]; omega
    · rw [List.mem_singleton.mp h]; omega
theorem rd_it {te : TE} {σ : L2.St} {H : Hp} {R : It → Hp → Prop} (h : te σ H fun x H1 => ∃ a, x = .ref a ∧ (∃ xs, SqT K H1 a xs) ∧ R (Itt K a) H1) : iTup K te σ H R := h
theorem ok_lc (d : Nat) (hC : FnOk P w K mg base CX0 (d + 1) T.a_count T.d_count ["pattern"] (CXd d)) : FnOk P w K mg base CX0 (d + 2) T.a_count T.d_count ["pattern"] (spLc d) := by
  refine T.f_count.ok sc_count (fun vs H Q E h => ?_) (fun cdv A outer s H vs Q E hr h => ?_)
  · obtain ⟨_, _, rfl, _⟩ := h; rfl
  · obtain ⟨t, v, rfl, hk, hv, hd, hs, q⟩ := h
    obtain ⟨a, us, rfl, h1, h2⟩ := hv.at
    have ok_count : ∀ _ : Txt K mg, FnOk P w K mg base CX0 (d + 1) T.a_count T.d_count ["pattern"] (CXd d) := fun _ => hC
    have sz : 100000 ≤ sizeLine := by decide
    have hsp := t.size_parts
    have hspl := sizes_len t.parts
    refine ⟨_, (pss_cons (ps_if (pt_cmpR (kIn K) (pe_ix (kIx K) (pv 0) pe_int (fun _ _ => rfl)) (pe_tup (pa_cons pe_str (pa_cons pe_str (pa_cons pe_str pa_nil)))) (by first | rfl | exact nomark _))
    (pss_one (ps_ret pe_int))
    pss_nil)
  (pss_one (ps_ret (pe_op (kAdd K) pe_int (pe_callB (kSum K) (by rfl) T.nb_sum (by decide +kernel) (pa_cons (pe_lc (own := [("part", 1)]) (g := gName 1) (tt := tYes) (by rfl) sc_count.nd (kAny K rfl (pe_slice (kSl K) (pv 0) (po_some pe_int) po_none)) (blkOk_by (own := [("part", 1)]) (N := ["pattern", "part"]) (sc := defScope s_count) (by decide +kernel)) (fun _ _ _ _ _ => (pg_name (i := 1) sc_count.nd rfl (by first | exact Or.inl rfl | exact Or.inr rfl))) (fun _ _ _ _ _ => pts_nil) (fun _ _ _ _ _ => (pe_callE (ok_count T) (hr.mono (by omega)) T.o_count (pa_cons (pv 1) pa_nil)))) pa_nil)))))), ?_⟩
    walk_at "rc"
    walk_at "rs"
    walk_at "rc"
    refine rd_ixT (SqT.of h1) (atI_nat (j := 0) rfl) ?_
    walk_at "rc"
    refine ⟨by show 3 ≤ sizeLine; decide, fun p hp => ?_⟩
    have e1 : Ex H (upd H p (.tup [.str "none", .str "empty", .str "one"])) := Evl.Ex.new hp
    refine rd_inT3 (b := t.leaf) (ys := ["none", "empty", "one"].map fun s : String => (s : Str)) upd_same (by rw [List.map_map]; exact t.leaf_in hk) ?_
    walk_at "rc"
    cases hl : t.leaf with
    | true =>
      refine rd_iteT ?_
      walk_at "rc"
      have hz : t.parts = [] := List.isEmpty_iff.mp hl
      have e : t.size = 1 := by rw [hsp, hz]; rfl
      rw [e] at q
      exact q _ e1
    | false =>
      refine rd_iteF ?_
      have hz : t.parts ≠ [] := fun e => by unfold Pt.leaf at hl; rw [e] at hl; cases hl
      have hpl := h2 hz
      obtain ⟨d, rfl⟩ : ∃ d', d = d' + 1 := by
        obtain ⟨x, hx⟩ := List.exists_mem_of_ne_nil _ hz
        have := dep_part hx
        exact ⟨d - 1, by omega⟩
      walk_at "rc"
      refine .inr (.inl ?_)
      refine rd_it ?_
      walk_at "rc"
      refine .inr (.inr ⟨a, _, rfl, SqT.of (e1 _ _ h1), fun hw => ?_, fun _ p2 hp2 => ?_⟩)
      · have e1 := hw.1
        have e2 := HT.sIx_nat (.str t.kind :: us).length 0 1
        simp only [List.length_cons] at e1 e2
        have e3 : min 1 (us.length + 1) = 0 := e2.symm.trans e1
        omega
      rw [cut1]
      generalize hH2 : upd (upd H p (HO.tup [V.str (Str.ofString "none"), V.str (Str.ofString "empty"), V.str (Str.ofString "one")])) p2 (HO.tup us) = H2
      have e2 : Ex H H2 := by rw [← hH2]; exact Evl.Ex.trans e1 (Evl.Ex.new hp2)
      have h2p : H2 p2 = some (.tup us) := by rw [← hH2]; exact upd_same
      refine ⟨p2, rfl, ⟨us, SqT.of h2p⟩, ?_⟩
      intro L hL
      have hll := hpl.length
      refine lc_it (walk_tup (xs := us)) (fun i Hc => i ≤ us.length ∧ Ex H2 Hc ∧ Hc L = some (.lst (((t.parts.take i).map fun t => (t.size : Int)).map V.int))) ⟨Nat.zero_le _, Evl.Ex.new hL, upd_same⟩ (fun i Hc _ z => SqT.of (z.2.1 _ _ h2p)) (fun i x Hc H' hi z y => ?_) fun Hc z => ?_
      · obtain ⟨i1, e3, h3⟩ := z
        obtain ⟨rfl, hx⟩ := y
        obtain ⟨t1, ht1, hv1⟩ := hpl.at hx
        have hm := List.mem_of_getElem? ht1
        refine ⟨rfl, rd_yes ?_⟩
        refine rd_iteT ?_
        have hdp := dep_part hm
        have hsz := size_part hm
        walk_at "rc"
        refine ⟨t1, x, rfl, Pt.ok_parts hk _ hm, PtV.kt (.ex (Evl.Ex.trans e2 e3)) t1 hv1, by omega, by omega, fun H5 e5 => ?_⟩
        refine ⟨_, e5 _ _ h3, ?_, hi, (Evl.Ex.trans e3 e5).mut hL, ?_⟩
        · rw [List.length_map, List.length_map, List.length_take]
          omega
        · rw [upd_same, List.take_add_one, ht1, List.map_append, List.map_append]
          rfl
      · obtain ⟨_, e3, h3⟩ := z
        rw [← hll, List.take_length] at h3
        walk_at "rc"
        refine ⟨L, _, rfl, SqL.of h3, ?_⟩
        rw [sum_sizes]
        walk_at "rc"
        have e : (1 : Int) + ((sizes t.parts : Nat) : Int) = (t.size : Int) := by omega
        rw [e]
        exact q _ (Evl.Ex.trans e2 e3)
theorem ok_lcs : ∀ d, FnOk P w K mg base CX0 (d + 2) T.a_count T.d_count ["pattern"] (spLc d)
  | 0 => ok_lc T 0 (T.f_count.ok sc_count (fun vs H Q E h => h.1) (fun cdv A outer s H vs Q E hr h => h.2.elim))
  | d + 1 => ok_lc T (d + 1) (ok_lcs d)
theorem ok_count : FnOk P w K mg base CX0 32 T.a_count T.d_count ["pattern"] (spLc 30) := ok_lcs T 30
end
section
def dl (c : Nat) : Int := if c = 40 then 1 else if c = 41 then -1 else 0
def bal : List Nat → Int
  | [] => 0
  | c :: s => dl c + bal s
def pk : List Nat → Int
  | [] => 0
  | c :: s => max 0 (dl c + pk s)
theorem bal_app : ∀ {a b : List Nat}, bal (a ++ b) = bal a + bal b
  | [], b => by show bal b = 0 + bal b; omega
  | c :: a, b => by
    have h := bal_app (a := a) (b := b)
    show dl c + bal (a ++ b) = dl c + bal a + bal b
    omega
theorem pk_pos : ∀ s : List Nat, 0 ≤ pk s
  | [] => Int.le_refl _
  | c :: s => by show 0 ≤ max 0 (dl c + pk s); omega
theorem pk_app : ∀ {a b : List Nat}, pk (a ++ b) = max (pk a) (bal a + pk b)
  | [], b => by
    have h := pk_pos b
    show pk b = max 0 (0 + pk b)
    omega
  | c :: a, b => by
    have h := pk_app (a := a) (b := b)
    show max 0 (dl c + pk (a ++ b)) = max (max 0 (dl c + pk a)) (dl c + bal a + pk b)
    omega
theorem pk_bal : ∀ s : List Nat, bal s ≤ pk s
  | [] => Int.le_refl _
  | c :: s => by
    have h := pk_bal s
    show dl c + bal s ≤ max 0 (dl c + pk s)
    omega
theorem pk_one {s : List Nat} {c : Nat} : pk (s ++ [c]) = max (pk s) (bal s + dl c) := by
  have h := pk_app (a := s) (b := [c])
  have h2 : pk [c] = max 0 (dl c + 0) := rfl
  have h3 := pk_bal s
  omega
theorem bal_one {s : List Nat} {c : Nat} : bal (s ++ [c]) = bal s + dl c := by
  have h := bal_app (a := s) (b := [c])
  have h2 : bal [c] = dl c + 0 := rfl
  omega
theorem one40 {c : Nat} : ((⟨#[c]⟩ : Str) = "(") ↔ c = 40 := by
  have e : ("(" : Str) = ⟨#[40]⟩ := by kernel_rfl
  rw [e]
  constructor
  · intro h; injection h with h; simpa using h
  · intro h; rw [h]
theorem one41 {c : Nat} : ((⟨#[c]⟩ : Str) = ")") ↔ c = 41 := by
  have e : (")" : Str) = ⟨#[41]⟩ := by kernel_rfl
  rw [e]
  constructor
  · intro h; injection h with h; simpa using h
  · intro h; rw [h]
theorem max2 {a b : Int} : (if b > a then b else a) = max a b := by
  split <;> omega
variable (T : Txt K mg)
def spOp : Sp := fun vs H Q _ => ∃ z : Str, vs = [.str z] ∧ Q (.int (pk z.cps.toList)) H
theorem ok_open : FnOk P w K mg base CX0 1 T.a_open T.d_open ["text"] spOp := by
  refine T.f_open.ok sc_open (fun vs H Q E h => ?_) (fun cdv A outer s H vs Q E hr h => ?_)
  · obtain ⟨_, rfl, _⟩ := h; rfl
  · obtain ⟨z, rfl, q⟩ := h
    refine ⟨_, (pss_cons (ps_set (i := 1) sc_open.nd rfl (by first | exact Or.inl rfl | exact Or.inr rfl) pe_int)
  (pss_cons (ps_set (i := 2) sc_open.nd rfl (by first | exact Or.inl rfl | exact Or.inr rfl) pe_int)
  (pss_cons (ps_for PassesOwn.never rfl (kAny K rfl (pv 0)) (pg_name (i := 3) sc_open.nd rfl (by first | exact Or.inl rfl | exact Or.inr rfl))
    (pss_cons (ps_if (pt_cmpR (kEq K rfl hr.units) (pv 3) pe_str (by first | rfl | exact nomark _))
    (pss_one (ps_set (i := 2) sc_open.nd rfl (by first | exact Or.inl rfl | exact Or.inr rfl) (pe_op (kAdd K) (pv 2) pe_int)))
    pss_nil)
  (pss_cons (ps_if (pt_cmpR (kEq K rfl hr.units) (pv 3) pe_str (by first | rfl | exact nomark _))
    (pss_one (ps_set (i := 2) sc_open.nd rfl (by first | exact Or.inl rfl | exact Or.inr rfl) (pe_op op_subP (pv 2) pe_int)))
    pss_nil)
  (pss_one (ps_set (i := 1) sc_open.nd rfl (by first | exact Or.inl rfl | exact Or.inr rfl) (pe_callB (call_max2 (by rfl)) (by rfl) T.nb_max (by decide +kernel) (pa_cons (pv 1) (pa_cons (pv 2) pa_nil))))))))
  (pss_one (ps_ret (pv 1)))))), ?_⟩
    walk_at "rc"
    walk_at "rs"
    refine .inr (.inr ?_)
    refine ⟨_, rfl, z, rfl, ?_⟩
    refine fo_str (z := z) (fun i σ H' => ∃ k3, σ = [some (.str z), some (.int (pk (z.cps.toList.take i))), some (.int (bal (z.cps.toList.take i))), k3] ∧ H' = H) ⟨_, rfl, rfl⟩ (fun i c σ H' hc y => ?_) fun σ H' y => ?_
    · obtain ⟨k3, rfl, rfl⟩ := y
      have ht : z.cps.toList.take (i + 1) = z.cps.toList.take i ++ [c] := by rw [List.take_add_one, hc]; rfl
      rw [ht, pk_one, bal_one]
      walk_at "rc"
      walk_at "rs"
      walk_at "rc"
      refine rd_iteD (fun h => ?_) fun h => ?_
      · have hc' := one40.mp h
        have hd : dl c = 1 := by rw [hc']; rfl
        walk_at "rc"
        walk_at "rs"
        walk_at "rc"
        refine rd_iteD (fun h => ?_) fun h => ?_
        · have := one41.mp h
          omega
        walk_at "rc"
        refine ⟨_, _, rfl, ?_⟩
        walk_at "rc"
        rw [hd, max2]
        exact ⟨_, rfl, rfl⟩
      · have hc' : ¬ c = 40 := fun e => h (one40.mpr e)
        walk_at "rc"
        walk_at "rs"
        walk_at "rc"
        refine rd_iteD (fun h => ?_) fun h => ?_
        · have hc2 := one41.mp h
          have hd : dl c = -1 := by rw [hc2]; rfl
          walk_at "rc"
          refine ⟨_, _, rfl, ?_⟩
          walk_at "rc"
          rw [hd, max2]
          exact ⟨_, rfl, rfl⟩
        · have hc2 : ¬ c = 41 := fun e => h (one41.mpr e)
          have hd : dl c = 0 := by unfold dl; rw [if_neg hc', if_neg hc2]
          walk_at "rc"
          refine ⟨_, _, rfl, ?_⟩
          walk_at "rc"
          rw [hd, max2, Int.add_zero]
          exact ⟨_, rfl, rfl⟩
    · obtain ⟨k3, rfl, rfl⟩ := y
      have hl : z.cps.toList.take z.length = z.cps.toList := List.take_of_length_le (by rw [Array.length_toList]; exact Nat.le_refl _)
      rw [hl]
      walk_at "rc"
      exact q
end
section
theorem kept_sel {xs : List Nat} (nd : xs.Nodup) (p : Nat → Bool) : xs.filter (fun c => decide (c ∈ ((List.range xs.length).filter p).map fun j => xs.getD j 0)) = ((List.range xs.length).filter p).map fun j => xs.getD j 0 := by
  have h := getD_range xs 0 (fun c => decide (c ∈ ((List.range xs.length).filter p).map fun j => xs.getD j 0)) (fun c => c)
  rw [List.map_id'] at h
  rw [← h]
  congr 1
  refine List.filter_congr fun j hj => ?_
  have hj := List.mem_range.mp hj
  cases hp : p j with
  | false =>
    refine decide_eq_false fun hm => ?_
    obtain ⟨j', h1, h2⟩ := List.mem_map.mp hm
    obtain ⟨h3, h4⟩ := List.mem_filter.mp h1
    have h5 := List.mem_range.mp h3
    rw [List.getD_eq_getElem?_getD, List.getD_eq_getElem?_getD, List.getElem?_eq_getElem h5, List.getElem?_eq_getElem hj, Option.getD_some, Option.getD_some] at h2
    have e := (List.getElem_inj nd).mp h2
    subst e
    rw [hp] at h4
    cases h4
  | true => exact decide_eq_true (List.mem_map.mpr ⟨j, List.mem_filter.mpr ⟨List.mem_range.mpr hj, hp⟩, rfl⟩)
/-- letters kept, in their order -/
def KpS (L s : Str) : Prop := 0 < s.length ∧ keptS L s.cps.toList false = s
theorem kps_sel {L s : Str} {p : Nat → Bool} (nd : L.cps.toList.Nodup) (hs : s.cps.toList = ((List.range L.cps.toList.length).filter p).map fun j => L.cps.toList.getD j 0) (h0 : 0 < s.length) : KpS L s := by
  refine ⟨h0, toL_ext ?_⟩
  show (L.cps.toList.filter fun c => decide (c ∈ s.cps.toList) != false) = s.cps.toList
  rw [hs]
  rw [← kept_sel nd p]
  refine List.filter_congr fun c _ => ?_
  rw [kept_sel nd p]
  exact Bool.xor_false _
theorem range_first : ∀ n : Nat, 0 < n → (List.range n).filter (fun j => decide (j = 0)) = [0]
  | n + 1, _ => by
    rw [List.range_succ_eq_map, List.filter_cons_of_pos (by decide), List.filter_map]
    have e : (List.range n).filter ((fun j => decide (j = 0)) ∘ Nat.succ) = [] := List.filter_eq_nil_iff.mpr fun j _ => by simp
    rw [e]
    rfl
theorem kps_first {L : Str} {c : Nat} (nd : L.cps.toList.Nodup) (hc : L.cps.toList[0]? = some c) : KpS L ⟨#[c]⟩ := by
  have hl := (List.getElem?_eq_some_iff.mp hc).1
  refine kps_sel (p := fun j => decide (j = 0)) nd ?_ Nat.one_pos
  rw [range_first _ hl]
  show [c] = [L.cps.toList.getD 0 0]
  rw [List.getD_eq_getElem?_getD, hc]
  rfl
def LP (L : Str) : Pt → Prop
  | .nul k => k = "none" ∨ k = "empty"
  | .one s => KpS L s
  | .un k a => (k = "not" ∨ k = "star") ∧ LP L a
  | .bi k a b => (k = "join" ∨ k = "either" ∨ k = "both") ∧ LP L a ∧ LP L b
theorem KpS.len {L s : Str} (h : KpS L s) : s.length ≤ L.length := by
  rw [← h.2]
  show (keptS L s.cps.toList false).cps.toList.length ≤ L.cps.toList.length
  exact List.length_filter_le _ _
theorem LP.ok {L : Str} (hL : L.length ≤ 100) : ∀ {t : Pt}, LP L t → t.ok
  | .nul _, h => h
  | .one s, h => Nat.le_trans (KpS.len h) hL
  | .un _ a, h => ⟨h.1, LP.ok hL h.2⟩
  | .bi _ a b, h => ⟨h.1, LP.ok hL h.2.1, LP.ok hL h.2.2⟩
theorem Dr.kt {p : Addr} {H H' : Hp} (d : Dr p H H') (hS : StAt H p) : KT H H' := fun b xs e => by
  obtain ⟨l, ns, pl, h1, _⟩ := hS
  refine d.old b _ (fun z => ?_) e
  rw [z, h1] at e
  cases e
end
section
variable (T : Txt K mg)
def spLpt (d : Nat) : Sp := fun vs H Q _ => ∃ (p : Addr) (L : Str), vs = [.str L, .ref p, .int (d : Int)] ∧ Alpha L 3 ∧ StAt H p ∧ ∀ v t H', PtV H' t v → LP L t → t.dep ≤ d → t.size + 1 ≤ 2 ^ (d + 1) → Dr p H H' → Q v H'
def PXp : Nat → Sp
  | 0 => fun vs H Q _ => vs.length = 3 ∧ False
  | d + 1 => spLpt d
theorem ok_pt (d : Nat) (d6 : d ≤ 6) (hP : FnOk P w K mg base CX0 (d + 1) T.a_pattern T.d_pattern ["letters", "state", "deep"] (PXp d)) : FnOk P w K mg base CX0 (d + 2) T.a_pattern T.d_pattern ["letters", "state", "deep"] (spLpt d) := by
  refine T.f_pattern.ok sc_pattern (fun vs H Q E h => ?_) (fun cdv A outer s H vs Q E hr h => ?_)
  · obtain ⟨_, _, rfl, _⟩ := h; rfl
  · obtain ⟨p, L, rfl, al, hS, q⟩ := h
    have ok_pattern : ∀ _ : Txt K mg, FnOk P w K mg base CX0 (d + 1) T.a_pattern T.d_pattern ["letters", "state", "deep"] (PXp d) := fun _ => hP
    have sz : 100000 ≤ sizeLine := by decide
    have ll := al.l1
    have l0 := al.l0
    have lz : L.length ≤ sizeLine := by omega
    have d2 : 2 ≤ 2 ^ (d + 1) := by
      have := Nat.one_le_two_pow (n := d)
      rw [Nat.pow_succ]; omega
    refine ⟨_, (pss_cons (ps_set (i := 3) sc_pattern.nd rfl (by first | exact Or.inl rfl | exact Or.inr rfl) (pe_callE (ok_next T) (hr.mono (by omega)) T.o_next (pa_cons (pv 1) (pa_cons pe_int pa_nil))))
  (pss_cons (ps_if (PW.pt (pw_or (pt_cmpR (kEq K rfl hr.units) (pv 2) pe_int (by first | rfl | exact nomark _)) (pw_or1 (pt_cmpR op_ltP (pv 3) pe_int (by first | rfl | exact nomark _)))))
    (pss_cons (ps_set (i := 4) sc_pattern.nd rfl (by first | exact Or.inl rfl | exact Or.inr rfl) (pe_callE (ok_next T) (hr.mono (by omega)) T.o_next (pa_cons (pv 1) (pa_cons pe_int pa_nil))))
  (pss_cons (ps_if (pt_cmpR op_ltP (pv 4) pe_int (by first | rfl | exact nomark _))
    (pss_one (ps_ret (pe_ix (kIx K) (pe_lst (pa_cons (pe_tup (pa_cons pe_str pa_nil)) (pa_cons (pe_tup (pa_cons pe_str pa_nil)) pa_nil))) (pv 4) (fun _ _ => rfl))))
    pss_nil)
  (pss_cons (ps_set (i := 5) sc_pattern.nd rfl (by first | exact Or.inl rfl | exact Or.inr rfl) (pe_op (kAdd K) pe_int (pe_callE (ok_next T) (hr.mono (by omega)) T.o_next (pa_cons (pv 1) (pa_cons pe_int pa_nil)))))
  (pss_cons (ps_set (i := 6) sc_pattern.nd rfl (by first | exact Or.inl rfl | exact Or.inr rfl) (kBm K rfl (pe_bm PySem.F.plainAttrs_str PySem.F.slot_str_join PySem.F.type_str_join (kJoin K) pe_str (pa_cons (pe_lc (own := [("k", 7)]) (g := gName 7)  (by rfl) sc_pattern.nd (pi_range1 (by rfl) T.nb_range (pa_cons (pe_callB (kLen K) (by rfl) T.nb_len (by decide +kernel) (pa_cons (pv 0) pa_nil)) pa_nil)) (blkOk_by (own := [("k", 7)]) (N := ["letters", "state", "deep", "kind", "pick", "bits", "kept", "k", "first", "word"]) (sc := defScope s_pattern) (by decide +kernel)) (fun _ _ _ _ _ => (pg_name (i := 7) sc_pattern.nd rfl (by first | exact Or.inl rfl | exact Or.inr rfl))) (fun _ _ _ _ _ => (pts_one (pt_cmpR (kEq K rfl hr.units) (pe_op op_modP (pe_op op_divP (pv 5) (pe_ix (kIx K) (pe_lst (pa_cons pe_int (pa_cons pe_int (pa_cons pe_int pa_nil)))) (pe_op op_modP (pv 7) pe_int) (fun _ _ => rfl))) pe_int) pe_int (by first | rfl | exact nomark _)))) (fun _ _ _ _ _ => (pe_ix (kIx K) (pv 0) (pv 7) (fun _ _ => rfl)))) pa_nil))))
  (pss_cons (ps_if (pt_cmpR (kEq K rfl hr.units) (pv 6) pe_str (by first | rfl | exact nomark _))
    (pss_one (ps_set (i := 6) sc_pattern.nd rfl (by first | exact Or.inl rfl | exact Or.inr rfl) (pe_ix (kIx K) (pv 0) pe_int (fun _ _ => rfl))))
    pss_nil)
  (pss_one (ps_ret (pe_tup (pa_cons pe_str (pa_cons (pv 6) pa_nil))))))))))
    pss_nil)
  (pss_cons (ps_set (i := 8) sc_pattern.nd rfl (by first | exact Or.inl rfl | exact Or.inr rfl) (pe_callE (ok_pattern T) (hr.mono (by omega)) T.o_pattern (pa_cons (pv 0) (pa_cons (pv 1) (pa_cons (pe_op op_subP (pv 2) pe_int) pa_nil)))))
  (pss_cons (ps_if (pt_cmpR (kEq K rfl hr.units) (pv 3) pe_int (by first | rfl | exact nomark _))
    (pss_one (ps_ret (pe_tup (pa_cons pe_str (pa_cons (pv 8) pa_nil)))))
    pss_nil)
  (pss_cons (ps_if (pt_cmpR (kEq K rfl hr.units) (pv 3) pe_int (by first | rfl | exact nomark _))
    (pss_one (ps_ret (pe_tup (pa_cons pe_str (pa_cons (pv 8) pa_nil)))))
    pss_nil)
  (pss_cons (ps_set (i := 9) sc_pattern.nd rfl (by first | exact Or.inl rfl | exact Or.inr rfl) (pe_ix (kIx K) (pe_lst (pa_cons pe_str (pa_cons pe_str (pa_cons pe_str (pa_cons pe_str pa_nil))))) (pe_op op_subP (pv 3) pe_int) (fun _ _ => rfl)))
  (pss_one (ps_ret (pe_tup (pa_cons (pv 9) (pa_cons (pv 8) (pa_cons (pe_callE (ok_pattern T) (hr.mono (by omega)) T.o_pattern (pa_cons (pv 0) (pa_cons (pv 1) (pa_cons (pe_op op_subP (pv 2) pe_int) pa_nil)))) pa_nil)))))))))))), ?_⟩
    walk_at "rc"
    refine ⟨p, 9, rfl, by decide, hS, fun r H1 r0 r1 S1 o1 i1 => ?_⟩
    have d1 : Dr p H H1 := ⟨S1, o1, i1.2⟩
    refine rd_gn ?_
    dsimp only
    walk_at "rs"
    refine rd_tcut (decide ((d : Int) = 0) || decide (r < 3)) (fun Q' hQ => ?_) ?_
    · walk_at "rc"
      refine rd_ite (fun h => ?_) fun h => ?_
      · rw [h] at hQ
        exact hQ
      · rw [h, Bool.false_or] at hQ
        walk_at "rc"
        exact hQ
    refine rd_ite (fun hc => ?_) fun hc => ?_
    · walk_at "rc"
      refine ⟨p, 8, rfl, by decide, d1.st, fun r2 H2 r20 r21 S2 o2 i2 => ?_⟩
      have d2' := d1.trans ⟨S2, o2, i2.2⟩
      walk_at "rc"
      walk_at "rs"
      walk_at "rc"
      refine rd_iteD (fun h => ?_) fun h => ?_
      · walk_at "rc"
        refine ⟨by show 1 ≤ sizeLine; decide, fun t1 ht1 => ?_⟩
        walk_at "rc"
        refine ⟨by show 1 ≤ sizeLine; decide, fun t2 ht2 => ?_⟩
        walk_at "rc"
        refine ⟨by show 2 ≤ sizeLine; decide, fun l3 hl3 => ?_⟩
        walk_at "rc"
        have e1 := Evl.Ex.new (o := .tup [.str (Str.ofString "none")]) ht1
        have e2 := Evl.Ex.new (o := .tup [.str (Str.ofString "empty")]) ht2
        have e3 := Evl.Ex.new (o := .lst [V.ref t1, V.ref t2]) hl3
        have dd := ((d2'.ex e1).ex e2).ex e3
        have g1 := e3 _ _ (e2 _ _ upd_same)
        have g2 := e3 _ _ upd_same
        have hr2 : r2 = 0 ∨ r2 = 1 := by omega
        rcases hr2 with rfl | rfl
        · refine rd_ixL (SqL.of upd_same) (atI_nat (j := 0) rfl) ?_
          exact q _ (.nul "none") _ ⟨t1, rfl, g1⟩ (.inl rfl) (Nat.zero_le _) d2 dd
        · refine rd_ixL (SqL.of upd_same) (atI_nat (j := 1) rfl) ?_
          exact q _ (.nul "empty") _ ⟨t2, rfl, g2⟩ (.inr rfl) (Nat.zero_le _) d2 dd
      walk_at "rc"
      refine ⟨p, 7, rfl, by decide, d2'.st, fun r3 H3 r30 r31 S3 o3 i3 => ?_⟩
      have d3 := d2'.trans ⟨S3, o3, i3.2⟩
      walk_at "rc"
      refine ⟨rfl, ?_⟩
      walk_at "rc"
      refine rd_lenS lz ?_
      walk_at "rc"
      refine ⟨_, rfl, by omega, by omega, ?_⟩
      refine lc_F (K := K) (S := []) (P := fun i x => x = V.int (i : Nat)) tr_ex (fun b hb => nomatch hb) walk_range0 rng_Y (by omega) (fun _ _ => True.intro) (fun j => decide (((1 + r3).fdiv ([1, 2, 4].getD j 1)).fmod 2 = 1)) (fun j => .str ⟨#[L.cps.toList.getD j 0]⟩) (hg_name fun v => rfl) (fun l j σ2 Hc hj p2 hl nl ec _ _ N hN => ?_) (fun l j σ2 Hc hj p2 hp hl nl ec _ _ N hN => ?_) fun l us Hc ec hl nl hus hds => ?_
      · obtain ⟨x, rfl, rfl⟩ := p2
        have hj3 : j = 0 ∨ j = 1 ∨ j = 2 := by omega
        walk_at "rc"
        refine ⟨by show 3 ≤ sizeLine; decide, fun l2 hl2 => ?_⟩
        walk_at "rc"
        refine rd_modI (by decide) ?_
        rcases hj3 with rfl | rfl | rfl
        · refine rd_ixL (SqL.of upd_same) (atI_nat (j := 0) rfl) ?_
          refine rd_divI ⟨by decide, by decide⟩ ?_
          walk_at "rc"
          refine rd_modI (by decide) ?_
          walk_at "rc"
          exact hN _ (Evl.Ex.new hl2)
        · refine rd_ixL (SqL.of upd_same) (atI_nat (j := 1) rfl) ?_
          refine rd_divI ⟨by decide, by decide⟩ ?_
          walk_at "rc"
          refine rd_modI (by decide) ?_
          walk_at "rc"
          exact hN _ (Evl.Ex.new hl2)
        · refine rd_ixL (SqL.of upd_same) (atI_nat (j := 2) rfl) ?_
          refine rd_divI ⟨by decide, by decide⟩ ?_
          walk_at "rc"
          refine rd_modI (by decide) ?_
          walk_at "rc"
          exact hN _ (Evl.Ex.new hl2)
      · obtain ⟨x, rfl, rfl⟩ := p2
        have hj3 : j < L.cps.toList.length := by show j < L.length; omega
        walk_at "rc"
        refine rd_ixS lz (atI_nat (List.getElem?_eq_getElem hj3)) ?_
        refine hN _ Hc (Evl.Ex.refl _) ?_
        rw [List.getD_eq_getElem?_getD, List.getElem?_eq_getElem hj3]
        exact .str _
      · have hnn : ((L.length : Nat) : Int).toNat = L.cps.toList.length := Int.toNat_natCast _
        rw [hnn] at hds
        generalize hp : (fun j => decide (((1 + r3).fdiv ([1, 2, 4].getD j 1)).fmod 2 = 1)) = pb at hds
        have eds : ((List.range L.cps.toList.length).filter pb).map (fun j => PyData.str ⟨#[L.cps.toList.getD j 0]⟩) = (((((List.range L.cps.toList.length).filter pb).map fun j => L.cps.toList.getD j 0).map fun c => (⟨#[c]⟩ : Str)).map PyData.str) := by
          rw [List.map_map, List.map_map]; rfl
        have hds := eds ▸ hds
        have eu := dp_strs hds
        subst eu
        have lf : (((List.range L.cps.toList.length).filter pb).map fun j => L.cps.toList.getD j 0).length ≤ 100 := by
          rw [List.length_map]
          refine Nat.le_trans (List.length_filter_le _ _) ?_
          rw [List.length_range]
          show L.length ≤ 100
          omega
        have e0 : (Str.ofString "").length = 0 := by decide +kernel
        walk_at "rc"
        refine ⟨"", l, _, rfl, rfl, .inl (SqL.of hus), ?_, ?_⟩
        · have lf2 := lf
          simp only [List.length_map] at lf2
          rw [sum_signs, e0, Nat.mul_zero]
          simp only [List.length_map]
          omega
        have et := join_signs (((List.range L.cps.toList.length).filter pb).map fun j => L.cps.toList.getD j 0)
        generalize Txt.join "" ((((List.range L.cps.toList.length).filter pb).map fun j => L.cps.toList.getD j 0).map fun c => (⟨#[c]⟩ : Str)) = sk at et
        have d4 := d3.ex ec
        obtain ⟨c0, hc0⟩ : ∃ c, L.cps.toList[0]? = some c := ⟨_, List.getElem?_eq_getElem (by show 0 < L.length; omega)⟩
        have fin : ∀ (s' : Str), KpS L s' → ∀ a, Hc a = none → Q (.ref a) (upd Hc a (.tup [.str (Str.ofString "one"), .str s'])) := fun s' hk a ha => by
          have ea := Evl.Ex.new (o := .tup [.str (Str.ofString "one"), .str s']) ha
          exact q _ (.one s') _ ⟨a, rfl, upd_same⟩ hk (Nat.zero_le _) d2 (d4.ex ea)
        refine rd_gn ?_
        dsimp only
        walk_at "rs"
        walk_at "rc"
        refine rd_iteD (fun h => ?_) fun h => ?_
        · walk_at "rc"
          refine rd_ixS lz (atI_nat (j := 0) hc0) ?_
          walk_at "rc"
          exact ⟨by show 2 ≤ sizeLine; decide, fun a ha => fin _ (kps_first al.nd hc0) a ha⟩
        · have h0 : 0 < sk.length := by
            refine Nat.pos_of_ne_zero fun z => h (toL_ext ?_)
            have e1 : sk.cps.toList = [] := List.length_eq_zero_iff.mp z
            rw [e1]
            decide +kernel
          walk_at "rc"
          exact ⟨by show 2 ≤ sizeLine; decide, fun a ha => fin _ (kps_sel al.nd et h0) a ha⟩
    · have hd0 : d ≠ 0 := fun z => by subst z; cases hc
      obtain ⟨d, rfl⟩ : ∃ d', d = d' + 1 := ⟨d - 1, by omega⟩
      have hr3 : ¬ r < 3 := fun z => by rw [decide_eq_true z, Bool.or_true] at hc; cases hc
      have e1 : ((d + 1 : Nat) : Int) - 1 = (d : Int) := by omega
      have hpow : 2 ^ (d + 1 + 1) = 2 ^ (d + 1) * 2 := Nat.pow_succ ..
      walk_at "rc"
      rw [e1]
      refine ⟨p, L, rfl, al, d1.st, fun v1 t1 H2 hv1 lp1 dp1 sz1 dr1 => ?_⟩
      have dd2 := d1.trans dr1
      walk_at "rc"
      walk_at "rs"
      walk_at "rc"
      refine rd_iteD (fun h => ?_) fun h => ?_
      · walk_at "rc"
        refine ⟨by show 2 ≤ sizeLine; decide, fun a ha => ?_⟩
        have ea := Evl.Ex.new (o := .tup [.str (Str.ofString "not"), v1]) ha
        exact q _ (.un "not" t1) _ ⟨a, v1, rfl, upd_same, PtV.kt (.ex ea) t1 hv1⟩ ⟨.inl rfl, lp1⟩ (Nat.succ_le_succ dp1) (by show t1.size + 1 + 1 ≤ _; omega) (dd2.ex ea)
      walk_at "rc"
      walk_at "rs"
      walk_at "rc"
      refine rd_iteD (fun h2 => ?_) fun h2 => ?_
      · walk_at "rc"
        refine ⟨by show 2 ≤ sizeLine; decide, fun a ha => ?_⟩
        have ea := Evl.Ex.new (o := .tup [.str (Str.ofString "star"), v1]) ha
        exact q _ (.un "star" t1) _ ⟨a, v1, rfl, upd_same, PtV.kt (.ex ea) t1 hv1⟩ ⟨.inr rfl, lp1⟩ (Nat.succ_le_succ dp1) (by show t1.size + 1 + 1 ≤ _; omega) (dd2.ex ea)
      walk_at "rc"
      refine ⟨by show 4 ≤ sizeLine; decide, fun wl hwl => ?_⟩
      have ew := Evl.Ex.new (o := .lst [V.str (Str.ofString "join"), V.str (Str.ofString "join"), V.str (Str.ofString "either"), V.str (Str.ofString "both")]) hwl
      walk_at "rc"
      have hw : ∃ k : Str, (k = "join" ∨ k = "either" ∨ k = "both") ∧ atI [V.str (Str.ofString "join"), V.str (Str.ofString "join"), V.str (Str.ofString "either"), V.str (Str.ofString "both")] (r - 3) = some (.str k) := by
        have hr4 : r = 3 ∨ r = 4 ∨ r = 5 ∨ r = 6 := by omega
        rcases hr4 with rfl | rfl | rfl | rfl
        · exact ⟨_, .inl rfl, atI_nat (j := 0) rfl⟩
        · exact ⟨_, .inl rfl, atI_nat (j := 1) rfl⟩
        · exact ⟨_, .inr (.inl rfl), atI_nat (j := 2) rfl⟩
        · exact ⟨_, .inr (.inr rfl), atI_nat (j := 3) rfl⟩
      obtain ⟨k, hk, hat⟩ := hw
      refine rd_ixL (SqL.of upd_same) hat ?_
      walk_at "rc"
      rw [e1]
      refine ⟨p, L, rfl, al, (dd2.ex ew).st, fun v2 t2 H4 hv2 lp2 dp2 sz2 dr2 => ?_⟩
      have dd4 := (dd2.ex ew).trans dr2
      walk_at "rc"
      refine ⟨by show 3 ≤ sizeLine; decide, fun a ha => ?_⟩
      have ea := Evl.Ex.new (o := .tup [.str k, v1, v2]) ha
      exact q _ (.bi k t1 t2) _ ⟨a, v1, v2, rfl, upd_same, PtV.kt (((KT.ex ew).trans (dr2.kt (dd2.ex ew).st)).trans (.ex ea)) t1 hv1, PtV.kt (.ex ea) t2 hv2⟩ ⟨hk, lp1, lp2⟩ (by show max t1.dep t2.dep + 1 ≤ _; omega) (by show t1.size + t2.size + 1 + 1 ≤ _; omega) (dd4.ex ea)
theorem ok_pts : ∀ d, d ≤ 6 → FnOk P w K mg base CX0 (d + 2) T.a_pattern T.d_pattern ["letters", "state", "deep"] (spLpt d)
  | 0, h => ok_pt T 0 h (T.f_pattern.ok sc_pattern (fun vs H Q E h => h.1) (fun cdv A outer s H vs Q E hr h => h.2.elim))
  | d + 1, h => ok_pt T (d + 1) h (ok_pts d (by omega))
theorem FnOk.exd {CX : CXT} {k : Nat} {f : Addr} {fd : FuncData} {ps : List Str} {sp : Nat → Sp} {n : Nat} (F : ∀ d, d ≤ n → FnOk P w K mg base CX k f fd ps (sp d)) : FnOk P w K mg base CX k f fd ps (fun vs H Q E => ∃ d, d ≤ n ∧ sp d vs H Q E) :=
  ⟨fun vs H Q E ⟨d, h, q⟩ => (F d h).len vs H Q E q, fun A outer s H args us vs Q E hr he hb hv ⟨d, h, q⟩ => (F d h).run A outer s H args us vs Q E hr he hb hv q⟩
theorem ok_pattern : FnOk P w K mg base CX0 8 T.a_pattern T.d_pattern ["letters", "state", "deep"] (fun vs H Q E => ∃ d, d ≤ 6 ∧ spLpt d vs H Q E) := FnOk.exd fun d hd => (ok_pts T d hd).mono (by omega)
end
section
variable {L : Str}
theorem CntP.mono {d e : Nat} {s : List Nat} {x : TN} (h : CntP L d s x) (k : d ≤ e) : CntP L e s x := ⟨h.hd, fun z p b hb => h.rd z p b (Nat.le_trans k hb)⟩
theorem UnP.mono {d e : Nat} {s : List Nat} {x : TN} (h : UnP L d s x) (k : d ≤ e) : UnP L e s x := ⟨h.hd, fun z p b hb => h.rd z p b (Nat.le_trans k hb)⟩
theorem RowQ.mono {d e : Nat} {s : List Nat} {x : TN} (h : RowQ L d s x) (k : d ≤ e) : RowQ L e s x := ⟨h.hd, fun z p b hb => h.rd z p b (Nat.le_trans k hb)⟩
theorem MeP.mono {d e : Nat} {s : List Nat} {x : TN} (h : MeP L d s x) (k : d ≤ e) : MeP L e s x := fun z p b hb => h z p b (Nat.le_trans k hb)
theorem WhP.mono {d e : Nat} {s : List Nat} {x : TN} (h : WhP L d s x) (k : d ≤ e) : WhP L e s x := fun z p b hb => h z p b (Nat.le_trans k hb)
/-- read as one of strength n -/
def Lv (L : Str) : Nat → Nat → List Nat → TN → Prop
  | 0 => WhP L
  | 1 => MeP L
  | 2 => RowQ L
  | 3 => UnP L
  | 4 => CntP L
  | _ + 5 => SimP L
theorem Lv.mono {d e : Nat} {s : List Nat} {x : TN} : ∀ {n : Nat}, Lv L n d s x → d ≤ e → Lv L n e s x
  | 0, h, k => WhP.mono h k
  | 1, h, k => MeP.mono h k
  | 2, h, k => RowQ.mono h k
  | 3, h, k => UnP.mono h k
  | 4, h, k => CntP.mono h k
  | _ + 5, h, k => SimP.mono h k
theorem Lv.dn {d : Nat} {s : List Nat} {x : TN} : ∀ {n : Nat}, Lv L (n + 1) d s x → Lv L n d s x
  | 0, h => MeP.wh h
  | 1, h => RowP.me (.inr h)
  | 2, h => UnP.row h
  | 3, h => CntP.un h
  | 4, h => SimP.cnt h
  | _ + 5, h => h
theorem Lv.to {d : Nat} {s : List Nat} {x : TN} {n : Nat} : ∀ {m : Nat}, Lv L m d s x → n ≤ m → Lv L n d s x
  | 0, h, k => by rw [Nat.le_zero.mp k]; exact h
  | m + 1, h, k => by
    rcases Nat.lt_or_ge n (m + 1) with z | z
    · exact Lv.to (m := m) (Lv.dn h) (by omega)
    · rw [show n = m + 1 by omega]; exact h
def pd (d b a : Nat) : Nat := if b < a then d + 1 else d
theorem br_tl {s : Str} : ("(" ++ s ++ ")" : Str).cps.toList = 40 :: (s.cps.toList ++ [41]) := by
  rw [tl_app, tl_app, show ("(" : Str).cps.toList = [40] by decide +kernel, show (")" : Str).cps.toList = [41] by decide +kernel]
  rfl
theorem lv_plc (hL : Plain L) {s : Str} {d b a : Nat} {x : TN} (h : Lv L b d s.cps.toList x) (ha : a ≤ 5) : Lv L a (pd d b a) (plc s b a).cps.toList x := by
  unfold plc pd
  split
  · rw [br_tl]
    have h0 : WhP L d s.cps.toList x := Lv.to (n := 0) h (Nat.zero_le _)
    have h5 : Lv L 5 (d + 1) (40 :: (s.cps.toList ++ [41])) x := SimP.br hL h0
    exact h5.to ha
  · exact h.to (by omega)
/-- how deep its brackets are -/
def Pt.bd : Pt → Nat
  | .nul k => if k = "none" then 0 else 1
  | .one _ => 0
  | .un k a => pd a.bd a.st (Pt.un k a).st
  | .bi k a b => max (pd a.bd a.st (Pt.bi k a b).st) (pd b.bd b.st ((Pt.bi k a b).st + 1))
def tn (t : Pt) : TN := (t.D, t.size)
theorem one_tn {s : Str} (h : 0 < s.length) : oneOf s = tn (.one s) := by
  unfold oneOf
  rw [if_neg (fun e => by subst e; exact absurd h (by decide +kernel))]
  rfl
theorem kps_in {s : Str} (h : KpS L s) : ∀ c ∈ s.cps.toList, c ∈ L.cps.toList := fun c hc => by
  have e := h.2
  have hc : c ∈ (keptS L s.cps.toList false).cps.toList := by rw [e]; exact hc
  exact (List.mem_filter.mp hc).1
theorem wh_empty (hL : Plain L) : WhP L 0 [] emptyT := (RowP.me (.inl ⟨rfl, rfl⟩)).wh
theorem pr_lv (hL : Plain L) : ∀ {t : Pt}, LP L t → Lv L t.st t.bd (pr L t).cps.toList (tn t)
  | .nul k, h => by
    rcases h with h | h
    · subst h
      rw [pr_no, show ("[]" : Str).cps.toList = [91, 93] by decide +kernel]
      have e : tn (.nul "none") = oneOf (keptS L [] false) := by
        have e2 : keptS L [] false = "" := toL_ext (by
          show (L.cps.toList.filter fun c => decide (c ∈ ([] : List Nat)) != false) = _
          rw [List.filter_eq_nil_iff.mpr (fun c _ => by simp)]
          decide +kernel)
        rw [e2]
        rfl
      rw [e]
      have := SimP.set (o := false) hL (s := []) (fun c hc => nomatch hc)
      exact (show Lv L 5 0 _ _ from this).mono (Nat.zero_le _)
    · subst h
      rw [pr_em, show ("()" : Str).cps.toList = [40, 41] by decide +kernel]
      have := SimP.br hL (wh_empty hL)
      have e : (Pt.nul "empty").bd = 1 := by kernel_rfl
      rw [e]
      exact this
  | .one s, h => by
    have h : KpS L s := h
    show Lv L 5 0 (prL L s).cps.toList (tn (.one s))
    rw [← one_tn h.1]
    unfold prL
    split
    · next e =>
      obtain ⟨c, hc⟩ : ∃ c, s.cps.toList = [c] := List.length_eq_one_iff.mp e
      have hm := kps_in h c (by rw [hc]; exact List.mem_singleton.mpr rfl)
      have es : s = ⟨#[c]⟩ := toL_ext hc
      rw [hc, es]
      exact SimP.letter hL hm
    · split
      · next e =>
        subst e
        rw [show ("." : Str).cps.toList = [46] by decide +kernel]
        exact SimP.dot
      · rw [tl_app, tl_app, show ("[" : Str).cps.toList = [91] by decide +kernel, show ("]" : Str).cps.toList = [93] by decide +kernel]
        have := SimP.set (o := false) hL (kps_in h)
        rw [h.2] at this
        exact this
  | .un k a, h => by
    have i := pr_lv hL h.2
    rcases h.1 with h | h
    · subst h
      have e : (Pt.un "not" a).st = 3 := by kernel_rfl
      have i := lv_plc hL (a := 3) i (by decide)
      show Lv L (Pt.un "not" a).st (pd a.bd a.st (Pt.un "not" a).st) _ _
      rw [e, pr_nt, tl_app, show ("!" : Str).cps.toList = [33] by decide +kernel]
      exact UnP.not i
    · subst h
      have e : (Pt.un "star" a).st = 4 := by kernel_rfl
      have i := lv_plc hL (a := 4) i (by decide)
      show Lv L (Pt.un "star" a).st (pd a.bd a.st (Pt.un "star" a).st) _ _
      rw [e, pr_sr, tl_app, show ("*" : Str).cps.toList = [42] by decide +kernel]
      exact CntP.star i
  | .bi k a b, h => by
    have i := pr_lv hL h.2.1
    have j := pr_lv hL h.2.2
    rcases h.1 with h | h | h
    · subst h
      have e : (Pt.bi "join" a b).st = 2 := by kernel_rfl
      have i := lv_plc hL (a := 2) i (by decide)
      have j := lv_plc hL (a := 3) j (by decide)
      show Lv L (Pt.bi "join" a b).st (max (pd a.bd a.st (Pt.bi "join" a b).st) (pd b.bd b.st ((Pt.bi "join" a b).st + 1))) _ _
      rw [e, pr_jn, tl_app]
      exact RowQ.join hL (Lv.mono (n := 2) i (Nat.le_max_left _ _)) (Lv.mono (n := 3) j (Nat.le_max_right _ _))
    · subst h
      have e : (Pt.bi "either" a b).st = 0 := by kernel_rfl
      have i := lv_plc hL (a := 0) i (by decide)
      have j := lv_plc hL (a := 1) j (by decide)
      show Lv L (Pt.bi "either" a b).st (max (pd a.bd a.st (Pt.bi "either" a b).st) (pd b.bd b.st ((Pt.bi "either" a b).st + 1))) _ _
      rw [e, pr_ei, tl_app, tl_app, show ("|" : Str).cps.toList = [124] by decide +kernel, List.append_assoc]
      exact WhP.either hL (Lv.mono (n := 0) i (Nat.le_max_left _ _)) (Lv.mono (n := 1) j (Nat.le_max_right _ _))
    · subst h
      have e : (Pt.bi "both" a b).st = 1 := by kernel_rfl
      have i := lv_plc hL (a := 1) i (by decide)
      have j := lv_plc hL (a := 2) j (by decide)
      show Lv L (Pt.bi "both" a b).st (max (pd a.bd a.st (Pt.bi "both" a b).st) (pd b.bd b.st ((Pt.bi "both" a b).st + 1))) _ _
      rw [e, pr_bo, tl_app, tl_app, show ("&" : Str).cps.toList = [38] by decide +kernel, List.append_assoc]
      exact MeP.both hL (Lv.mono (n := 1) i (Nat.le_max_left _ _)) (.inr (Lv.mono (n := 2) j (Nat.le_max_right _ _)))
theorem pr_read (hL : Plain L) {t : Pt} (h : LP L t) (h12 : t.bd ≤ 12) : WholeR L (pr L t).cps.toList (.ok (tn t) (pr L t).length) :=
  WhP.read (Lv.to (n := 0) (pr_lv hL h) (Nat.zero_le _)) h12
/-- brackets, counted -/
theorem plain_dl (hL : Plain L) {s : List Nat} (hs : ∀ c ∈ s, c ∈ L.cps.toList) : bal s = 0 := by
  induction s with
  | nil => rfl
  | cons c s ih =>
    have n := hL c (hs c List.mem_cons_self)
    unfold Spc at n
    simp only [List.mem_cons, List.not_mem_nil, or_false] at n
    have e : dl c = 0 := by unfold dl; rw [if_neg (by omega), if_neg (by omega)]
    show dl c + bal s = 0
    rw [e, ih fun c hc => hs c (List.mem_cons_of_mem _ hc)]
    rfl
/-- balanced, at least d deep -/
def Bl (d : Nat) (s : List Nat) : Prop := bal s = 0 ∧ (d : Int) ≤ pk s
theorem Bl.app {d e : Nat} {s t : List Nat} (h : Bl d s) (g : Bl e t) : Bl (max d e) (s ++ t) := by
  obtain ⟨h1, h2⟩ := h
  obtain ⟨g1, g2⟩ := g
  refine ⟨by rw [bal_app, h1, g1]; rfl, ?_⟩
  rw [pk_app, h1]
  omega
theorem Bl.br {d : Nat} {s : List Nat} (h : Bl d s) : Bl (d + 1) (40 :: (s ++ [41])) := by
  obtain ⟨h1, h2⟩ := h
  have e1 : dl 40 = 1 := rfl
  have e2 : bal [41] = -1 := rfl
  have e3 := pk_app (a := s) (b := [41])
  have e4 := bal_app (a := s) (b := [41])
  have e5 := pk_pos [41]
  refine ⟨?_, ?_⟩
  · show dl 40 + bal (s ++ [41]) = 0
    omega
  · show _ ≤ max 0 (dl 40 + pk (s ++ [41]))
    omega
theorem Bl.zero {s : List Nat} (h : bal s = 0) : Bl 0 s := ⟨h, pk_pos s⟩
theorem bl_plc {s : Str} {d b a : Nat} (h : Bl d s.cps.toList) : Bl (pd d b a) (plc s b a).cps.toList := by
  unfold plc pd
  split
  · rw [br_tl]
    exact h.br
  · exact h
theorem pr_bl (hL : Plain L) : ∀ {t : Pt}, LP L t → Bl t.bd (pr L t).cps.toList
  | .nul k, h => by
    rcases h with h | h
    · subst h
      rw [pr_no]
      exact Bl.zero (by decide +kernel)
    · subst h
      rw [pr_em, show ("()" : Str).cps.toList = [40, 41] by decide +kernel]
      have e : (Pt.nul "empty").bd = 1 := by kernel_rfl
      rw [e]
      exact Bl.br (s := []) (Bl.zero rfl)
  | .one s, h => by
    have h : KpS L s := h
    show Bl 0 (prL L s).cps.toList
    have h0 := plain_dl hL (kps_in h)
    unfold prL
    split
    · exact Bl.zero h0
    · split
      · exact Bl.zero (by decide +kernel)
      · refine Bl.zero ?_
        rw [tl_app, tl_app, bal_app, bal_app, h0]
        decide +kernel
  | .un k a, h => by
    have i := pr_bl hL h.2
    rcases h.1 with h | h
    · subst h
      have e : (Pt.un "not" a).st = 3 := by kernel_rfl
      have i := bl_plc (a := 3) (b := a.st) i
      show Bl (pd a.bd a.st (Pt.un "not" a).st) _
      rw [e, pr_nt, tl_app]
      have := Bl.app (d := 0) (s := ("!" : Str).cps.toList) (Bl.zero (by decide +kernel)) i
      rw [Nat.zero_max] at this
      exact this
    · subst h
      have e : (Pt.un "star" a).st = 4 := by kernel_rfl
      have i := bl_plc (a := 4) (b := a.st) i
      show Bl (pd a.bd a.st (Pt.un "star" a).st) _
      rw [e, pr_sr, tl_app]
      have := Bl.app i (e := 0) (t := ("*" : Str).cps.toList) (Bl.zero (by decide +kernel))
      rw [Nat.max_zero] at this
      exact this
  | .bi k a b, h => by
    have i := pr_bl hL h.2.1
    have j := pr_bl hL h.2.2
    rcases h.1 with h | h | h
    · subst h
      have e : (Pt.bi "join" a b).st = 2 := by kernel_rfl
      show Bl (max (pd a.bd a.st (Pt.bi "join" a b).st) (pd b.bd b.st ((Pt.bi "join" a b).st + 1))) _
      rw [e, pr_jn, tl_app]
      exact (bl_plc (a := 2) (b := a.st) i).app (bl_plc (a := 3) (b := b.st) j)
    · subst h
      have e : (Pt.bi "either" a b).st = 0 := by kernel_rfl
      show Bl (max (pd a.bd a.st (Pt.bi "either" a b).st) (pd b.bd b.st ((Pt.bi "either" a b).st + 1))) _
      rw [e, pr_ei, tl_app, tl_app]
      have := (bl_plc (a := 0) (b := a.st) i).app (Bl.zero (s := ("|" : Str).cps.toList) (by decide +kernel))
      rw [Nat.max_zero] at this
      exact this.app (bl_plc (a := 1) (b := b.st) j)
    · subst h
      have e : (Pt.bi "both" a b).st = 1 := by kernel_rfl
      show Bl (max (pd a.bd a.st (Pt.bi "both" a b).st) (pd b.bd b.st ((Pt.bi "both" a b).st + 1))) _
      rw [e, pr_bo, tl_app, tl_app]
      have := (bl_plc (a := 1) (b := a.st) i).app (Bl.zero (s := ("&" : Str).cps.toList) (by decide +kernel))
      rw [Nat.max_zero] at this
      exact this.app (bl_plc (a := 2) (b := b.st) j)
/-- it may be compared -/
theorem pt_ly (hk : okS L) : ∀ {t : Pt}, LP L t → Ly t.D (t.dep + 1)
  | .nul k, h => Ly.tuple fun d hd => by
    rw [List.mem_singleton.mp hd]
    rcases h with h | h <;> (subst h; exact Ly.str (by unfold okS; decide +kernel))
  | .one s, h => Ly.tuple fun d hd => by
    rcases List.mem_cons.mp hd with e | hd
    · rw [e]; exact Ly.str (by unfold okS; decide +kernel)
    · rw [List.mem_singleton.mp hd]; exact Ly.str (okS_sub hk (kps_in h))
  | .un k a, h => Ly.tuple fun d hd => by
    rcases List.mem_cons.mp hd with e | hd
    · rw [e]
      rcases h.1 with h | h <;> (subst h; exact (Ly.str (by unfold okS; decide +kernel)).mono (Nat.zero_le _))
    · rw [List.mem_singleton.mp hd]; exact pt_ly hk h.2
  | .bi k a b, h => Ly.tuple fun d hd => by
    rcases List.mem_cons.mp hd with e | hd
    · rw [e]
      rcases h.1 with h | h | h <;> (subst h; exact (Ly.str (by unfold okS; decide +kernel)).mono (Nat.zero_le _))
    · rcases List.mem_cons.mp hd with e | hd
      · rw [e]; exact (pt_ly hk h.2.1).mono (by show a.dep + 1 ≤ max a.dep b.dep + 1; omega)
      · rw [List.mem_singleton.mp hd]; exact (pt_ly hk h.2.2).mono (by show b.dep + 1 ≤ max a.dep b.dep + 1; omega)
theorem Alpha.plain {n : Nat} (h : Alpha L n) : Plain L := fun c hc => pl_plain c (h.pl c hc)
end
section
variable (T : Txt K mg) [DC : HasD T w]
theorem rd_tcutE {tt : TT} {σ : L2.St} {H : Hp} {Q : Bool → Hp → Prop} (Pv : Bool → Hp → Prop) (h1 : ∀ Q' : Bool → Hp → Prop, (∀ b H', Pv b H' → Q' b H') → tt σ H Q') (h2 : ∀ b H', Pv b H' → Q b H') : tt σ H Q := h1 Q h2
abbrev lvLaw := 101
def spLaw (K : PySem.W.Frag) : Sp := fun vs H Q _ => ∃ (a : Addr) (ns : List Int), vs = [.ref a] ∧ SqL K H a (ns.map V.int) ∧ ns.length ≤ 63 ∧ ∀ H', Q (.bl true) H'
theorem ok_law0 : FnOk P w K mg base CX0 lvLaw T.a_law T.d_law ["script"] (spLaw K) := by
  refine T.f_law.ok sc_law (fun vs H Q E h => ?_) (fun cdv A outer s H vs Q E hr h => ?_)
  · obtain ⟨_, _, rfl, _⟩ := h; rfl
  · obtain ⟨a, ns, rfl, hs, hn, q⟩ := h
    have sz : 12000000 ≤ sizeLine := by decide
    refine ⟨_, (pss_cons (ps_set (i := 1) sc_law.nd rfl (by first | exact Or.inl rfl | exact Or.inr rfl) (pe_callE (ok_state T) (hr.mono (by decide)) T.o_state (pa_cons (pv 0) (pa_cons pe_int (pa_cons pe_int pa_nil)))))
  (pss_cons (ps_set (i := 2) sc_law.nd rfl (by first | exact Or.inl rfl | exact Or.inr rfl) (pe_callE (ok_letters T) (hr.mono (by decide)) T.o_letters (pa_cons (pv 1) (pa_cons pe_int pa_nil))))
  (pss_cons (ps_for PassesOwn.never rfl (pi_range1 (by rfl) T.nb_range (pa_cons pe_int pa_nil)) (pg_name (i := 3) sc_law.nd rfl (by first | exact Or.inl rfl | exact Or.inr rfl))
    (pss_cons (ps_set (i := 4) sc_law.nd rfl (by first | exact Or.inl rfl | exact Or.inr rfl) (pe_callE (ok_pattern T) (hr.mono (by decide)) T.o_pattern (pa_cons (pv 2) (pa_cons (pv 1) (pa_cons (pe_op (kAdd K) pe_int (pe_callE (ok_next T) (hr.mono (by decide)) T.o_next (pa_cons (pv 1) (pa_cons pe_int pa_nil)))) pa_nil)))))
  (pss_cons (ps_if (pt_cmpR (kEq K rfl hr.units) (pe_callE (ok_next T) (hr.mono (by decide)) T.o_next (pa_cons (pv 1) (pa_cons pe_int pa_nil))) pe_int (by first | rfl | exact nomark _))
    (pss_one (ps_for PassesOwn.never rfl (pi_range1 (by rfl) T.nb_range (pa_cons (pe_callE (ok_next T) (hr.mono (by decide)) T.o_next (pa_cons (pv 1) (pa_cons pe_int pa_nil))) pa_nil)) (pg_name (i := 5) sc_law.nd rfl (by first | exact Or.inl rfl | exact Or.inr rfl))
    (pss_one (ps_set (i := 4) sc_law.nd rfl (by first | exact Or.inl rfl | exact Or.inr rfl) (pe_ix (kIx K) (pe_lst (pa_cons (pe_tup (pa_cons pe_str (pa_cons (pv 4) pa_nil))) (pa_cons (pe_tup (pa_cons pe_str (pa_cons (pv 4) pa_nil))) (pa_cons (pe_tup (pa_cons pe_str (pa_cons (pe_tup (pa_cons pe_str (pa_cons (pe_ix (kIx K) (pv 2) pe_int (fun _ _ => rfl)) pa_nil))) (pa_cons (pv 4) pa_nil)))) pa_nil)))) (pe_callE (ok_next T) (hr.mono (by decide)) T.o_next (pa_cons (pv 1) (pa_cons pe_int pa_nil))) (fun _ _ => rfl))))))
    pss_nil)
  (pss_cons (ps_set (i := 6) sc_law.nd rfl (by first | exact Or.inl rfl | exact Or.inr rfl) (pe_callE (ok_print T) (hr.mono (by decide)) T.o_print (pa_cons (pv 2) (pa_cons (pv 4) pa_nil))))
  (pss_cons (ps_if (PW.pt (pw_or (pt_cmpR (kNe K rfl hr.units) (pe_callE (ok_print_pattern T) (hr.mono (by decide)) T.o_print_pattern (pa_cons (pv 2) (pa_cons (pv 4) pa_nil))) (pv 6) (by first | rfl | exact nomark _)) (pw_or1 (pt_cmpR (kNe K rfl hr.units) (pe_callE (ok_size T) (hr.mono (by decide)) T.o_size (pa_cons (pv 4) pa_nil)) (pe_callE (ok_count T) (hr.mono (by decide)) T.o_count (pa_cons (pv 4) pa_nil)) (by first | rfl | exact nomark _)))))
    (pss_one (ps_ret pe_bl))
    pss_nil)
  (pss_one (ps_if (PW.pt (pw_and (pt_cmpR op_leP (pe_callE (ok_count T) (hr.mono (by decide)) T.o_count (pa_cons (pv 4) pa_nil)) pe_int (by first | rfl | exact nomark _)) (pw_and (pt_cmpR op_leP (pe_callB (kLen K) (by rfl) T.nb_len (by decide +kernel) (pa_cons (pv 6) pa_nil)) pe_int (by first | rfl | exact nomark _)) (pw_and1 (pt_cmpR op_leP (pe_callE (ok_open T) (hr.mono (by decide)) T.o_open (pa_cons (pv 6) pa_nil)) pe_int (by first | rfl | exact nomark _))))))
    (pss_one (ps_if (pt_cmpR (kNe K rfl hr.units) (pe_callR (ok_read_pattern T) (hr.mono (by decide)) T.o_read_pattern takes0 (pa_cons (pv 2) (pa_cons (pv 6) pa_nil))) (pv 4) (by first | rfl | exact nomark _))
    (pss_one (ps_ret pe_bl))
    pss_nil))
    pss_nil)))))))
  (pss_one (ps_ret pe_bl))))), ?_⟩
    walk_at "rc"
    refine ⟨a, ns, 0, 6, rfl, hs, by decide, by decide, by decide, by decide, fun p H1 hp e1 S1 => ?_⟩
    walk_at "rc"
    refine ⟨p, 3, rfl, by decide, by decide, S1, fun L H2 al d2 => ?_⟩
    have S2 := d2.st
    clear hp e1
    have ll := al.l1
    have l0 := al.l0
    have lz : L.length ≤ sizeLine := by omega
    obtain ⟨c0, hc0⟩ : ∃ c, L.cps.toList[0]? = some c := ⟨_, List.getElem?_eq_getElem (by show 0 < L.length; omega)⟩
    walk_at "rc"
    walk_at "rs"
    walk_at "rc"
    refine ⟨2, rfl, by decide, by decide, ?_⟩
    refine fo_range (n := 2) (fun i σ H' => ∃ k3 k4 k5 k6, σ = [some (.ref a), some (.ref p), some (.str L), k3, k4, k5, k6] ∧ Dr p H2 H')
      ⟨_, _, _, _, rfl, Dr.refl S2⟩ ?_ ?_
    · rintro i σ H4 hi ⟨k3, k4, k5, k6, rfl, d4⟩
      walk_at "rc"
      refine ⟨p, 6, rfl, by decide, d4.st, fun r H5 r0 r1 S5 o5 i5 => ?_⟩
      have d5 := d4.trans ⟨S5, o5, i5.2⟩
      obtain ⟨r, rfl⟩ := Int.eq_ofNat_of_zero_le r0
      have er : (1 : Int) + (r : Int) = ((r + 1 : Nat) : Int) := by omega
      walk_at "rc"
      rw [er]
      have hp7 : 2 ^ (r + 1 + 1) ≤ 128 := by
        have h : r + 1 + 1 ≤ 7 := by omega
        exact Nat.pow_le_pow_right (by decide) h
      refine ⟨r + 1, by omega, p, L, rfl, al, d5.st, fun v t H6 hv lp dp sz6 dr => ?_⟩
      have d6 := d5.trans dr
      walk_at "rc"
      refine rd_cut (fun σ H' => ∃ v t k5, σ = [some (.ref a), some (.ref p), some (.str L), some (.int (i : Int)), some v, k5, k6] ∧ PtV H' t v ∧ LP L t ∧ t.dep ≤ 28 ∧ t.size ≤ 200 ∧ Dr p H2 H') (fun N hN => ?_) ?_
      · walk_at "rc"
        refine ⟨p, 8, rfl, by decide, d6.st, fun r2 H7 r20 r21 S7 o7 i7 => ?_⟩
        have dd7 : Dr p H6 H7 := ⟨S7, o7, i7.2⟩
        have d7 := d6.trans dd7
        have hv := hv.kt (dd7.kt d6.st)
        walk_at "rc"
        refine rd_iteD (fun h => ?_) fun h => ?_
        · walk_at "rc"
          refine ⟨p, 21, rfl, by decide, d7.st, fun r3 H8 r30 r31 S8 o8 i8 => ?_⟩
          have dd8 : Dr p H7 H8 := ⟨S8, o8, i8.2⟩
          have d8 := d7.trans dd8
          have hv := hv.kt (dd8.kt d7.st)
          obtain ⟨r3, rfl⟩ := Int.eq_ofNat_of_zero_le r30
          walk_at "rc"
          refine ⟨_, rfl, by omega, by omega, ?_⟩
          refine fo_range (n := r3) (fun j σ H' => ∃ v t k5, σ = [some (.ref a), some (.ref p), some (.str L), some (.int (i : Int)), some v, k5, k6] ∧ PtV H' t v ∧ LP L t ∧ t.dep ≤ 7 + j ∧ t.size ≤ 130 + 2 * j ∧ Dr p H2 H') ⟨v, t, _, rfl, hv, lp, by omega, by omega, d8⟩ ?_ ?_
          · rintro j σ H9 hj ⟨v, t, k5, rfl, hv, lp, dp, sz9, d9⟩
            walk_at "rc"
            refine ⟨by show 2 ≤ sizeLine; decide, fun t1 ht1 => ?_⟩
            have e1 := Evl.Ex.new (o := .tup [.str (Str.ofString "not"), v]) ht1
            have g1 : (upd H9 t1 (.tup [.str (Str.ofString "not"), v])) t1 = some (.tup [.str (Str.ofString "not"), v]) := upd_same
            generalize upd H9 t1 (.tup [.str (Str.ofString "not"), v]) = G1 at e1 g1
            walk_at "rc"
            refine ⟨by show 2 ≤ sizeLine; decide, fun t2 ht2 => ?_⟩
            have e2 := Evl.Ex.new (o := .tup [.str (Str.ofString "star"), v]) ht2
            have g2 : (upd G1 t2 (.tup [.str (Str.ofString "star"), v])) t2 = some (.tup [.str (Str.ofString "star"), v]) := upd_same
            generalize upd G1 t2 (.tup [.str (Str.ofString "star"), v]) = G2 at e2 g2
            walk_at "rc"
            refine rd_ixS lz (atI_nat (j := 0) hc0) ?_
            walk_at "rc"
            refine ⟨by show 2 ≤ sizeLine; decide, fun t3 ht3 => ?_⟩
            have e3 := Evl.Ex.new (o := .tup [.str (Str.ofString "one"), .str ⟨#[c0]⟩]) ht3
            have g3 : (upd G2 t3 (.tup [.str (Str.ofString "one"), .str ⟨#[c0]⟩])) t3 = some (.tup [.str (Str.ofString "one"), .str ⟨#[c0]⟩]) := upd_same
            generalize upd G2 t3 (.tup [.str (Str.ofString "one"), .str ⟨#[c0]⟩]) = G3 at e3 g3
            walk_at "rc"
            refine ⟨by show 3 ≤ sizeLine; decide, fun t4 ht4 => ?_⟩
            have e4 := Evl.Ex.new (o := .tup [.str (Str.ofString "join"), .ref t3, v]) ht4
            have g4 : (upd G3 t4 (.tup [.str (Str.ofString "join"), .ref t3, v])) t4 = some (.tup [.str (Str.ofString "join"), .ref t3, v]) := upd_same
            generalize upd G3 t4 (.tup [.str (Str.ofString "join"), .ref t3, v]) = G4 at e4 g4
            walk_at "rc"
            refine ⟨by show 3 ≤ sizeLine; decide, fun l5 hl5 => ?_⟩
            have e5 := Evl.Ex.new (o := .lst [.ref t1, .ref t2, .ref t4]) hl5
            have g5 : (upd G4 l5 (.lst [.ref t1, .ref t2, .ref t4])) l5 = some (.lst [.ref t1, .ref t2, .ref t4]) := upd_same
            have d10 := (((d9.ex e1).ex e2).ex e3).ex e4
            have n5 : l5 ≠ p := fun z => by
              obtain ⟨o, ho⟩ := d10.st.some
              rw [z, ho] at hl5; cases hl5
            have d11 := d10.ex e5
            generalize upd G4 l5 (.lst [.ref t1, .ref t2, .ref t4]) = G5 at e5 g5 d11
            walk_at "rc"
            refine ⟨p, 3, rfl, by decide, d11.st, fun r4 H12 r40 r41 S12 o12 i12 => ?_⟩
            have dd12 : Dr p G5 H12 := ⟨S12, o12, i12.2⟩
            have d12 := d11.trans dd12
            have k12 := dd12.kt d11.st
            have g5 := dd12.old _ _ n5 g5
            have hv := (hv.kt ((((KT.ex e1).trans (.ex e2)).trans (.ex e3)).trans ((KT.ex e4).trans (.ex e5)))).kt k12
            have g1 := k12 _ _ (e5 _ _ (e4 _ _ (e3 _ _ (e2 _ _ g1))))
            have g2 := k12 _ _ (e5 _ _ (e4 _ _ (e3 _ _ g2)))
            have g3 := k12 _ _ (e5 _ _ (e4 _ _ g3))
            have g4 := k12 _ _ (e5 _ _ g4)
            have hr4 : r4 = 0 ∨ r4 = 1 ∨ r4 = 2 := by omega
            rcases hr4 with rfl | rfl | rfl
            · refine rd_ixL (SqL.of g5) (atI_nat (j := 0) rfl) ?_
              walk_at "rc"
              exact ⟨_, .un "not" t, _, rfl, ⟨t1, v, rfl, g1, hv⟩, ⟨.inl rfl, lp⟩, by show t.dep + 1 ≤ _; omega, by show t.size + 1 ≤ _; omega, d12⟩
            · refine rd_ixL (SqL.of g5) (atI_nat (j := 1) rfl) ?_
              walk_at "rc"
              exact ⟨_, .un "star" t, _, rfl, ⟨t2, v, rfl, g2, hv⟩, ⟨.inr rfl, lp⟩, by show t.dep + 1 ≤ _; omega, by show t.size + 1 ≤ _; omega, d12⟩
            · refine rd_ixL (SqL.of g5) (atI_nat (j := 2) rfl) ?_
              walk_at "rc"
              exact ⟨_, .bi "join" (.one ⟨#[c0]⟩) t, _, rfl, ⟨t4, .ref t3, v, rfl, g4, ⟨t3, rfl, g3⟩, hv⟩, ⟨.inl rfl, kps_first al.nd hc0, lp⟩, by show max 0 t.dep + 1 ≤ _; omega, by show 1 + t.size + 1 ≤ _; omega, d12⟩
          · rintro σ H9 ⟨v, t, k5, rfl, hv, lp, dp, sz9, d9⟩
            exact hN _ _ ⟨v, t, _, rfl, hv, lp, by omega, by omega, d9⟩
        · walk_at "rc"
          exact hN _ _ ⟨v, t, _, rfl, hv, lp, by omega, by omega, d7⟩
      · rintro σ H7 ⟨v, t, k5, rfl, hv, lp, dp, sz7, d7⟩
        walk_at "rc"
        have hok : t.ok := lp.ok (by omega)
        have hlp := pr_len (L := L) hok
        refine ⟨L, t, v, rfl, hok, hv, by omega, by omega, fun H8 e8 => ?_⟩
        refine rd_gn ?_
        dsimp only
        walk_at "rs"
        refine rd_tcutE (fun b H' => b = false ∧ Ex H8 H') (fun Q' hQ => ?_) ?_
        · walk_at "rc"
          refine ⟨L, t, v, rfl, hok, PtV.kt (.ex e8) t hv, by omega, fun H9 e9 => ?_⟩
          walk_at "rc"
          refine rd_iteN (fun h => absurd rfl h) fun _ => ?_
          walk_at "rc"
          refine ⟨t, v, rfl, hok, PtV.kt (.ex (Evl.Ex.trans e8 e9)) t hv, by omega, fun H10 e10 => ?_⟩
          walk_at "rc"
          refine ⟨t, v, rfl, hok, PtV.kt (.ex (Evl.Ex.trans e8 (Evl.Ex.trans e9 e10))) t hv, by omega, by omega, fun H11 e11 => ?_⟩
          walk_at "rc"
          exact hQ _ _ ⟨by simp, Evl.Ex.trans e9 (Evl.Ex.trans e10 e11)⟩
        rintro b H9 ⟨rfl, e9⟩
        have e9 := Evl.Ex.trans e8 e9
        have d9 := d7.ex e9
        have hv := hv.kt (.ex e9)
        refine rd_iteF ?_
        walk_at "rc"
        refine ⟨t, v, rfl, hok, hv, by omega, by omega, fun H10 e10 => ?_⟩
        have d10 := d9.ex e10
        have hv := hv.kt (.ex e10)
        walk_at "rc"
        refine rd_iteD (fun h1 => ?_) fun _ => ?_
        · walk_at "rc"
          refine rd_lenS (by omega) ?_
          walk_at "rc"
          refine rd_iteD (fun h2 => ?_) fun _ => ?_
          · walk_at "rc"
            refine ⟨pr L t, rfl, ?_⟩
            walk_at "rc"
            refine rd_iteD (fun h3 => ?_) fun _ => ?_
            · have hb := (pr_bl al.plain lp).2
              have hw := pr_read al.plain lp (by omega)
              walk_at "rc"
              refine ⟨L, pr L t, rfl, by omega, by omega, fun x v2 p' H11 l4 hx x100 hv2 nl e11 => ?_, fun qq dd H11 l4 hq e11 hd => ?_, fun dd H11 n hn' e11 hd => ?_⟩
              · obtain ⟨e, _⟩ := Rs.ok.inj (det_whole _ _ hx hw)
                subst e
                walk_at "rc"
                refine rd_neD (Evl.Ex.refl _) e11 hv2 (PtV.dp t hv) ((pt_ly al.ok lp).lay (by omega)) ?_
                walk_at "rc"
                exact ⟨_, _, _, _, rfl, d10.ex e11⟩
              · exact nomatch det_whole _ _ hq hw
              · rcases hn' with h | ⟨h, h2', _⟩ | ⟨h, ⟨y, p', h2', h3'⟩, h4'⟩
                · omega
                · exact nomatch det_whole _ _ h2' hw
                · obtain ⟨e, _⟩ := Rs.ok.inj (det_whole _ _ h2' hw)
                  subst e
                  have : 100 < t.size := h3'
                  omega
            · walk_at "rc"
              exact ⟨_, _, _, _, rfl, d10⟩
          · walk_at "rc"
            exact ⟨_, _, _, _, rfl, d10⟩
        · walk_at "rc"
          exact ⟨_, _, _, _, rfl, d10⟩
    · rintro σ H4 ⟨k3, k4, k5, k6, rfl, d4⟩
      walk_at "rc"
      exact q _
end
theorem ok_law (T : Txt K mg) (DC : Dcs T w) : FnOk P w K mg base CX0 lvLaw T.a_law T.d_law ["script"] (spLaw K) :=
  haveI : HasD T w := ⟨DC⟩
  ok_law0 T
end
theorem all_mk {l : PySem.W.OpenLaw} {w : World} {K : PySem.W.Frag} {h : Heap} {mg : Str → Option Value} {fa : Addr} (X : K.In h) (G : h.Ns mainGlobals mg) (hfa : mg "law" = some (.ref fa))
    {a_parts_of : Addr} {od_parts_of an_parts_of : Option Addr} {sl_parts_of : Array (Option Value)} {oc_parts_of kV_parts_of dc_parts_of pm_parts_of cd_parts_of ct_parts_of : Value}
    {a_size : Addr} {od_size an_size : Option Addr} {sl_size : Array (Option Value)} {oc_size kV_size dc_size pm_size cd_size ct_size : Value}
    {a_flat_terms : Addr} {od_flat_terms an_flat_terms : Option Addr} {sl_flat_terms : Array (Option Value)} {oc_flat_terms kV_flat_terms dc_flat_terms pm_flat_terms cd_flat_terms ct_flat_terms : Value}
    {a_print_pattern : Addr} {od_print_pattern an_print_pattern : Option Addr} {sl_print_pattern : Array (Option Value)} {oc_print_pattern kV_print_pattern dc_print_pattern pm_print_pattern cd_print_pattern ct_print_pattern : Value}
    {a__notation : Addr} {od__notation an__notation : Option Addr} {sl__notation : Array (Option Value)} {oc__notation kV__notation dc__notation pm__notation cd__notation ct__notation : Value}
    {a__notation_of_letters : Addr} {od__notation_of_letters an__notation_of_letters : Option Addr} {sl__notation_of_letters : Array (Option Value)} {oc__notation_of_letters kV__notation_of_letters dc__notation_of_letters pm__notation_of_letters cd__notation_of_letters ct__notation_of_letters : Value}
    {a__placed : Addr} {od__placed an__placed : Option Addr} {sl__placed : Array (Option Value)} {oc__placed kV__placed dc__placed pm__placed cd__placed ct__placed : Value}
    {a_read_pattern : Addr} {od_read_pattern an_read_pattern : Option Addr} {sl_read_pattern : Array (Option Value)} {oc_read_pattern kV_read_pattern dc_read_pattern pm_read_pattern cd_read_pattern ct_read_pattern : Value}
    {a__over : Addr} {od__over an__over : Option Addr} {sl__over : Array (Option Value)} {oc__over kV__over dc__over pm__over cd__over ct__over : Value}
    {a__over_two : Addr} {od__over_two an__over_two : Option Addr} {sl__over_two : Array (Option Value)} {oc__over_two kV__over_two dc__over_two pm__over_two cd__over_two ct__over_two : Value}
    {a__one_of : Addr} {od__one_of an__one_of : Option Addr} {sl__one_of : Array (Option Value)} {oc__one_of kV__one_of dc__one_of pm__one_of cd__one_of ct__one_of : Value}
    {a__times : Addr} {od__times an__times : Option Addr} {sl__times : Array (Option Value)} {oc__times kV__times dc__times pm__times cd__times ct__times : Value}
    {a__at_most : Addr} {od__at_most an__at_most : Option Addr} {sl__at_most : Array (Option Value)} {oc__at_most kV__at_most dc__at_most pm__at_most cd__at_most ct__at_most : Value}
    {a__between : Addr} {od__between an__between : Option Addr} {sl__between : Array (Option Value)} {oc__between kV__between dc__between pm__between cd__between ct__between : Value}
    {a_cell : Addr} {od_cell an_cell : Option Addr} {sl_cell : Array (Option Value)} {oc_cell kV_cell dc_cell pm_cell cd_cell ct_cell : Value}
    {a_numbers : Addr} {od_numbers an_numbers : Option Addr} {sl_numbers : Array (Option Value)} {oc_numbers kV_numbers dc_numbers pm_numbers cd_numbers ct_numbers : Value}
    {a_state : Addr} {od_state an_state : Option Addr} {sl_state : Array (Option Value)} {oc_state kV_state dc_state pm_state cd_state ct_state : Value}
    {a_next : Addr} {od_next an_next : Option Addr} {sl_next : Array (Option Value)} {oc_next kV_next dc_next pm_next cd_next ct_next : Value}
    {a_letters : Addr} {od_letters an_letters : Option Addr} {sl_letters : Array (Option Value)} {oc_letters kV_letters dc_letters pm_letters cd_letters ct_letters : Value}
    {a_pattern : Addr} {od_pattern an_pattern : Option Addr} {sl_pattern : Array (Option Value)} {oc_pattern kV_pattern dc_pattern pm_pattern cd_pattern ct_pattern : Value}
    {a_strength : Addr} {od_strength an_strength : Option Addr} {sl_strength : Array (Option Value)} {oc_strength kV_strength dc_strength pm_strength cd_strength ct_strength : Value}
    {a_part : Addr} {od_part an_part : Option Addr} {sl_part : Array (Option Value)} {oc_part kV_part dc_part pm_part cd_part ct_part : Value}
    {a_print : Addr} {od_print an_print : Option Addr} {sl_print : Array (Option Value)} {oc_print kV_print dc_print pm_print cd_print ct_print : Value}
    {a_count : Addr} {od_count an_count : Option Addr} {sl_count : Array (Option Value)} {oc_count kV_count dc_count pm_count cd_count ct_count : Value}
    {a_open : Addr} {od_open an_open : Option Addr} {sl_open : Array (Option Value)} {oc_open kV_open dc_open pm_open cd_open ct_open : Value}
    {a_law : Addr} {od_law an_law : Option Addr} {sl_law : Array (Option Value)} {oc_law kV_law dc_law pm_law cd_law ct_law : Value}
    {C_AnytextError C_PatternError C_SizeError C_BadPattern C_TooLarge : Addr}
    {a_init T_init : Addr} {od_init an_init : Option Addr} {sl_init : Array (Option Value)} {oc_init kV_init dc_init pm_init cd_init ct_init : Value} {dd_init : Option Addr} {nn_init : Nat} {sm_init : Array (Option Value)} {oc2_init : Value}
    {nm_BadPattern q_BadPattern : Str} {N_BadPattern : Addr} {bs_BadPattern : List Value} {sn_BadPattern : List Str} {sb_BadPattern : List Value} {ab_BadPattern : Bool} {col_BadPattern : Option Bool} {dd_BadPattern : Option Addr} {m0_BadPattern m1_BadPattern m2_BadPattern m3_BadPattern m5_BadPattern : Option Value}
    {nm_TooLarge q_TooLarge : Str} {N_TooLarge : Addr} {bs_TooLarge : List Value} {sn_TooLarge : List Str} {sb_TooLarge : List Value} {ab_TooLarge : Bool} {col_TooLarge : Option Bool} {dd_TooLarge : Option Addr} {m0_TooLarge m1_TooLarge m2_TooLarge m3_TooLarge m5_TooLarge : Option Value}
    {C_PatternReader : Addr}
    {a_PatternReader_init : Addr} {od_PatternReader_init an_PatternReader_init : Option Addr} {sl_PatternReader_init : Array (Option Value)} {oc_PatternReader_init kV_PatternReader_init dc_PatternReader_init pm_PatternReader_init cd_PatternReader_init ct_PatternReader_init : Value}
    {a_PatternReader_faces : Addr} {od_PatternReader_faces an_PatternReader_faces : Option Addr} {sl_PatternReader_faces : Array (Option Value)} {oc_PatternReader_faces kV_PatternReader_faces dc_PatternReader_faces pm_PatternReader_faces cd_PatternReader_faces ct_PatternReader_faces : Value}
    {a_PatternReader_take : Addr} {od_PatternReader_take an_PatternReader_take : Option Addr} {sl_PatternReader_take : Array (Option Value)} {oc_PatternReader_take kV_PatternReader_take dc_PatternReader_take pm_PatternReader_take cd_PatternReader_take ct_PatternReader_take : Value}
    {a_PatternReader_whole : Addr} {od_PatternReader_whole an_PatternReader_whole : Option Addr} {sl_PatternReader_whole : Array (Option Value)} {oc_PatternReader_whole kV_PatternReader_whole dc_PatternReader_whole pm_PatternReader_whole cd_PatternReader_whole ct_PatternReader_whole : Value}
    {a_PatternReader_pattern : Addr} {od_PatternReader_pattern an_PatternReader_pattern : Option Addr} {sl_PatternReader_pattern : Array (Option Value)} {oc_PatternReader_pattern kV_PatternReader_pattern dc_PatternReader_pattern pm_PatternReader_pattern cd_PatternReader_pattern ct_PatternReader_pattern : Value}
    {a_PatternReader_meets : Addr} {od_PatternReader_meets an_PatternReader_meets : Option Addr} {sl_PatternReader_meets : Array (Option Value)} {oc_PatternReader_meets kV_PatternReader_meets dc_PatternReader_meets pm_PatternReader_meets cd_PatternReader_meets ct_PatternReader_meets : Value}
    {a_PatternReader_row : Addr} {od_PatternReader_row an_PatternReader_row : Option Addr} {sl_PatternReader_row : Array (Option Value)} {oc_PatternReader_row kV_PatternReader_row dc_PatternReader_row pm_PatternReader_row cd_PatternReader_row ct_PatternReader_row : Value}
    {a_PatternReader_unary : Addr} {od_PatternReader_unary an_PatternReader_unary : Option Addr} {sl_PatternReader_unary : Array (Option Value)} {oc_PatternReader_unary kV_PatternReader_unary dc_PatternReader_unary pm_PatternReader_unary cd_PatternReader_unary ct_PatternReader_unary : Value}
    {a_PatternReader_counted : Addr} {od_PatternReader_counted an_PatternReader_counted : Option Addr} {sl_PatternReader_counted : Array (Option Value)} {oc_PatternReader_counted kV_PatternReader_counted dc_PatternReader_counted pm_PatternReader_counted cd_PatternReader_counted ct_PatternReader_counted : Value}
    {a_PatternReader_counts : Addr} {od_PatternReader_counts an_PatternReader_counts : Option Addr} {sl_PatternReader_counts : Array (Option Value)} {oc_PatternReader_counts kV_PatternReader_counts dc_PatternReader_counts pm_PatternReader_counts cd_PatternReader_counts ct_PatternReader_counts : Value}
    {a_PatternReader_simple : Addr} {od_PatternReader_simple an_PatternReader_simple : Option Addr} {sl_PatternReader_simple : Array (Option Value)} {oc_PatternReader_simple kV_PatternReader_simple dc_PatternReader_simple pm_PatternReader_simple cd_PatternReader_simple ct_PatternReader_simple : Value}
    {a_PatternReader_bracketed : Addr} {od_PatternReader_bracketed an_PatternReader_bracketed : Option Addr} {sl_PatternReader_bracketed : Array (Option Value)} {oc_PatternReader_bracketed kV_PatternReader_bracketed dc_PatternReader_bracketed pm_PatternReader_bracketed cd_PatternReader_bracketed ct_PatternReader_bracketed : Value}
    {a_PatternReader_chosen : Addr} {od_PatternReader_chosen an_PatternReader_chosen : Option Addr} {sl_PatternReader_chosen : Array (Option Value)} {oc_PatternReader_chosen kV_PatternReader_chosen dc_PatternReader_chosen pm_PatternReader_chosen cd_PatternReader_chosen ct_PatternReader_chosen : Value}
    {a_LEAVES : Addr} {od_LEAVES : Option Addr} {n_LEAVES : Nat} {sl_LEAVES : Array (Option Value)} {tk_LEAVES_0 tk_LEAVES_1 tk_LEAVES_2 : Tok}
    {a_STRENGTHS : Addr} {es_STRENGTHS : Array DictEntry} {n_STRENGTHS : Nat}
    {tk_STRENGTHS_0 : Tok}
    {tk_STRENGTHS_1 : Tok}
    {tk_STRENGTHS_2 : Tok}
    {tk_STRENGTHS_3 : Tok}
    {tk_STRENGTHS_4 : Tok}
    {t_STRONGEST : Tok}
    {a_SIGNS : Addr} {es_SIGNS : Array DictEntry} {n_SIGNS : Nat}
    {tk_SIGNS_0 : Tok}
    {tk_SIGNS_1 : Tok}
    {tk_SIGNS_2 : Tok}
    {t_MOST_CHARACTERS : Tok}
    {t_MOST_OPEN_BRACKETS : Tok}
    {t_MOST_TERMS : Tok}
    {a_EMPTY : Addr} {od_EMPTY : Option Addr} {n_EMPTY : Nat} {sl_EMPTY : Array (Option Value)} {tk_EMPTY_1 : Tok}
    {a_EMPTY_0 : Addr} {od_EMPTY_0 : Option Addr} {n_EMPTY_0 : Nat} {sl_EMPTY_0 : Array (Option Value)} {tk_EMPTY_0_0 : Tok}
    (n_parts_of : PySem.W.nsIn K mainGlobals "parts_of" = some (some (.ref a_parts_of)))
    (l_parts_of : K.lookup a_parts_of = some ⟨oc_parts_of, od_parts_of, .func (PySem.W.fnOf "parts_of" "parts_of" (defArgs s_parts_of) (defBody s_parts_of) (defScope s_parts_of) .none kV_parts_of dc_parts_of pm_parts_of an_parts_of cd_parts_of ct_parts_of), sl_parts_of⟩)
    (c_parts_of : PySem.W.codeIn K cd_parts_of "parts_of" = true)
    (k_parts_of : PySem.W.keepIn K (.ref a_parts_of) = true)
    (n_size : PySem.W.nsIn K mainGlobals "size" = some (some (.ref a_size)))
    (l_size : K.lookup a_size = some ⟨oc_size, od_size, .func (PySem.W.fnOf "size" "size" (defArgs s_size) (defBody s_size) (defScope s_size) .none kV_size dc_size pm_size an_size cd_size ct_size), sl_size⟩)
    (c_size : PySem.W.codeIn K cd_size "size" = true)
    (k_size : PySem.W.keepIn K (.ref a_size) = true)
    (n_flat_terms : PySem.W.nsIn K mainGlobals "flat_terms" = some (some (.ref a_flat_terms)))
    (l_flat_terms : K.lookup a_flat_terms = some ⟨oc_flat_terms, od_flat_terms, .func (PySem.W.fnOf "flat_terms" "flat_terms" (defArgs s_flat_terms) (defBody s_flat_terms) (defScope s_flat_terms) .none kV_flat_terms dc_flat_terms pm_flat_terms an_flat_terms cd_flat_terms ct_flat_terms), sl_flat_terms⟩)
    (c_flat_terms : PySem.W.codeIn K cd_flat_terms "flat_terms" = true)
    (k_flat_terms : PySem.W.keepIn K (.ref a_flat_terms) = true)
    (n_print_pattern : PySem.W.nsIn K mainGlobals "print_pattern" = some (some (.ref a_print_pattern)))
    (l_print_pattern : K.lookup a_print_pattern = some ⟨oc_print_pattern, od_print_pattern, .func (PySem.W.fnOf "print_pattern" "print_pattern" (defArgs s_print_pattern) (defBody s_print_pattern) (defScope s_print_pattern) .none kV_print_pattern dc_print_pattern pm_print_pattern an_print_pattern cd_print_pattern ct_print_pattern), sl_print_pattern⟩)
    (c_print_pattern : PySem.W.codeIn K cd_print_pattern "print_pattern" = true)
    (k_print_pattern : PySem.W.keepIn K (.ref a_print_pattern) = true)
    (n__notation : PySem.W.nsIn K mainGlobals "_notation" = some (some (.ref a__notation)))
    (l__notation : K.lookup a__notation = some ⟨oc__notation, od__notation, .func (PySem.W.fnOf "_notation" "_notation" (defArgs s__notation) (defBody s__notation) (defScope s__notation) .none kV__notation dc__notation pm__notation an__notation cd__notation ct__notation), sl__notation⟩)
    (c__notation : PySem.W.codeIn K cd__notation "_notation" = true)
    (k__notation : PySem.W.keepIn K (.ref a__notation) = true)
    (n__notation_of_letters : PySem.W.nsIn K mainGlobals "_notation_of_letters" = some (some (.ref a__notation_of_letters)))
    (l__notation_of_letters : K.lookup a__notation_of_letters = some ⟨oc__notation_of_letters, od__notation_of_letters, .func (PySem.W.fnOf "_notation_of_letters" "_notation_of_letters" (defArgs s__notation_of_letters) (defBody s__notation_of_letters) (defScope s__notation_of_letters) .none kV__notation_of_letters dc__notation_of_letters pm__notation_of_letters an__notation_of_letters cd__notation_of_letters ct__notation_of_letters), sl__notation_of_letters⟩)
    (c__notation_of_letters : PySem.W.codeIn K cd__notation_of_letters "_notation_of_letters" = true)
    (k__notation_of_letters : PySem.W.keepIn K (.ref a__notation_of_letters) = true)
    (n__placed : PySem.W.nsIn K mainGlobals "_placed" = some (some (.ref a__placed)))
    (l__placed : K.lookup a__placed = some ⟨oc__placed, od__placed, .func (PySem.W.fnOf "_placed" "_placed" (defArgs s__placed) (defBody s__placed) (defScope s__placed) .none kV__placed dc__placed pm__placed an__placed cd__placed ct__placed), sl__placed⟩)
    (c__placed : PySem.W.codeIn K cd__placed "_placed" = true)
    (k__placed : PySem.W.keepIn K (.ref a__placed) = true)
    (n_read_pattern : PySem.W.nsIn K mainGlobals "read_pattern" = some (some (.ref a_read_pattern)))
    (l_read_pattern : K.lookup a_read_pattern = some ⟨oc_read_pattern, od_read_pattern, .func (PySem.W.fnOf "read_pattern" "read_pattern" (defArgs s_read_pattern) (defBody s_read_pattern) (defScope s_read_pattern) .none kV_read_pattern dc_read_pattern pm_read_pattern an_read_pattern cd_read_pattern ct_read_pattern), sl_read_pattern⟩)
    (c_read_pattern : PySem.W.codeIn K cd_read_pattern "read_pattern" = true)
    (k_read_pattern : PySem.W.keepIn K (.ref a_read_pattern) = true)
    (n__over : PySem.W.nsIn K mainGlobals "_over" = some (some (.ref a__over)))
    (l__over : K.lookup a__over = some ⟨oc__over, od__over, .func (PySem.W.fnOf "_over" "_over" (defArgs s__over) (defBody s__over) (defScope s__over) .none kV__over dc__over pm__over an__over cd__over ct__over), sl__over⟩)
    (c__over : PySem.W.codeIn K cd__over "_over" = true)
    (k__over : PySem.W.keepIn K (.ref a__over) = true)
    (n__over_two : PySem.W.nsIn K mainGlobals "_over_two" = some (some (.ref a__over_two)))
    (l__over_two : K.lookup a__over_two = some ⟨oc__over_two, od__over_two, .func (PySem.W.fnOf "_over_two" "_over_two" (defArgs s__over_two) (defBody s__over_two) (defScope s__over_two) .none kV__over_two dc__over_two pm__over_two an__over_two cd__over_two ct__over_two), sl__over_two⟩)
    (c__over_two : PySem.W.codeIn K cd__over_two "_over_two" = true)
    (k__over_two : PySem.W.keepIn K (.ref a__over_two) = true)
    (n__one_of : PySem.W.nsIn K mainGlobals "_one_of" = some (some (.ref a__one_of)))
    (l__one_of : K.lookup a__one_of = some ⟨oc__one_of, od__one_of, .func (PySem.W.fnOf "_one_of" "_one_of" (defArgs s__one_of) (defBody s__one_of) (defScope s__one_of) .none kV__one_of dc__one_of pm__one_of an__one_of cd__one_of ct__one_of), sl__one_of⟩)
    (c__one_of : PySem.W.codeIn K cd__one_of "_one_of" = true)
    (k__one_of : PySem.W.keepIn K (.ref a__one_of) = true)
    (n__times : PySem.W.nsIn K mainGlobals "_times" = some (some (.ref a__times)))
    (l__times : K.lookup a__times = some ⟨oc__times, od__times, .func (PySem.W.fnOf "_times" "_times" (defArgs s__times) (defBody s__times) (defScope s__times) .none kV__times dc__times pm__times an__times cd__times ct__times), sl__times⟩)
    (c__times : PySem.W.codeIn K cd__times "_times" = true)
    (k__times : PySem.W.keepIn K (.ref a__times) = true)
    (n__at_most : PySem.W.nsIn K mainGlobals "_at_most" = some (some (.ref a__at_most)))
    (l__at_most : K.lookup a__at_most = some ⟨oc__at_most, od__at_most, .func (PySem.W.fnOf "_at_most" "_at_most" (defArgs s__at_most) (defBody s__at_most) (defScope s__at_most) .none kV__at_most dc__at_most pm__at_most an__at_most cd__at_most ct__at_most), sl__at_most⟩)
    (c__at_most : PySem.W.codeIn K cd__at_most "_at_most" = true)
    (k__at_most : PySem.W.keepIn K (.ref a__at_most) = true)
    (n__between : PySem.W.nsIn K mainGlobals "_between" = some (some (.ref a__between)))
    (l__between : K.lookup a__between = some ⟨oc__between, od__between, .func (PySem.W.fnOf "_between" "_between" (defArgs s__between) (defBody s__between) (defScope s__between) .none kV__between dc__between pm__between an__between cd__between ct__between), sl__between⟩)
    (c__between : PySem.W.codeIn K cd__between "_between" = true)
    (k__between : PySem.W.keepIn K (.ref a__between) = true)
    (n_cell : PySem.W.nsIn K mainGlobals "_law_cell" = some (some (.ref a_cell)))
    (l_cell : K.lookup a_cell = some ⟨oc_cell, od_cell, .func (PySem.W.fnOf "_law_cell" "_law_cell" (defArgs s_cell) (defBody s_cell) (defScope s_cell) .none kV_cell dc_cell pm_cell an_cell cd_cell ct_cell), sl_cell⟩)
    (c_cell : PySem.W.codeIn K cd_cell "_law_cell" = true)
    (k_cell : PySem.W.keepIn K (.ref a_cell) = true)
    (n_numbers : PySem.W.nsIn K mainGlobals "_law_numbers" = some (some (.ref a_numbers)))
    (l_numbers : K.lookup a_numbers = some ⟨oc_numbers, od_numbers, .func (PySem.W.fnOf "_law_numbers" "_law_numbers" (defArgs s_numbers) (defBody s_numbers) (defScope s_numbers) .none kV_numbers dc_numbers pm_numbers an_numbers cd_numbers ct_numbers), sl_numbers⟩)
    (c_numbers : PySem.W.codeIn K cd_numbers "_law_numbers" = true)
    (k_numbers : PySem.W.keepIn K (.ref a_numbers) = true)
    (n_state : PySem.W.nsIn K mainGlobals "_law_state" = some (some (.ref a_state)))
    (l_state : K.lookup a_state = some ⟨oc_state, od_state, .func (PySem.W.fnOf "_law_state" "_law_state" (defArgs s_state) (defBody s_state) (defScope s_state) .none kV_state dc_state pm_state an_state cd_state ct_state), sl_state⟩)
    (c_state : PySem.W.codeIn K cd_state "_law_state" = true)
    (k_state : PySem.W.keepIn K (.ref a_state) = true)
    (n_next : PySem.W.nsIn K mainGlobals "_law_next" = some (some (.ref a_next)))
    (l_next : K.lookup a_next = some ⟨oc_next, od_next, .func (PySem.W.fnOf "_law_next" "_law_next" (defArgs s_next) (defBody s_next) (defScope s_next) .none kV_next dc_next pm_next an_next cd_next ct_next), sl_next⟩)
    (c_next : PySem.W.codeIn K cd_next "_law_next" = true)
    (k_next : PySem.W.keepIn K (.ref a_next) = true)
    (n_letters : PySem.W.nsIn K mainGlobals "_law_letters" = some (some (.ref a_letters)))
    (l_letters : K.lookup a_letters = some ⟨oc_letters, od_letters, .func (PySem.W.fnOf "_law_letters" "_law_letters" (defArgs s_letters) (defBody s_letters) (defScope s_letters) .none kV_letters dc_letters pm_letters an_letters cd_letters ct_letters), sl_letters⟩)
    (c_letters : PySem.W.codeIn K cd_letters "_law_letters" = true)
    (k_letters : PySem.W.keepIn K (.ref a_letters) = true)
    (n_pattern : PySem.W.nsIn K mainGlobals "_law_pattern" = some (some (.ref a_pattern)))
    (l_pattern : K.lookup a_pattern = some ⟨oc_pattern, od_pattern, .func (PySem.W.fnOf "_law_pattern" "_law_pattern" (defArgs s_pattern) (defBody s_pattern) (defScope s_pattern) .none kV_pattern dc_pattern pm_pattern an_pattern cd_pattern ct_pattern), sl_pattern⟩)
    (c_pattern : PySem.W.codeIn K cd_pattern "_law_pattern" = true)
    (k_pattern : PySem.W.keepIn K (.ref a_pattern) = true)
    (n_strength : PySem.W.nsIn K mainGlobals "_law_strength" = some (some (.ref a_strength)))
    (l_strength : K.lookup a_strength = some ⟨oc_strength, od_strength, .func (PySem.W.fnOf "_law_strength" "_law_strength" (defArgs s_strength) (defBody s_strength) (defScope s_strength) .none kV_strength dc_strength pm_strength an_strength cd_strength ct_strength), sl_strength⟩)
    (c_strength : PySem.W.codeIn K cd_strength "_law_strength" = true)
    (k_strength : PySem.W.keepIn K (.ref a_strength) = true)
    (n_part : PySem.W.nsIn K mainGlobals "_law_part" = some (some (.ref a_part)))
    (l_part : K.lookup a_part = some ⟨oc_part, od_part, .func (PySem.W.fnOf "_law_part" "_law_part" (defArgs s_part) (defBody s_part) (defScope s_part) .none kV_part dc_part pm_part an_part cd_part ct_part), sl_part⟩)
    (c_part : PySem.W.codeIn K cd_part "_law_part" = true)
    (k_part : PySem.W.keepIn K (.ref a_part) = true)
    (n_print : PySem.W.nsIn K mainGlobals "_law_print" = some (some (.ref a_print)))
    (l_print : K.lookup a_print = some ⟨oc_print, od_print, .func (PySem.W.fnOf "_law_print" "_law_print" (defArgs s_print) (defBody s_print) (defScope s_print) .none kV_print dc_print pm_print an_print cd_print ct_print), sl_print⟩)
    (c_print : PySem.W.codeIn K cd_print "_law_print" = true)
    (k_print : PySem.W.keepIn K (.ref a_print) = true)
    (n_count : PySem.W.nsIn K mainGlobals "_law_count" = some (some (.ref a_count)))
    (l_count : K.lookup a_count = some ⟨oc_count, od_count, .func (PySem.W.fnOf "_law_count" "_law_count" (defArgs s_count) (defBody s_count) (defScope s_count) .none kV_count dc_count pm_count an_count cd_count ct_count), sl_count⟩)
    (c_count : PySem.W.codeIn K cd_count "_law_count" = true)
    (k_count : PySem.W.keepIn K (.ref a_count) = true)
    (n_open : PySem.W.nsIn K mainGlobals "_law_open" = some (some (.ref a_open)))
    (l_open : K.lookup a_open = some ⟨oc_open, od_open, .func (PySem.W.fnOf "_law_open" "_law_open" (defArgs s_open) (defBody s_open) (defScope s_open) .none kV_open dc_open pm_open an_open cd_open ct_open), sl_open⟩)
    (c_open : PySem.W.codeIn K cd_open "_law_open" = true)
    (k_open : PySem.W.keepIn K (.ref a_open) = true)
    (n_law : PySem.W.nsIn K mainGlobals "law" = some (some (.ref a_law)))
    (l_law : K.lookup a_law = some ⟨oc_law, od_law, .func (PySem.W.fnOf "law" "law" (defArgs s_law) (defBody s_law) (defScope s_law) .none kV_law dc_law pm_law an_law cd_law ct_law), sl_law⟩)
    (c_law : PySem.W.codeIn K cd_law "law" = true)
    (k_law : PySem.W.keepIn K (.ref a_law) = true)
    (n_AnytextError : PySem.W.nsIn K mainGlobals "AnytextError" = some (some (.ref C_AnytextError)))
    (n_PatternError : PySem.W.nsIn K mainGlobals "PatternError" = some (some (.ref C_PatternError)))
    (n_SizeError : PySem.W.nsIn K mainGlobals "SizeError" = some (some (.ref C_SizeError)))
    (n_BadPattern : PySem.W.nsIn K mainGlobals "BadPattern" = some (some (.ref C_BadPattern)))
    (n_TooLarge : PySem.W.nsIn K mainGlobals "TooLarge" = some (some (.ref C_TooLarge)))
    (ini_BadPattern : PySem.W.findIn K (.ref C_BadPattern) "__init__" = some (some (.ref a_init)))
    (l_init : K.lookup a_init = some ⟨oc_init, od_init, .func (PySem.W.fnOf "__init__" "AnytextError.__init__" (defArgs s_init) (defBody s_init) (defScope s_init) (.ref T_init) kV_init dc_init pm_init an_init cd_init ct_init), sl_init⟩)
    (c_init : PySem.W.codeIn K cd_init "AnytextError.__init__" = true)
    (k_init : PySem.W.keepIn K (.ref a_init) = true)
    (ti_init : PySem.W.typeIn K (.ref a_init) = some (.type "function"))
    (lt_init : K.lookup T_init = some ⟨oc2_init, dd_init, .seq #[.none] nn_init, sm_init⟩)
    (l_BadPattern : K.lookup C_BadPattern = some (excClassObj nm_BadPattern q_BadPattern C_BadPattern N_BadPattern bs_BadPattern [.ref C_PatternError, .ref C_AnytextError, .type "ValueError", .type "Exception", .type "BaseException", .type "object"] true sn_BadPattern sb_BadPattern ab_BadPattern col_BadPattern dd_BadPattern m0_BadPattern m1_BadPattern m2_BadPattern m3_BadPattern m5_BadPattern "ValueError.__new__"))
    (sa_BadPattern : PySem.W.findIn K (.ref C_BadPattern) "__setattr__" = some (some (.builtin "object.__setattr__")))
    (ga_BadPattern : PySem.W.findIn K (.ref C_BadPattern) "__getattribute__" = some (some (.builtin "BaseException.__getattribute__")))
    (gg_BadPattern : PySem.W.findIn K (.ref C_BadPattern) "__getattr__" = some none)
    (nw_BadPattern : PySem.W.findIn K (.ref C_BadPattern) "what" = some none)
    (cc_BadPattern : PySem.W.findIn K (.ref C_BadPattern) "__class__" = some (some (.builtin "object.__class__")))
    (mo_BadPattern : PySem.W.mroIn K C_BadPattern (.type "object") = some true)
    (se_BadPattern : PySem.W.subIn K (.ref C_BadPattern) (.ref C_BadPattern) = some true)
    (kC_BadPattern : PySem.W.keepIn K (.ref C_BadPattern) = true)
    (i_BadPattern : PySem.W.isClsIn K C_BadPattern = true)
    (t_BadPattern : PySem.W.typeIn K (.ref C_BadPattern) = some (.type "type"))
    (e_BadPattern : PySem.W.subIn K (.ref C_BadPattern) (.type "BaseException") = some true)
    (h_BadPattern : PySem.W.hasDictIn K C_BadPattern = true)
    (l_TooLarge : K.lookup C_TooLarge = some (excClassObj nm_TooLarge q_TooLarge C_TooLarge N_TooLarge bs_TooLarge [.ref C_SizeError, .ref C_AnytextError, .type "ValueError", .type "Exception", .type "BaseException", .type "object"] true sn_TooLarge sb_TooLarge ab_TooLarge col_TooLarge dd_TooLarge m0_TooLarge m1_TooLarge m2_TooLarge m3_TooLarge m5_TooLarge "ValueError.__new__"))
    (sa_TooLarge : PySem.W.findIn K (.ref C_TooLarge) "__setattr__" = some (some (.builtin "object.__setattr__")))
    (ga_TooLarge : PySem.W.findIn K (.ref C_TooLarge) "__getattribute__" = some (some (.builtin "BaseException.__getattribute__")))
    (gg_TooLarge : PySem.W.findIn K (.ref C_TooLarge) "__getattr__" = some none)
    (nw_TooLarge : PySem.W.findIn K (.ref C_TooLarge) "what" = some none)
    (ini_TooLarge : PySem.W.findIn K (.ref C_TooLarge) "__init__" = some (some (.ref a_init)))
    (cc_TooLarge : PySem.W.findIn K (.ref C_TooLarge) "__class__" = some (some (.builtin "object.__class__")))
    (mo_TooLarge : PySem.W.mroIn K C_TooLarge (.type "object") = some true)
    (se_TooLarge : PySem.W.subIn K (.ref C_TooLarge) (.ref C_TooLarge) = some true)
    (kC_TooLarge : PySem.W.keepIn K (.ref C_TooLarge) = true)
    (i_TooLarge : PySem.W.isClsIn K C_TooLarge = true)
    (t_TooLarge : PySem.W.typeIn K (.ref C_TooLarge) = some (.type "type"))
    (e_TooLarge : PySem.W.subIn K (.ref C_TooLarge) (.type "BaseException") = some true)
    (h_TooLarge : PySem.W.hasDictIn K C_TooLarge = true)
    (sp_B : PySem.W.specialIn K (.builtin "object.__class__") "__get__" = some (some (.builtin "getset_descriptor.__get__")))
    (tk_B : PySem.W.takesIn K (.builtin "object.__class__") = some true)
    (n_PatternReader : PySem.W.nsIn K mainGlobals "PatternReader" = some (some (.ref C_PatternReader)))
    (pg_PatternReader : PySem.W.plainGet K C_PatternReader Str.empty = true)
    (hd_PatternReader : PySem.W.hasDictIn K C_PatternReader = true)
    (po_PatternReader : PySem.W.plainOver K C_PatternReader = true)
    (sa_PatternReader : PySem.W.findIn K (.ref C_PatternReader) "__setattr__" = some (some (.builtin "object.__setattr__")))
    (mk_PatternReader : PySem.W.makesIn K C_PatternReader = true)
    (kc_PatternReader : PySem.W.keepIn K (.ref C_PatternReader) = true)
    (na_PatternReader_letters : PySem.W.findIn K (.ref C_PatternReader) "letters" = some none)
    (na_PatternReader_text : PySem.W.findIn K (.ref C_PatternReader) "text" = some none)
    (na_PatternReader_place : PySem.W.findIn K (.ref C_PatternReader) "place" = some none)
    (na_PatternReader_open_brackets : PySem.W.findIn K (.ref C_PatternReader) "open_brackets" = some none)
    (i_PatternReader_init : PySem.W.findIn K (.ref C_PatternReader) "__init__" = some (some (.ref a_PatternReader_init)))
    (q_PatternReader_init : PySem.W.isFn K (.ref a_PatternReader_init) = true)
    (l_PatternReader_init : K.lookup a_PatternReader_init = some ⟨oc_PatternReader_init, od_PatternReader_init, .func (PySem.W.fnOf "__init__" "PatternReader.__init__" (defArgs s_PatternReader_init) (defBody s_PatternReader_init) (defScope s_PatternReader_init) .none kV_PatternReader_init dc_PatternReader_init pm_PatternReader_init an_PatternReader_init cd_PatternReader_init ct_PatternReader_init), sl_PatternReader_init⟩)
    (c_PatternReader_init : PySem.W.codeIn K cd_PatternReader_init "PatternReader.__init__" = true)
    (k_PatternReader_init : PySem.W.keepIn K (.ref a_PatternReader_init) = true)
    (i_PatternReader_faces : PySem.W.findIn K (.ref C_PatternReader) "faces" = some (some (.ref a_PatternReader_faces)))
    (q_PatternReader_faces : PySem.W.isFn K (.ref a_PatternReader_faces) = true)
    (l_PatternReader_faces : K.lookup a_PatternReader_faces = some ⟨oc_PatternReader_faces, od_PatternReader_faces, .func (PySem.W.fnOf "faces" "PatternReader.faces" (defArgs s_PatternReader_faces) (defBody s_PatternReader_faces) (defScope s_PatternReader_faces) .none kV_PatternReader_faces dc_PatternReader_faces pm_PatternReader_faces an_PatternReader_faces cd_PatternReader_faces ct_PatternReader_faces), sl_PatternReader_faces⟩)
    (c_PatternReader_faces : PySem.W.codeIn K cd_PatternReader_faces "PatternReader.faces" = true)
    (k_PatternReader_faces : PySem.W.keepIn K (.ref a_PatternReader_faces) = true)
    (i_PatternReader_take : PySem.W.findIn K (.ref C_PatternReader) "take" = some (some (.ref a_PatternReader_take)))
    (q_PatternReader_take : PySem.W.isFn K (.ref a_PatternReader_take) = true)
    (l_PatternReader_take : K.lookup a_PatternReader_take = some ⟨oc_PatternReader_take, od_PatternReader_take, .func (PySem.W.fnOf "take" "PatternReader.take" (defArgs s_PatternReader_take) (defBody s_PatternReader_take) (defScope s_PatternReader_take) .none kV_PatternReader_take dc_PatternReader_take pm_PatternReader_take an_PatternReader_take cd_PatternReader_take ct_PatternReader_take), sl_PatternReader_take⟩)
    (c_PatternReader_take : PySem.W.codeIn K cd_PatternReader_take "PatternReader.take" = true)
    (k_PatternReader_take : PySem.W.keepIn K (.ref a_PatternReader_take) = true)
    (i_PatternReader_whole : PySem.W.findIn K (.ref C_PatternReader) "whole" = some (some (.ref a_PatternReader_whole)))
    (q_PatternReader_whole : PySem.W.isFn K (.ref a_PatternReader_whole) = true)
    (l_PatternReader_whole : K.lookup a_PatternReader_whole = some ⟨oc_PatternReader_whole, od_PatternReader_whole, .func (PySem.W.fnOf "whole" "PatternReader.whole" (defArgs s_PatternReader_whole) (defBody s_PatternReader_whole) (defScope s_PatternReader_whole) .none kV_PatternReader_whole dc_PatternReader_whole pm_PatternReader_whole an_PatternReader_whole cd_PatternReader_whole ct_PatternReader_whole), sl_PatternReader_whole⟩)
    (c_PatternReader_whole : PySem.W.codeIn K cd_PatternReader_whole "PatternReader.whole" = true)
    (k_PatternReader_whole : PySem.W.keepIn K (.ref a_PatternReader_whole) = true)
    (i_PatternReader_pattern : PySem.W.findIn K (.ref C_PatternReader) "pattern" = some (some (.ref a_PatternReader_pattern)))
    (q_PatternReader_pattern : PySem.W.isFn K (.ref a_PatternReader_pattern) = true)
    (l_PatternReader_pattern : K.lookup a_PatternReader_pattern = some ⟨oc_PatternReader_pattern, od_PatternReader_pattern, .func (PySem.W.fnOf "pattern" "PatternReader.pattern" (defArgs s_PatternReader_pattern) (defBody s_PatternReader_pattern) (defScope s_PatternReader_pattern) .none kV_PatternReader_pattern dc_PatternReader_pattern pm_PatternReader_pattern an_PatternReader_pattern cd_PatternReader_pattern ct_PatternReader_pattern), sl_PatternReader_pattern⟩)
    (c_PatternReader_pattern : PySem.W.codeIn K cd_PatternReader_pattern "PatternReader.pattern" = true)
    (k_PatternReader_pattern : PySem.W.keepIn K (.ref a_PatternReader_pattern) = true)
    (i_PatternReader_meets : PySem.W.findIn K (.ref C_PatternReader) "meets" = some (some (.ref a_PatternReader_meets)))
    (q_PatternReader_meets : PySem.W.isFn K (.ref a_PatternReader_meets) = true)
    (l_PatternReader_meets : K.lookup a_PatternReader_meets = some ⟨oc_PatternReader_meets, od_PatternReader_meets, .func (PySem.W.fnOf "meets" "PatternReader.meets" (defArgs s_PatternReader_meets) (defBody s_PatternReader_meets) (defScope s_PatternReader_meets) .none kV_PatternReader_meets dc_PatternReader_meets pm_PatternReader_meets an_PatternReader_meets cd_PatternReader_meets ct_PatternReader_meets), sl_PatternReader_meets⟩)
    (c_PatternReader_meets : PySem.W.codeIn K cd_PatternReader_meets "PatternReader.meets" = true)
    (k_PatternReader_meets : PySem.W.keepIn K (.ref a_PatternReader_meets) = true)
    (i_PatternReader_row : PySem.W.findIn K (.ref C_PatternReader) "row" = some (some (.ref a_PatternReader_row)))
    (q_PatternReader_row : PySem.W.isFn K (.ref a_PatternReader_row) = true)
    (l_PatternReader_row : K.lookup a_PatternReader_row = some ⟨oc_PatternReader_row, od_PatternReader_row, .func (PySem.W.fnOf "row" "PatternReader.row" (defArgs s_PatternReader_row) (defBody s_PatternReader_row) (defScope s_PatternReader_row) .none kV_PatternReader_row dc_PatternReader_row pm_PatternReader_row an_PatternReader_row cd_PatternReader_row ct_PatternReader_row), sl_PatternReader_row⟩)
    (c_PatternReader_row : PySem.W.codeIn K cd_PatternReader_row "PatternReader.row" = true)
    (k_PatternReader_row : PySem.W.keepIn K (.ref a_PatternReader_row) = true)
    (i_PatternReader_unary : PySem.W.findIn K (.ref C_PatternReader) "unary" = some (some (.ref a_PatternReader_unary)))
    (q_PatternReader_unary : PySem.W.isFn K (.ref a_PatternReader_unary) = true)
    (l_PatternReader_unary : K.lookup a_PatternReader_unary = some ⟨oc_PatternReader_unary, od_PatternReader_unary, .func (PySem.W.fnOf "unary" "PatternReader.unary" (defArgs s_PatternReader_unary) (defBody s_PatternReader_unary) (defScope s_PatternReader_unary) .none kV_PatternReader_unary dc_PatternReader_unary pm_PatternReader_unary an_PatternReader_unary cd_PatternReader_unary ct_PatternReader_unary), sl_PatternReader_unary⟩)
    (c_PatternReader_unary : PySem.W.codeIn K cd_PatternReader_unary "PatternReader.unary" = true)
    (k_PatternReader_unary : PySem.W.keepIn K (.ref a_PatternReader_unary) = true)
    (i_PatternReader_counted : PySem.W.findIn K (.ref C_PatternReader) "counted" = some (some (.ref a_PatternReader_counted)))
    (q_PatternReader_counted : PySem.W.isFn K (.ref a_PatternReader_counted) = true)
    (l_PatternReader_counted : K.lookup a_PatternReader_counted = some ⟨oc_PatternReader_counted, od_PatternReader_counted, .func (PySem.W.fnOf "counted" "PatternReader.counted" (defArgs s_PatternReader_counted) (defBody s_PatternReader_counted) (defScope s_PatternReader_counted) .none kV_PatternReader_counted dc_PatternReader_counted pm_PatternReader_counted an_PatternReader_counted cd_PatternReader_counted ct_PatternReader_counted), sl_PatternReader_counted⟩)
    (c_PatternReader_counted : PySem.W.codeIn K cd_PatternReader_counted "PatternReader.counted" = true)
    (k_PatternReader_counted : PySem.W.keepIn K (.ref a_PatternReader_counted) = true)
    (i_PatternReader_counts : PySem.W.findIn K (.ref C_PatternReader) "counts" = some (some (.ref a_PatternReader_counts)))
    (q_PatternReader_counts : PySem.W.isFn K (.ref a_PatternReader_counts) = true)
    (l_PatternReader_counts : K.lookup a_PatternReader_counts = some ⟨oc_PatternReader_counts, od_PatternReader_counts, .func (PySem.W.fnOf "counts" "PatternReader.counts" (defArgs s_PatternReader_counts) (defBody s_PatternReader_counts) (defScope s_PatternReader_counts) .none kV_PatternReader_counts dc_PatternReader_counts pm_PatternReader_counts an_PatternReader_counts cd_PatternReader_counts ct_PatternReader_counts), sl_PatternReader_counts⟩)
    (c_PatternReader_counts : PySem.W.codeIn K cd_PatternReader_counts "PatternReader.counts" = true)
    (k_PatternReader_counts : PySem.W.keepIn K (.ref a_PatternReader_counts) = true)
    (i_PatternReader_simple : PySem.W.findIn K (.ref C_PatternReader) "simple" = some (some (.ref a_PatternReader_simple)))
    (q_PatternReader_simple : PySem.W.isFn K (.ref a_PatternReader_simple) = true)
    (l_PatternReader_simple : K.lookup a_PatternReader_simple = some ⟨oc_PatternReader_simple, od_PatternReader_simple, .func (PySem.W.fnOf "simple" "PatternReader.simple" (defArgs s_PatternReader_simple) (defBody s_PatternReader_simple) (defScope s_PatternReader_simple) .none kV_PatternReader_simple dc_PatternReader_simple pm_PatternReader_simple an_PatternReader_simple cd_PatternReader_simple ct_PatternReader_simple), sl_PatternReader_simple⟩)
    (c_PatternReader_simple : PySem.W.codeIn K cd_PatternReader_simple "PatternReader.simple" = true)
    (k_PatternReader_simple : PySem.W.keepIn K (.ref a_PatternReader_simple) = true)
    (i_PatternReader_bracketed : PySem.W.findIn K (.ref C_PatternReader) "bracketed" = some (some (.ref a_PatternReader_bracketed)))
    (q_PatternReader_bracketed : PySem.W.isFn K (.ref a_PatternReader_bracketed) = true)
    (l_PatternReader_bracketed : K.lookup a_PatternReader_bracketed = some ⟨oc_PatternReader_bracketed, od_PatternReader_bracketed, .func (PySem.W.fnOf "bracketed" "PatternReader.bracketed" (defArgs s_PatternReader_bracketed) (defBody s_PatternReader_bracketed) (defScope s_PatternReader_bracketed) .none kV_PatternReader_bracketed dc_PatternReader_bracketed pm_PatternReader_bracketed an_PatternReader_bracketed cd_PatternReader_bracketed ct_PatternReader_bracketed), sl_PatternReader_bracketed⟩)
    (c_PatternReader_bracketed : PySem.W.codeIn K cd_PatternReader_bracketed "PatternReader.bracketed" = true)
    (k_PatternReader_bracketed : PySem.W.keepIn K (.ref a_PatternReader_bracketed) = true)
    (i_PatternReader_chosen : PySem.W.findIn K (.ref C_PatternReader) "chosen" = some (some (.ref a_PatternReader_chosen)))
    (q_PatternReader_chosen : PySem.W.isFn K (.ref a_PatternReader_chosen) = true)
    (l_PatternReader_chosen : K.lookup a_PatternReader_chosen = some ⟨oc_PatternReader_chosen, od_PatternReader_chosen, .func (PySem.W.fnOf "chosen" "PatternReader.chosen" (defArgs s_PatternReader_chosen) (defBody s_PatternReader_chosen) (defScope s_PatternReader_chosen) .none kV_PatternReader_chosen dc_PatternReader_chosen pm_PatternReader_chosen an_PatternReader_chosen cd_PatternReader_chosen ct_PatternReader_chosen), sl_PatternReader_chosen⟩)
    (c_PatternReader_chosen : PySem.W.codeIn K cd_PatternReader_chosen "PatternReader.chosen" = true)
    (k_PatternReader_chosen : PySem.W.keepIn K (.ref a_PatternReader_chosen) = true)
    (z_abs : PySem.W.nsIn K mainGlobals "abs" = some none)
    (z_int : PySem.W.nsIn K mainGlobals "int" = some none)
    (z_len : PySem.W.nsIn K mainGlobals "len" = some none)
    (z_list : PySem.W.nsIn K mainGlobals "list" = some none)
    (z_max : PySem.W.nsIn K mainGlobals "max" = some none)
    (z_range : PySem.W.nsIn K mainGlobals "range" = some none)
    (z_reversed : PySem.W.nsIn K mainGlobals "reversed" = some none)
    (z_sum : PySem.W.nsIn K mainGlobals "sum" = some none)
    (z_tuple : PySem.W.nsIn K mainGlobals "tuple" = some none)
    (k_LEAVES : PySem.W.nsIn K mainGlobals "LEAVES" = some (some (.ref a_LEAVES)))
    (kt_LEAVES : K.lookup a_LEAVES = some ⟨.type "tuple", od_LEAVES, .seq #[.str "none" tk_LEAVES_0, .str "empty" tk_LEAVES_1, .str "one" tk_LEAVES_2] n_LEAVES, sl_LEAVES⟩)
    (k_STRENGTHS : PySem.W.nsIn K mainGlobals "STRENGTHS" = some (some (.ref a_STRENGTHS)))
    (dl_STRENGTHS : K.lookup a_STRENGTHS = some ⟨.type "dict", none, .dict es_STRENGTHS n_STRENGTHS, #[]⟩)
    (dk_STRENGTHS : PySem.W.KeysLit w.params es_STRENGTHS.toList)
    (do_STRENGTHS : (a_STRENGTHS == sysModules) = false)
    (dv_STRENGTHS_0 : PySem.W.nsIn K a_STRENGTHS "either" = some (some (.int 0 tk_STRENGTHS_0)))
    (dv_STRENGTHS_1 : PySem.W.nsIn K a_STRENGTHS "both" = some (some (.int 1 tk_STRENGTHS_1)))
    (dv_STRENGTHS_2 : PySem.W.nsIn K a_STRENGTHS "join" = some (some (.int 2 tk_STRENGTHS_2)))
    (dv_STRENGTHS_3 : PySem.W.nsIn K a_STRENGTHS "not" = some (some (.int 3 tk_STRENGTHS_3)))
    (dv_STRENGTHS_4 : PySem.W.nsIn K a_STRENGTHS "star" = some (some (.int 4 tk_STRENGTHS_4)))
    (dm_STRENGTHS_0 : PySem.W.nsIn K a_STRENGTHS "none" = some none)
    (dm_STRENGTHS_1 : PySem.W.nsIn K a_STRENGTHS "empty" = some none)
    (dm_STRENGTHS_2 : PySem.W.nsIn K a_STRENGTHS "one" = some none)
    (k_STRONGEST : PySem.W.nsIn K mainGlobals "STRONGEST" = some (some (.int 5 t_STRONGEST)))
    (k_SIGNS : PySem.W.nsIn K mainGlobals "SIGNS" = some (some (.ref a_SIGNS)))
    (dl_SIGNS : K.lookup a_SIGNS = some ⟨.type "dict", none, .dict es_SIGNS n_SIGNS, #[]⟩)
    (dk_SIGNS : PySem.W.KeysLit w.params es_SIGNS.toList)
    (do_SIGNS : (a_SIGNS == sysModules) = false)
    (dv_SIGNS_0 : PySem.W.nsIn K a_SIGNS "either" = some (some (.str "|" tk_SIGNS_0)))
    (dv_SIGNS_1 : PySem.W.nsIn K a_SIGNS "both" = some (some (.str "&" tk_SIGNS_1)))
    (dv_SIGNS_2 : PySem.W.nsIn K a_SIGNS "join" = some (some (.str "" tk_SIGNS_2)))
    (k_MOST_CHARACTERS : PySem.W.nsIn K mainGlobals "MOST_CHARACTERS" = some (some (.int 400 t_MOST_CHARACTERS)))
    (k_MOST_OPEN_BRACKETS : PySem.W.nsIn K mainGlobals "MOST_OPEN_BRACKETS" = some (some (.int 12 t_MOST_OPEN_BRACKETS)))
    (k_MOST_TERMS : PySem.W.nsIn K mainGlobals "MOST_TERMS" = some (some (.int 100 t_MOST_TERMS)))
    (k_EMPTY : PySem.W.nsIn K mainGlobals "EMPTY" = some (some (.ref a_EMPTY)))
    (kt_EMPTY : K.lookup a_EMPTY = some ⟨.type "tuple", od_EMPTY, .seq #[.ref a_EMPTY_0, .int 1 tk_EMPTY_1] n_EMPTY, sl_EMPTY⟩)
    (kt_EMPTY_0 : K.lookup a_EMPTY_0 = some ⟨.type "tuple", od_EMPTY_0, .seq #[.str "empty" tk_EMPTY_0_0] n_EMPTY_0, sl_EMPTY_0⟩)
    : ∃ fd : FuncData, (∀ (s : Shared) (v : Value), BindsTo s fd ⟨[v], []⟩ [("script", v)]) ∧ ∀ base : Heap, K.In base → base.Ns mainGlobals mg → FnOk l.prog w K mg base CX0 lvLaw fa fd ["script"] (spLaw K) := by
  have e := hfa.symm.trans (PySem.W.mg_of X G n_law)
  cases e
  have f_parts_of := fun_mk (st := s_parts_of) l_parts_of c_parts_of k_parts_of
  have b_parts_of := f_parts_of.binds (ps := ["term"]) fun _ _ _ _ _ _ us hl => match us, hl with | [_], _ => rfl
  have f_size := fun_mk (st := s_size) l_size c_size k_size
  have b_size := f_size.binds (ps := ["pattern"]) fun _ _ _ _ _ _ us hl => match us, hl with | [_], _ => rfl
  have f_flat_terms := fun_mk (st := s_flat_terms) l_flat_terms c_flat_terms k_flat_terms
  have b_flat_terms := f_flat_terms.binds (ps := ["pattern"]) fun _ _ _ _ _ _ us hl => match us, hl with | [_], _ => rfl
  have f_print_pattern := fun_mk (st := s_print_pattern) l_print_pattern c_print_pattern k_print_pattern
  have b_print_pattern := f_print_pattern.binds (ps := ["letters", "pattern"]) fun _ _ _ _ _ _ us hl => match us, hl with | [_, _], _ => rfl
  have f__notation := fun_mk (st := s__notation) l__notation c__notation k__notation
  have b__notation := f__notation.binds (ps := ["letters", "term", "strength", "printed"]) fun _ _ _ _ _ _ us hl => match us, hl with | [_, _, _, _], _ => rfl
  have f__notation_of_letters := fun_mk (st := s__notation_of_letters) l__notation_of_letters c__notation_of_letters k__notation_of_letters
  have b__notation_of_letters := f__notation_of_letters.binds (ps := ["letters", "kept"]) fun _ _ _ _ _ _ us hl => match us, hl with | [_, _], _ => rfl
  have f__placed := fun_mk (st := s__placed) l__placed c__placed k__placed
  have b__placed := f__placed.binds (ps := ["part", "asked"]) fun _ _ _ _ _ _ us hl => match us, hl with | [_, _], _ => rfl
  have f_read_pattern := fun_mk (st := s_read_pattern) l_read_pattern c_read_pattern k_read_pattern
  have b_read_pattern := f_read_pattern.binds (ps := ["letters", "text"]) fun _ _ _ _ _ _ us hl => match us, hl with | [_, _], _ => rfl
  have f__over := fun_mk (st := s__over) l__over c__over k__over
  have b__over := f__over.binds (ps := ["kind", "part"]) fun _ _ _ _ _ _ us hl => match us, hl with | [_, _], _ => rfl
  have f__over_two := fun_mk (st := s__over_two) l__over_two c__over_two k__over_two
  have b__over_two := f__over_two.binds (ps := ["kind", "first", "second"]) fun _ _ _ _ _ _ us hl => match us, hl with | [_, _, _], _ => rfl
  have f__one_of := fun_mk (st := s__one_of) l__one_of c__one_of k__one_of
  have b__one_of := f__one_of.binds (ps := ["kept"]) fun _ _ _ _ _ _ us hl => match us, hl with | [_], _ => rfl
  have f__times := fun_mk (st := s__times) l__times c__times k__times
  have b__times := f__times.binds (ps := ["part", "many"]) fun _ _ _ _ _ _ us hl => match us, hl with | [_, _], _ => rfl
  have f__at_most := fun_mk (st := s__at_most) l__at_most c__at_most k__at_most
  have b__at_most := f__at_most.binds (ps := ["part", "many"]) fun _ _ _ _ _ _ us hl => match us, hl with | [_, _], _ => rfl
  have f__between := fun_mk (st := s__between) l__between c__between k__between
  have b__between := f__between.binds (ps := ["part", "least", "most"]) fun _ _ _ _ _ _ us hl => match us, hl with | [_, _, _], _ => rfl
  have f_cell := fun_mk (st := s_cell) l_cell c_cell k_cell
  have b_cell := f_cell.binds (ps := ["script", "k"]) fun _ _ _ _ _ _ us hl => match us, hl with | [_, _], _ => rfl
  have f_numbers := fun_mk (st := s_numbers) l_numbers c_numbers k_numbers
  have b_numbers := f_numbers.binds (ps := ["cell", "many"]) fun _ _ _ _ _ _ us hl => match us, hl with | [_, _], _ => rfl
  have f_state := fun_mk (st := s_state) l_state c_state k_state
  have b_state := f_state.binds (ps := ["script", "start", "many"]) fun _ _ _ _ _ _ us hl => match us, hl with | [_, _, _], _ => rfl
  have f_next := fun_mk (st := s_next) l_next c_next k_next
  have b_next := f_next.binds (ps := ["state", "many"]) fun _ _ _ _ _ _ us hl => match us, hl with | [_, _], _ => rfl
  have f_letters := fun_mk (st := s_letters) l_letters c_letters k_letters
  have b_letters := f_letters.binds (ps := ["state", "most"]) fun _ _ _ _ _ _ us hl => match us, hl with | [_, _], _ => rfl
  have f_pattern := fun_mk (st := s_pattern) l_pattern c_pattern k_pattern
  have b_pattern := f_pattern.binds (ps := ["letters", "state", "deep"]) fun _ _ _ _ _ _ us hl => match us, hl with | [_, _, _], _ => rfl
  have f_strength := fun_mk (st := s_strength) l_strength c_strength k_strength
  have b_strength := f_strength.binds (ps := ["pattern"]) fun _ _ _ _ _ _ us hl => match us, hl with | [_], _ => rfl
  have f_part := fun_mk (st := s_part) l_part c_part k_part
  have b_part := f_part.binds (ps := ["letters", "pattern", "asked"]) fun _ _ _ _ _ _ us hl => match us, hl with | [_, _, _], _ => rfl
  have f_print := fun_mk (st := s_print) l_print c_print k_print
  have b_print := f_print.binds (ps := ["letters", "pattern"]) fun _ _ _ _ _ _ us hl => match us, hl with | [_, _], _ => rfl
  have f_count := fun_mk (st := s_count) l_count c_count k_count
  have b_count := f_count.binds (ps := ["pattern"]) fun _ _ _ _ _ _ us hl => match us, hl with | [_], _ => rfl
  have f_open := fun_mk (st := s_open) l_open c_open k_open
  have b_open := f_open.binds (ps := ["text"]) fun _ _ _ _ _ _ us hl => match us, hl with | [_], _ => rfl
  have f_law := fun_mk (st := s_law) l_law c_law k_law
  have b_law := f_law.binds (ps := ["script"]) fun _ _ _ _ _ _ us hl => match us, hl with | [_], _ => rfl
  have f_PatternReader_init := fun_mk (st := s_PatternReader_init) l_PatternReader_init c_PatternReader_init k_PatternReader_init
  have b_PatternReader_init := f_PatternReader_init.binds (ps := ["self", "letters", "text"]) fun _ _ _ _ _ _ us hl => match us, hl with | [_, _, _], _ => rfl
  have f_PatternReader_faces := fun_mk (st := s_PatternReader_faces) l_PatternReader_faces c_PatternReader_faces k_PatternReader_faces
  have b_PatternReader_faces := f_PatternReader_faces.binds (ps := ["self", "signs"]) fun _ _ _ _ _ _ us hl => match us, hl with | [_, _], _ => rfl
  have f_PatternReader_take := fun_mk (st := s_PatternReader_take) l_PatternReader_take c_PatternReader_take k_PatternReader_take
  have b_PatternReader_take := f_PatternReader_take.binds (ps := ["self", "signs"]) fun _ _ _ _ _ _ us hl => match us, hl with | [_, _], _ => rfl
  have f_PatternReader_whole := fun_mk (st := s_PatternReader_whole) l_PatternReader_whole c_PatternReader_whole k_PatternReader_whole
  have b_PatternReader_whole := f_PatternReader_whole.binds (ps := ["self"]) fun _ _ _ _ _ _ us hl => match us, hl with | [_], _ => rfl
  have f_PatternReader_pattern := fun_mk (st := s_PatternReader_pattern) l_PatternReader_pattern c_PatternReader_pattern k_PatternReader_pattern
  have b_PatternReader_pattern := f_PatternReader_pattern.binds (ps := ["self"]) fun _ _ _ _ _ _ us hl => match us, hl with | [_], _ => rfl
  have f_PatternReader_meets := fun_mk (st := s_PatternReader_meets) l_PatternReader_meets c_PatternReader_meets k_PatternReader_meets
  have b_PatternReader_meets := f_PatternReader_meets.binds (ps := ["self"]) fun _ _ _ _ _ _ us hl => match us, hl with | [_], _ => rfl
  have f_PatternReader_row := fun_mk (st := s_PatternReader_row) l_PatternReader_row c_PatternReader_row k_PatternReader_row
  have b_PatternReader_row := f_PatternReader_row.binds (ps := ["self"]) fun _ _ _ _ _ _ us hl => match us, hl with | [_], _ => rfl
  have f_PatternReader_unary := fun_mk (st := s_PatternReader_unary) l_PatternReader_unary c_PatternReader_unary k_PatternReader_unary
  have b_PatternReader_unary := f_PatternReader_unary.binds (ps := ["self"]) fun _ _ _ _ _ _ us hl => match us, hl with | [_], _ => rfl
  have f_PatternReader_counted := fun_mk (st := s_PatternReader_counted) l_PatternReader_counted c_PatternReader_counted k_PatternReader_counted
  have b_PatternReader_counted := f_PatternReader_counted.binds (ps := ["self"]) fun _ _ _ _ _ _ us hl => match us, hl with | [_], _ => rfl
  have f_PatternReader_counts := fun_mk (st := s_PatternReader_counts) l_PatternReader_counts c_PatternReader_counts k_PatternReader_counts
  have b_PatternReader_counts := f_PatternReader_counts.binds (ps := ["self"]) fun _ _ _ _ _ _ us hl => match us, hl with | [_], _ => rfl
  have f_PatternReader_simple := fun_mk (st := s_PatternReader_simple) l_PatternReader_simple c_PatternReader_simple k_PatternReader_simple
  have b_PatternReader_simple := f_PatternReader_simple.binds (ps := ["self"]) fun _ _ _ _ _ _ us hl => match us, hl with | [_], _ => rfl
  have f_PatternReader_bracketed := fun_mk (st := s_PatternReader_bracketed) l_PatternReader_bracketed c_PatternReader_bracketed k_PatternReader_bracketed
  have b_PatternReader_bracketed := f_PatternReader_bracketed.binds (ps := ["self"]) fun _ _ _ _ _ _ us hl => match us, hl with | [_], _ => rfl
  have f_PatternReader_chosen := fun_mk (st := s_PatternReader_chosen) l_PatternReader_chosen c_PatternReader_chosen k_PatternReader_chosen
  have b_PatternReader_chosen := f_PatternReader_chosen.binds (ps := ["self"]) fun _ _ _ _ _ _ us hl => match us, hl with | [_], _ => rfl
  have fI : FunD K "__init__" "AnytextError.__init__" (defArgs s_init) (defBody s_init) (defScope s_init) [.non] [] a_init _ := ⟨⟨oc_init, od_init, .ref T_init, kV_init, dc_init, pm_init, an_init, cd_init, ct_init, sl_init, rfl, l_init, c_init, .inr ⟨(fun z => nomatch z), T_init, _, [.none], nn_init, rfl, lt_init, rfl, .cons rfl .nil⟩, .inl rfl⟩, k_init⟩
  have bI0 := fI.binds1 (ps := ["self", "what"]) 2 1 (fun z => nomatch z) rfl fun T kV doc pm an cdv ct us its hu hi => match us, hu, its, hi with | [_, _], _, [_], _ => ⟨_, rfl, rfl⟩
  have bI : Binds K (PySem.W.fnOf "__init__" "AnytextError.__init__" (defArgs s_init) (defBody s_init) (defScope s_init) (.ref T_init) kV_init dc_init pm_init an_init cd_init ct_init) ["self", "what"] [] := by
    obtain ⟨ds, hv, hb⟩ := bI0
    cases hv
    exact hb
  have dt_LEAVES : ∀ H, Dp K H (.ref a_LEAVES) (.tuple [.str "none", .str "empty", .str "one"]) := fun H => .tup (show SqT K H a_LEAVES [.str "none", .str "empty", .str "one"] from .inr ⟨_, _, _, kt_LEAVES, rfl, rfl, by show 3 ≤ sizeLine; decide, .cons ⟨_, rfl⟩ (.cons ⟨_, rfl⟩ (.cons ⟨_, rfl⟩ (.nil)))⟩) (.cons (.str _) (.cons (.str _) (.cons (.str _) (.nil))))
  have dt_EMPTY_0 : ∀ H, Dp K H (.ref a_EMPTY_0) (.tuple [.str "empty"]) := fun H => .tup (show SqT K H a_EMPTY_0 [.str "empty"] from .inr ⟨_, _, _, kt_EMPTY_0, rfl, rfl, by show 1 ≤ sizeLine; decide, .cons ⟨_, rfl⟩ (.nil)⟩) (.cons (.str _) (.nil))
  have dt_EMPTY : ∀ H, Dp K H (.ref a_EMPTY) (.tuple [.tuple [.str "empty"], .int 1]) := fun H => .tup (show SqT K H a_EMPTY [.ref a_EMPTY_0, .int 1] from .inr ⟨_, _, _, kt_EMPTY, rfl, rfl, by show 2 ≤ sizeLine; decide, .cons rfl (.cons ⟨_, rfl⟩ (.nil))⟩) (.cons (dt_EMPTY_0 H) (.cons (.int _) (.nil)))
  let T : Txt K mg := {
    C_PatternReader := C_PatternReader, g_PatternReader := PySem.W.mg_of X G n_PatternReader, cl_PatternReader := ⟨pg_PatternReader, hd_PatternReader, po_PatternReader, sa_PatternReader⟩,
    na_PatternReader_letters := na_PatternReader_letters,
    na_PatternReader_text := na_PatternReader_text,
    na_PatternReader_place := na_PatternReader_place,
    na_PatternReader_open_brackets := na_PatternReader_open_brackets,
    a_PatternReader_init := a_PatternReader_init, d_PatternReader_init := _, f_PatternReader_init := f_PatternReader_init, b_PatternReader_init := b_PatternReader_init,
    mk_PatternReader := ⟨mk_PatternReader, i_PatternReader_init, q_PatternReader_init, kc_PatternReader⟩,
    a_PatternReader_faces := a_PatternReader_faces, d_PatternReader_faces := _, f_PatternReader_faces := f_PatternReader_faces, b_PatternReader_faces := b_PatternReader_faces,
    m_PatternReader_faces := ⟨i_PatternReader_faces, q_PatternReader_faces, k_PatternReader_faces⟩,
    a_PatternReader_take := a_PatternReader_take, d_PatternReader_take := _, f_PatternReader_take := f_PatternReader_take, b_PatternReader_take := b_PatternReader_take,
    m_PatternReader_take := ⟨i_PatternReader_take, q_PatternReader_take, k_PatternReader_take⟩,
    a_PatternReader_whole := a_PatternReader_whole, d_PatternReader_whole := _, f_PatternReader_whole := f_PatternReader_whole, b_PatternReader_whole := b_PatternReader_whole,
    m_PatternReader_whole := ⟨i_PatternReader_whole, q_PatternReader_whole, k_PatternReader_whole⟩,
    a_PatternReader_pattern := a_PatternReader_pattern, d_PatternReader_pattern := _, f_PatternReader_pattern := f_PatternReader_pattern, b_PatternReader_pattern := b_PatternReader_pattern,
    m_PatternReader_pattern := ⟨i_PatternReader_pattern, q_PatternReader_pattern, k_PatternReader_pattern⟩,
    a_PatternReader_meets := a_PatternReader_meets, d_PatternReader_meets := _, f_PatternReader_meets := f_PatternReader_meets, b_PatternReader_meets := b_PatternReader_meets,
    m_PatternReader_meets := ⟨i_PatternReader_meets, q_PatternReader_meets, k_PatternReader_meets⟩,
    a_PatternReader_row := a_PatternReader_row, d_PatternReader_row := _, f_PatternReader_row := f_PatternReader_row, b_PatternReader_row := b_PatternReader_row,
    m_PatternReader_row := ⟨i_PatternReader_row, q_PatternReader_row, k_PatternReader_row⟩,
    a_PatternReader_unary := a_PatternReader_unary, d_PatternReader_unary := _, f_PatternReader_unary := f_PatternReader_unary, b_PatternReader_unary := b_PatternReader_unary,
    m_PatternReader_unary := ⟨i_PatternReader_unary, q_PatternReader_unary, k_PatternReader_unary⟩,
    a_PatternReader_counted := a_PatternReader_counted, d_PatternReader_counted := _, f_PatternReader_counted := f_PatternReader_counted, b_PatternReader_counted := b_PatternReader_counted,
    m_PatternReader_counted := ⟨i_PatternReader_counted, q_PatternReader_counted, k_PatternReader_counted⟩,
    a_PatternReader_counts := a_PatternReader_counts, d_PatternReader_counts := _, f_PatternReader_counts := f_PatternReader_counts, b_PatternReader_counts := b_PatternReader_counts,
    m_PatternReader_counts := ⟨i_PatternReader_counts, q_PatternReader_counts, k_PatternReader_counts⟩,
    a_PatternReader_simple := a_PatternReader_simple, d_PatternReader_simple := _, f_PatternReader_simple := f_PatternReader_simple, b_PatternReader_simple := b_PatternReader_simple,
    m_PatternReader_simple := ⟨i_PatternReader_simple, q_PatternReader_simple, k_PatternReader_simple⟩,
    a_PatternReader_bracketed := a_PatternReader_bracketed, d_PatternReader_bracketed := _, f_PatternReader_bracketed := f_PatternReader_bracketed, b_PatternReader_bracketed := b_PatternReader_bracketed,
    m_PatternReader_bracketed := ⟨i_PatternReader_bracketed, q_PatternReader_bracketed, k_PatternReader_bracketed⟩,
    a_PatternReader_chosen := a_PatternReader_chosen, d_PatternReader_chosen := _, f_PatternReader_chosen := f_PatternReader_chosen, b_PatternReader_chosen := b_PatternReader_chosen,
    m_PatternReader_chosen := ⟨i_PatternReader_chosen, q_PatternReader_chosen, k_PatternReader_chosen⟩,
    a_parts_of := a_parts_of, d_parts_of := _, f_parts_of := f_parts_of, o_parts_of := ⟨PySem.W.mg_of X G n_parts_of, k_parts_of, b_parts_of⟩,
    a_size := a_size, d_size := _, f_size := f_size, o_size := ⟨PySem.W.mg_of X G n_size, k_size, b_size⟩,
    a_flat_terms := a_flat_terms, d_flat_terms := _, f_flat_terms := f_flat_terms, o_flat_terms := ⟨PySem.W.mg_of X G n_flat_terms, k_flat_terms, b_flat_terms⟩,
    a_print_pattern := a_print_pattern, d_print_pattern := _, f_print_pattern := f_print_pattern, o_print_pattern := ⟨PySem.W.mg_of X G n_print_pattern, k_print_pattern, b_print_pattern⟩,
    a__notation := a__notation, d__notation := _, f__notation := f__notation, o__notation := ⟨PySem.W.mg_of X G n__notation, k__notation, b__notation⟩,
    a__notation_of_letters := a__notation_of_letters, d__notation_of_letters := _, f__notation_of_letters := f__notation_of_letters, o__notation_of_letters := ⟨PySem.W.mg_of X G n__notation_of_letters, k__notation_of_letters, b__notation_of_letters⟩,
    a__placed := a__placed, d__placed := _, f__placed := f__placed, o__placed := ⟨PySem.W.mg_of X G n__placed, k__placed, b__placed⟩,
    a_read_pattern := a_read_pattern, d_read_pattern := _, f_read_pattern := f_read_pattern, o_read_pattern := ⟨PySem.W.mg_of X G n_read_pattern, k_read_pattern, b_read_pattern⟩,
    a__over := a__over, d__over := _, f__over := f__over, o__over := ⟨PySem.W.mg_of X G n__over, k__over, b__over⟩,
    a__over_two := a__over_two, d__over_two := _, f__over_two := f__over_two, o__over_two := ⟨PySem.W.mg_of X G n__over_two, k__over_two, b__over_two⟩,
    a__one_of := a__one_of, d__one_of := _, f__one_of := f__one_of, o__one_of := ⟨PySem.W.mg_of X G n__one_of, k__one_of, b__one_of⟩,
    a__times := a__times, d__times := _, f__times := f__times, o__times := ⟨PySem.W.mg_of X G n__times, k__times, b__times⟩,
    a__at_most := a__at_most, d__at_most := _, f__at_most := f__at_most, o__at_most := ⟨PySem.W.mg_of X G n__at_most, k__at_most, b__at_most⟩,
    a__between := a__between, d__between := _, f__between := f__between, o__between := ⟨PySem.W.mg_of X G n__between, k__between, b__between⟩,
    a_cell := a_cell, d_cell := _, f_cell := f_cell, o_cell := ⟨PySem.W.mg_of X G n_cell, k_cell, b_cell⟩,
    a_numbers := a_numbers, d_numbers := _, f_numbers := f_numbers, o_numbers := ⟨PySem.W.mg_of X G n_numbers, k_numbers, b_numbers⟩,
    a_state := a_state, d_state := _, f_state := f_state, o_state := ⟨PySem.W.mg_of X G n_state, k_state, b_state⟩,
    a_next := a_next, d_next := _, f_next := f_next, o_next := ⟨PySem.W.mg_of X G n_next, k_next, b_next⟩,
    a_letters := a_letters, d_letters := _, f_letters := f_letters, o_letters := ⟨PySem.W.mg_of X G n_letters, k_letters, b_letters⟩,
    a_pattern := a_pattern, d_pattern := _, f_pattern := f_pattern, o_pattern := ⟨PySem.W.mg_of X G n_pattern, k_pattern, b_pattern⟩,
    a_strength := a_strength, d_strength := _, f_strength := f_strength, o_strength := ⟨PySem.W.mg_of X G n_strength, k_strength, b_strength⟩,
    a_part := a_part, d_part := _, f_part := f_part, o_part := ⟨PySem.W.mg_of X G n_part, k_part, b_part⟩,
    a_print := a_print, d_print := _, f_print := f_print, o_print := ⟨PySem.W.mg_of X G n_print, k_print, b_print⟩,
    a_count := a_count, d_count := _, f_count := f_count, o_count := ⟨PySem.W.mg_of X G n_count, k_count, b_count⟩,
    a_open := a_open, d_open := _, f_open := f_open, o_open := ⟨PySem.W.mg_of X G n_open, k_open, b_open⟩,
    a_law := _, d_law := _, f_law := f_law, o_law := ⟨PySem.W.mg_of X G n_law, k_law, b_law⟩,
    a_init := a_init, d_init := _, T_init := T_init, f_init := fI, tI := ti_init, bI := bI,
    C_AnytextError := C_AnytextError,
    C_PatternError := C_PatternError,
    C_SizeError := C_SizeError,
    C_BadPattern := C_BadPattern,
    C_TooLarge := C_TooLarge,
    g_BadPattern := PySem.W.mg_of X G n_BadPattern,
    g_TooLarge := PySem.W.mg_of X G n_TooLarge,
    x_BadPattern := ⟨⟨⟨nm_BadPattern, q_BadPattern, N_BadPattern, bs_BadPattern, _, sn_BadPattern, sb_BadPattern, ab_BadPattern, col_BadPattern, dd_BadPattern, m0_BadPattern, m1_BadPattern, m2_BadPattern, m3_BadPattern, m5_BadPattern, l_BadPattern, by rfl⟩, sa_BadPattern, e_BadPattern, t_BadPattern, kC_BadPattern⟩, ⟨ga_BadPattern, gg_BadPattern, e_BadPattern, h_BadPattern⟩, nw_BadPattern, ini_BadPattern, i_BadPattern, cc_BadPattern, mo_BadPattern, se_BadPattern⟩,
    x_TooLarge := ⟨⟨⟨nm_TooLarge, q_TooLarge, N_TooLarge, bs_TooLarge, _, sn_TooLarge, sb_TooLarge, ab_TooLarge, col_TooLarge, dd_TooLarge, m0_TooLarge, m1_TooLarge, m2_TooLarge, m3_TooLarge, m5_TooLarge, l_TooLarge, by rfl⟩, sa_TooLarge, e_TooLarge, t_TooLarge, kC_TooLarge⟩, ⟨ga_TooLarge, gg_TooLarge, e_TooLarge, h_TooLarge⟩, nw_TooLarge, ini_TooLarge, i_TooLarge, cc_TooLarge, mo_TooLarge, se_TooLarge⟩,
    clsB := ⟨sp_B, tk_B⟩,
    nb_abs := PySem.W.mg_none_of X G z_abs,
    nb_int := PySem.W.mg_none_of X G z_int,
    nb_len := PySem.W.mg_none_of X G z_len,
    nb_list := PySem.W.mg_none_of X G z_list,
    nb_max := PySem.W.mg_none_of X G z_max,
    nb_range := PySem.W.mg_none_of X G z_range,
    nb_reversed := PySem.W.mg_none_of X G z_reversed,
    nb_sum := PySem.W.mg_none_of X G z_sum,
    nb_tuple := PySem.W.mg_none_of X G z_tuple,
    a_LEAVES := a_LEAVES, c_LEAVES := PySem.W.mg_of X G k_LEAVES, v_LEAVES := dt_LEAVES,
    a_STRENGTHS := a_STRENGTHS, c_STRENGTHS := PySem.W.mg_of X G k_STRENGTHS,
    t_STRONGEST := t_STRONGEST, c_STRONGEST := PySem.W.mg_of X G k_STRONGEST,
    a_SIGNS := a_SIGNS, c_SIGNS := PySem.W.mg_of X G k_SIGNS,
    t_MOST_CHARACTERS := t_MOST_CHARACTERS, c_MOST_CHARACTERS := PySem.W.mg_of X G k_MOST_CHARACTERS,
    t_MOST_OPEN_BRACKETS := t_MOST_OPEN_BRACKETS, c_MOST_OPEN_BRACKETS := PySem.W.mg_of X G k_MOST_OPEN_BRACKETS,
    t_MOST_TERMS := t_MOST_TERMS, c_MOST_TERMS := PySem.W.mg_of X G k_MOST_TERMS,
    a_EMPTY := a_EMPTY, c_EMPTY := PySem.W.mg_of X G k_EMPTY, v_EMPTY := dt_EMPTY }
  have DC : Dcs T w := { l_STRENGTHS := ⟨_, _, dl_STRENGTHS, dk_STRENGTHS⟩, o_STRENGTHS := do_STRENGTHS, v_STRENGTHS_0 := ⟨_, _, _, dl_STRENGTHS, dk_STRENGTHS, dv_STRENGTHS_0, ⟨_, rfl⟩⟩, v_STRENGTHS_1 := ⟨_, _, _, dl_STRENGTHS, dk_STRENGTHS, dv_STRENGTHS_1, ⟨_, rfl⟩⟩, v_STRENGTHS_2 := ⟨_, _, _, dl_STRENGTHS, dk_STRENGTHS, dv_STRENGTHS_2, ⟨_, rfl⟩⟩, v_STRENGTHS_3 := ⟨_, _, _, dl_STRENGTHS, dk_STRENGTHS, dv_STRENGTHS_3, ⟨_, rfl⟩⟩, v_STRENGTHS_4 := ⟨_, _, _, dl_STRENGTHS, dk_STRENGTHS, dv_STRENGTHS_4, ⟨_, rfl⟩⟩, m_STRENGTHS_0 := ⟨_, _, dl_STRENGTHS, dk_STRENGTHS, do_STRENGTHS, dm_STRENGTHS_0⟩, m_STRENGTHS_1 := ⟨_, _, dl_STRENGTHS, dk_STRENGTHS, do_STRENGTHS, dm_STRENGTHS_1⟩, m_STRENGTHS_2 := ⟨_, _, dl_STRENGTHS, dk_STRENGTHS, do_STRENGTHS, dm_STRENGTHS_2⟩, l_SIGNS := ⟨_, _, dl_SIGNS, dk_SIGNS⟩, o_SIGNS := do_SIGNS, v_SIGNS_0 := ⟨_, _, _, dl_SIGNS, dk_SIGNS, dv_SIGNS_0, ⟨_, rfl⟩⟩, v_SIGNS_1 := ⟨_, _, _, dl_SIGNS, dk_SIGNS, dv_SIGNS_1, ⟨_, rfl⟩⟩, v_SIGNS_2 := ⟨_, _, _, dl_SIGNS, dk_SIGNS, dv_SIGNS_2, ⟨_, rfl⟩⟩ }
  exact ⟨T.d_law, fun s v => .of_eq rfl, fun base _ _ => ok_law T DC⟩
end AT
open PySem PySem.W PyProof.Rows
set_option maxRecDepth 100000 in
set_option maxHeartbeats 0 in
theorem PySem.Challenge.cw_anytext_k03_printed_patterns_holds : PySem.Challenge.rw_anytext_k03_printed_patterns.Holds := by
  w_on; o_law; k_head; (case hw => w_witness2)
  k_fill
  refine L2.walk_ofK (l := PySem.Challenge.rw_anytext_k03_printed_patterns) (n := 63) (k := AT.lvLaw) (x := "script") (CX := L2.CX0) (sp := AT.spLaw) rfl (by decide) rfl ⟨rfl, by decide, by decide⟩ (fun w h Y => PySem.W.kIn_of Y) ?F (fun _ _ a ns hl _ hS => ⟨a, ns, rfl, hS, hl, fun _ => rfl⟩) fun _ _ _ _ z => z
  case F =>
    intro w mg fa h KX G hmg
    refine' AT.all_mk KX G hmg ?n_parts_of ?l_parts_of ?c_parts_of ?k_parts_of ?n_size ?l_size ?c_size ?k_size ?n_flat_terms ?l_flat_terms ?c_flat_terms ?k_flat_terms ?n_print_pattern ?l_print_pattern ?c_print_pattern ?k_print_pattern ?n__notation ?l__notation ?c__notation ?k__notation ?n__notation_of_letters ?l__notation_of_letters ?c__notation_of_letters ?k__notation_of_letters ?n__placed ?l__placed ?c__placed ?k__placed ?n_read_pattern ?l_read_pattern ?c_read_pattern ?k_read_pattern ?n__over ?l__over ?c__over ?k__over ?n__over_two ?l__over_two ?c__over_two ?k__over_two ?n__one_of ?l__one_of ?c__one_of ?k__one_of ?n__times ?l__times ?c__times ?k__times ?n__at_most ?l__at_most ?c__at_most ?k__at_most ?n__between ?l__between ?c__between ?k__between ?n_cell ?l_cell ?c_cell ?k_cell ?n_numbers ?l_numbers ?c_numbers ?k_numbers ?n_state ?l_state ?c_state ?k_state ?n_next ?l_next ?c_next ?k_next ?n_letters ?l_letters ?c_letters ?k_letters ?n_pattern ?l_pattern ?c_pattern ?k_pattern ?n_strength ?l_strength ?c_strength ?k_strength ?n_part ?l_part ?c_part ?k_part ?n_print ?l_print ?c_print ?k_print ?n_count ?l_count ?c_count ?k_count ?n_open ?l_open ?c_open ?k_open ?n_law ?l_law ?c_law ?k_law ?n_AnytextError ?n_PatternError ?n_SizeError ?n_BadPattern ?n_TooLarge ?ini_BadPattern ?l_init ?c_init ?k_init ?ti_init ?lt_init ?l_BadPattern ?sa_BadPattern ?ga_BadPattern ?gg_BadPattern ?nw_BadPattern ?cc_BadPattern ?mo_BadPattern ?se_BadPattern ?kC_BadPattern ?i_BadPattern ?t_BadPattern ?e_BadPattern ?h_BadPattern ?l_TooLarge ?sa_TooLarge ?ga_TooLarge ?gg_TooLarge ?nw_TooLarge ?ini_TooLarge ?cc_TooLarge ?mo_TooLarge ?se_TooLarge ?kC_TooLarge ?i_TooLarge ?t_TooLarge ?e_TooLarge ?h_TooLarge ?sp_B ?tk_B ?n_PatternReader ?pg_PatternReader ?hd_PatternReader ?po_PatternReader ?sa_PatternReader ?mk_PatternReader ?kc_PatternReader ?na_PatternReader_letters ?na_PatternReader_text ?na_PatternReader_place ?na_PatternReader_open_brackets ?i_PatternReader_init ?q_PatternReader_init ?l_PatternReader_init ?c_PatternReader_init ?k_PatternReader_init ?i_PatternReader_faces ?q_PatternReader_faces ?l_PatternReader_faces ?c_PatternReader_faces ?k_PatternReader_faces ?i_PatternReader_take ?q_PatternReader_take ?l_PatternReader_take ?c_PatternReader_take ?k_PatternReader_take ?i_PatternReader_whole ?q_PatternReader_whole ?l_PatternReader_whole ?c_PatternReader_whole ?k_PatternReader_whole ?i_PatternReader_pattern ?q_PatternReader_pattern ?l_PatternReader_pattern ?c_PatternReader_pattern ?k_PatternReader_pattern ?i_PatternReader_meets ?q_PatternReader_meets ?l_PatternReader_meets ?c_PatternReader_meets ?k_PatternReader_meets ?i_PatternReader_row ?q_PatternReader_row ?l_PatternReader_row ?c_PatternReader_row ?k_PatternReader_row ?i_PatternReader_unary ?q_PatternReader_unary ?l_PatternReader_unary ?c_PatternReader_unary ?k_PatternReader_unary ?i_PatternReader_counted ?q_PatternReader_counted ?l_PatternReader_counted ?c_PatternReader_counted ?k_PatternReader_counted ?i_PatternReader_counts ?q_PatternReader_counts ?l_PatternReader_counts ?c_PatternReader_counts ?k_PatternReader_counts ?i_PatternReader_simple ?q_PatternReader_simple ?l_PatternReader_simple ?c_PatternReader_simple ?k_PatternReader_simple ?i_PatternReader_bracketed ?q_PatternReader_bracketed ?l_PatternReader_bracketed ?c_PatternReader_bracketed ?k_PatternReader_bracketed ?i_PatternReader_chosen ?q_PatternReader_chosen ?l_PatternReader_chosen ?c_PatternReader_chosen ?k_PatternReader_chosen ?z_abs ?z_int ?z_len ?z_list ?z_max ?z_range ?z_reversed ?z_sum ?z_tuple ?k_LEAVES ?kt_LEAVES ?k_STRENGTHS ?dl_STRENGTHS ?dk_STRENGTHS ?do_STRENGTHS ?dv_STRENGTHS_0 ?dv_STRENGTHS_1 ?dv_STRENGTHS_2 ?dv_STRENGTHS_3 ?dv_STRENGTHS_4 ?dm_STRENGTHS_0 ?dm_STRENGTHS_1 ?dm_STRENGTHS_2 ?k_STRONGEST ?k_SIGNS ?dl_SIGNS ?dk_SIGNS ?do_SIGNS ?dv_SIGNS_0 ?dv_SIGNS_1 ?dv_SIGNS_2 ?k_MOST_CHARACTERS ?k_MOST_OPEN_BRACKETS ?k_MOST_TERMS ?k_EMPTY ?kt_EMPTY ?kt_EMPTY_0
    (case n_parts_of => k_is); (case l_parts_of => k_is); (case c_parts_of => k_is); (case k_parts_of => k_is); (case n_size => k_is); (case l_size => k_is)
    (case c_size => k_is); (case k_size => k_is); (case n_flat_terms => k_is); (case l_flat_terms => k_is); (case c_flat_terms => k_is); (case k_flat_terms => k_is)
    (case n_print_pattern => k_is); (case l_print_pattern => k_is); (case c_print_pattern => k_is); (case k_print_pattern => k_is); (case n__notation => k_is); (case l__notation => k_is)
    (case c__notation => k_is); (case k__notation => k_is); (case n__notation_of_letters => k_is); (case l__notation_of_letters => k_is); (case c__notation_of_letters => k_is); (case k__notation_of_letters => k_is)
    (case n__placed => k_is); (case l__placed => k_is); (case c__placed => k_is); (case k__placed => k_is); (case n_read_pattern => k_is); (case l_read_pattern => k_is)
    (case c_read_pattern => k_is); (case k_read_pattern => k_is); (case n__over => k_is); (case l__over => k_is); (case c__over => k_is); (case k__over => k_is)
    (case n__over_two => k_is); (case l__over_two => k_is); (case c__over_two => k_is); (case k__over_two => k_is); (case n__one_of => k_is); (case l__one_of => k_is)
    (case c__one_of => k_is); (case k__one_of => k_is); (case n__times => k_is); (case l__times => k_is); (case c__times => k_is); (case k__times => k_is)
    (case n__at_most => k_is); (case l__at_most => k_is); (case c__at_most => k_is); (case k__at_most => k_is); (case n__between => k_is); (case l__between => k_is)
    (case c__between => k_is); (case k__between => k_is); (case n_cell => k_is); (case l_cell => k_is); (case c_cell => k_is); (case k_cell => k_is)
    (case n_numbers => k_is); (case l_numbers => k_is); (case c_numbers => k_is); (case k_numbers => k_is); (case n_state => k_is); (case l_state => k_is)
    (case c_state => k_is); (case k_state => k_is); (case n_next => k_is); (case l_next => k_is); (case c_next => k_is); (case k_next => k_is)
    (case n_letters => k_is); (case l_letters => k_is); (case c_letters => k_is); (case k_letters => k_is); (case n_pattern => k_is); (case l_pattern => k_is)
    (case c_pattern => k_is); (case k_pattern => k_is); (case n_strength => k_is); (case l_strength => k_is); (case c_strength => k_is); (case k_strength => k_is)
    (case n_part => k_is); (case l_part => k_is); (case c_part => k_is); (case k_part => k_is); (case n_print => k_is); (case l_print => k_is)
    (case c_print => k_is); (case k_print => k_is); (case n_count => k_is); (case l_count => k_is); (case c_count => k_is); (case k_count => k_is)
    (case n_open => k_is); (case l_open => k_is); (case c_open => k_is); (case k_open => k_is); (case n_law => k_is); (case l_law => k_is)
    (case c_law => k_is); (case k_law => k_is); (case n_AnytextError => k_is); (case n_PatternError => k_is); (case n_SizeError => k_is); (case n_BadPattern => k_is)
    (case n_TooLarge => k_is); (case ini_BadPattern => k_is); (case l_init => k_is); (case c_init => k_is); (case k_init => k_is); (case ti_init => k_is)
    (case lt_init => k_is); (case l_BadPattern => k_is); (case sa_BadPattern => k_is); (case ga_BadPattern => k_is); (case gg_BadPattern => k_is); (case nw_BadPattern => k_is)
    (case cc_BadPattern => k_is); (case mo_BadPattern => k_is); (case se_BadPattern => k_is); (case kC_BadPattern => k_is); (case i_BadPattern => k_is); (case t_BadPattern => k_is)
    (case e_BadPattern => k_is); (case h_BadPattern => k_is); (case l_TooLarge => k_is); (case sa_TooLarge => k_is); (case ga_TooLarge => k_is); (case gg_TooLarge => k_is)
    (case nw_TooLarge => k_is); (case ini_TooLarge => k_is); (case cc_TooLarge => k_is); (case mo_TooLarge => k_is); (case se_TooLarge => k_is); (case kC_TooLarge => k_is)
    (case i_TooLarge => k_is); (case t_TooLarge => k_is); (case e_TooLarge => k_is); (case h_TooLarge => k_is); (case sp_B => k_is); (case tk_B => k_is)
    (case n_PatternReader => k_is); (case pg_PatternReader => k_is); (case hd_PatternReader => k_is); (case po_PatternReader => k_is); (case sa_PatternReader => k_is); (case mk_PatternReader => k_is)
    (case kc_PatternReader => k_is); (case na_PatternReader_letters => k_is); (case na_PatternReader_text => k_is); (case na_PatternReader_place => k_is); (case na_PatternReader_open_brackets => k_is); (case i_PatternReader_init => k_is)
    (case q_PatternReader_init => k_is); (case l_PatternReader_init => k_is); (case c_PatternReader_init => k_is); (case k_PatternReader_init => k_is); (case i_PatternReader_faces => k_is); (case q_PatternReader_faces => k_is)
    (case l_PatternReader_faces => k_is); (case c_PatternReader_faces => k_is); (case k_PatternReader_faces => k_is); (case i_PatternReader_take => k_is); (case q_PatternReader_take => k_is); (case l_PatternReader_take => k_is)
    (case c_PatternReader_take => k_is); (case k_PatternReader_take => k_is); (case i_PatternReader_whole => k_is); (case q_PatternReader_whole => k_is); (case l_PatternReader_whole => k_is); (case c_PatternReader_whole => k_is)
    (case k_PatternReader_whole => k_is); (case i_PatternReader_pattern => k_is); (case q_PatternReader_pattern => k_is); (case l_PatternReader_pattern => k_is); (case c_PatternReader_pattern => k_is); (case k_PatternReader_pattern => k_is)
    (case i_PatternReader_meets => k_is); (case q_PatternReader_meets => k_is); (case l_PatternReader_meets => k_is); (case c_PatternReader_meets => k_is); (case k_PatternReader_meets => k_is); (case i_PatternReader_row => k_is)
    (case q_PatternReader_row => k_is); (case l_PatternReader_row => k_is); (case c_PatternReader_row => k_is); (case k_PatternReader_row => k_is); (case i_PatternReader_unary => k_is); (case q_PatternReader_unary => k_is)
    (case l_PatternReader_unary => k_is); (case c_PatternReader_unary => k_is); (case k_PatternReader_unary => k_is); (case i_PatternReader_counted => k_is); (case q_PatternReader_counted => k_is); (case l_PatternReader_counted => k_is)
    (case c_PatternReader_counted => k_is); (case k_PatternReader_counted => k_is); (case i_PatternReader_counts => k_is); (case q_PatternReader_counts => k_is); (case l_PatternReader_counts => k_is); (case c_PatternReader_counts => k_is)
    (case k_PatternReader_counts => k_is); (case i_PatternReader_simple => k_is); (case q_PatternReader_simple => k_is); (case l_PatternReader_simple => k_is); (case c_PatternReader_simple => k_is); (case k_PatternReader_simple => k_is)
    (case i_PatternReader_bracketed => k_is); (case q_PatternReader_bracketed => k_is); (case l_PatternReader_bracketed => k_is); (case c_PatternReader_bracketed => k_is); (case k_PatternReader_bracketed => k_is); (case i_PatternReader_chosen => k_is)
    (case q_PatternReader_chosen => k_is); (case l_PatternReader_chosen => k_is); (case c_PatternReader_chosen => k_is); (case k_PatternReader_chosen => k_is); (case z_abs => k_is); (case z_int => k_is)
    (case z_len => k_is); (case z_list => k_is); (case z_max => k_is); (case z_range => k_is); (case z_reversed => k_is); (case z_sum => k_is)
    (case z_tuple => k_is); (case k_LEAVES => k_is); (case kt_LEAVES => k_is); (case k_STRENGTHS => k_is); (case dl_STRENGTHS => k_is); (case dk_STRENGTHS => repeat' (first | exact True.intro | refine ⟨⟨_, _, rfl, rfl⟩, ?_⟩))
    (case do_STRENGTHS => kernel_rfl); (case dv_STRENGTHS_0 => k_is); (case dv_STRENGTHS_1 => k_is); (case dv_STRENGTHS_2 => k_is); (case dv_STRENGTHS_3 => k_is); (case dv_STRENGTHS_4 => k_is)
    (case dm_STRENGTHS_0 => k_is); (case dm_STRENGTHS_1 => k_is); (case dm_STRENGTHS_2 => k_is); (case k_STRONGEST => k_is); (case k_SIGNS => k_is); (case dl_SIGNS => k_is)
    (case dk_SIGNS => repeat' (first | exact True.intro | refine ⟨⟨_, _, rfl, rfl⟩, ?_⟩)); (case do_SIGNS => kernel_rfl); (case dv_SIGNS_0 => k_is); (case dv_SIGNS_1 => k_is); (case dv_SIGNS_2 => k_is); (case k_MOST_CHARACTERS => k_is)
    (case k_MOST_OPEN_BRACKETS => k_is); (case k_MOST_TERMS => k_is); (case k_EMPTY => k_is); (case kt_EMPTY => k_is); (case kt_EMPTY_0 => k_is)

